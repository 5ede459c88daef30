import PyProof.Rows.All
import Wide.All
import OpenK.AllK
import Wide.FinOn
import Lean
import PyProof.EqAt
import PyProof.EqKinds
import PyProof.TupleCall
import PySem.Challenge.RW_sandline_k15_whole_lines_turned
import KE.KDictList
import PyProof.CompUse
import PyProof.Rows.SortRuns
import PyProof.Rows.SortShell
import PyProof.FactsAll.list_2
import PyProof.FactsAll.tuple_2
import KE.KSortTup
set_option Elab.async false
set_option linter.all false
set_option maxRecDepth 100000
set_option maxHeartbeats 4000000
namespace L2
open PySem
theorem with_toks {α : Type} {M : Model} {A : Around} {t : Sem α} {Q : α → Shared → Prop} {E : Value → Shared → Prop} {s : Shared} (h : wpAny M A t (fun a s' => s.toks ≤ s'.toks → Q a s') (fun e s' => s.toks ≤ s'.toks → E e s') s) : wpAny M A t Q E s :=
  wpAny_with_toks (Nat.le_refl _) h
end L2
namespace L2
open PySem PySem.Spec PyProof.Rows
abbrev Key := Sum Int Str
def keyIs : Key → Value → Bool
  | .inl k, v => Value.isInt k v
  | .inr x, v => Value.isStrOf x v
def keyH (w : World) : Key → Int
  | .inl k => hashInt k
  | .inr x => hashStr w x
theorem keyIs_shape : ∀ {k : Key} {v : Value}, keyIs k v = true → (∃ i t, k = Sum.inl i ∧ v = Value.int i t) ∨ (∃ x t, k = Sum.inr x ∧ v = Value.str x t)
  | .inl i, v, h => by
    obtain ⟨t, e⟩ := Value.isInt_shape (k := i) (v := v) h
    exact .inl ⟨i, t, rfl, e⟩
  | .inr x, v, h => by
    obtain ⟨t, e⟩ := Value.isStrOf_shape (x := x) (v := v) h
    exact .inr ⟨x, t, rfl, e⟩
theorem keyIs_int (i : Int) (t : Tok) : keyIs (.inl i) (.int i t) = true := by simp [keyIs, Value.isInt]
theorem keyIs_str (x : Str) (t : Tok) : keyIs (.inr x) (.str x t) = true := by simp [keyIs, Value.isStrOf]
theorem key_ll (a b : Int) : decide ((Sum.inl a : Key) = Sum.inl b) = (a == b) := by
  by_cases e : a = b
  · subst e; simp
  · have h : ¬ (Sum.inl a : Key) = Sum.inl b := fun q => e (Sum.inl.inj q)
    rw [decide_eq_false h]
    exact (beq_eq_false_iff_ne.mpr e).symm
theorem key_rr (a b : Str) : decide ((Sum.inr a : Key) = Sum.inr b) = decide (a = b) := by
  by_cases e : a = b
  · subst e; simp
  · have h : ¬ (Sum.inr a : Key) = Sum.inr b := fun q => e (Sum.inr.inj q)
    rw [decide_eq_false h, decide_eq_false e]
theorem key_lr (a : Int) (b : Str) : decide ((Sum.inl a : Key) = Sum.inr b) = false := decide_eq_false (fun q => nomatch q)
theorem key_rl (a : Str) (b : Int) : decide ((Sum.inr a : Key) = Sum.inl b) = false := decide_eq_false (fun q => nomatch q)
def mixKind (prog : Program) (w : World) : PySem.KeyKind prog w Key where
  is := keyIs
  hash := keyH w
  inj := fun v a b ha hb => by
    rcases keyIs_shape ha with ⟨i, t, rfl, rfl⟩ | ⟨x, t, rfl, rfl⟩
    · rcases keyIs_shape hb with ⟨j, u, rfl, e⟩ | ⟨y, u, rfl, e⟩
      · injection e with e1 _; rw [e1]
      · exact nomatch e
    · rcases keyIs_shape hb with ⟨j, u, rfl, e⟩ | ⟨y, u, rfl, e⟩
      · exact nomatch e
      · injection e with e1 _; rw [e1]
  byValue := fun k v h => by
    rcases keyIs_shape h with ⟨i, t, rfl, rfl⟩ | ⟨x, t, rfl, rfl⟩ <;> rfl
  pyHash := fun hv h => by
    rcases keyIs_shape hv with ⟨i, t, rfl, rfl⟩ | ⟨x, t, rfl, rfl⟩
    · exact wpAny_pyHash_int h
    · exact wpAny_pyHash_str h
  eqBool := fun hu hv h => by
    rcases keyIs_shape hu with ⟨i, t, rfl, rfl⟩ | ⟨x, t, rfl, rfl⟩
    · rcases keyIs_shape hv with ⟨j, u, rfl, rfl⟩ | ⟨y, u, rfl, rfl⟩
      · rw [key_ll] at h; exact wpAny_eqBool_int h
      · rw [key_lr] at h; exact SeqAt.EqAt.int_str i t y u _ _ _ _ h
    · rcases keyIs_shape hv with ⟨j, u, rfl, rfl⟩ | ⟨y, u, rfl, rfl⟩
      · rw [key_rl] at h; exact SeqAt.EqAt.str_int x t j u _ _ _ _ h
      · rw [key_rr] at h; exact wpAny_eqBool_str h
  «strs» := fun k x t v h => by
    rcases keyIs_shape h with ⟨i, u, rfl, e⟩ | ⟨y, u, rfl, e⟩
    · exact nomatch e
    · injection e with e1 _
      subst e1
      cases v <;> rfl
theorem mixKind_int (prog : Program) (w : World) (i : Int) (t : Tok) : (mixKind prog w).is (.inl i) (.int i t) = true := keyIs_int i t
theorem mixKind_str (prog : Program) (w : World) (x : Str) (t : Tok) : (mixKind prog w).is (.inr x) (.str x t) = true := keyIs_str x t
end L2
namespace L2
open PySem PySem.Spec PyProof.Rows
inductive V where
  | non | bl (b : Bool) | int (i : Int) | str (x : Str) | byt (b : Array UInt8) | flt (b : UInt64) | ref (a : Addr) | ty (n : String)
  deriving DecidableEq
def RelV : V → Value → Prop
  | .non, u => u = Value.none
  | .bl b, u => u = Value.bool b
  | .int i, u => ∃ t, u = Value.int i t
  | .str x, u => ∃ t, u = Value.str x t
  | .byt b, u => ∃ t, u = Value.bytes b t
  | .flt b, u => ∃ t, u = Value.float b t
  | .ref a, u => u = Value.ref a
  | .ty n, u => u = Value.type n
abbrev Vals : List V → List Value → Prop := Paired RelV
theorem Vals.length {xs : List V} {us : List Value} (r : Vals xs us) : xs.length = us.length := Paired.length r
theorem Vals.get : ∀ {xs : List V} {us : List Value} {i : Nat} {x : V}, Vals xs us → xs[i]? = some x → ∃ u, us[i]? = some u ∧ RelV x u
  | _, _, _, _, .nil, e => by simp at e
  | _, _, 0, _, .cons r _, e => by simp at e; subst e; exact ⟨_, rfl, r⟩
  | _, _, i + 1, x, .cons _ t, e => by
    obtain ⟨u, h1, h2⟩ := Vals.get (i := i) (x := x) t (by simpa using e)
    exact ⟨u, by simpa using h1, h2⟩
theorem Vals.set {x : V} {u : Value} (r : RelV x u) : ∀ {xs : List V} {us : List Value} (i : Nat), Vals xs us → Vals (xs.set i x) (us.set i u)
  | _, _, _, .nil => .nil
  | _, _, 0, .cons _ t => .cons r t
  | _, _, i + 1, .cons q t => .cons q (Vals.set r i t)
theorem Vals.append : ∀ {xs ys : List V} {us ws : List Value}, Vals xs us → Vals ys ws → Vals (xs ++ ys) (us ++ ws)
  | _, _, _, _, .nil, s => s
  | _, _, _, _, .cons r t, s => .cons r (Vals.append t s)
theorem Vals.take : ∀ {xs : List V} {us : List Value} (n : Nat), Vals xs us → Vals (xs.take n) (us.take n)
  | _, _, 0, _ => .nil
  | _, _, _ + 1, .nil => .nil
  | _, _, n + 1, .cons r t => .cons r (Vals.take n t)
theorem Vals.drop : ∀ {xs : List V} {us : List Value} (n : Nat), Vals xs us → Vals (xs.drop n) (us.drop n)
  | _, _, 0, r => r
  | _, _, _ + 1, .nil => .nil
  | _, _, n + 1, .cons _ t => Vals.drop n t
theorem Vals.none_of : ∀ {xs : List V} {us : List Value} {i : Nat}, Vals xs us → xs[i]? = none → us[i]? = none := fun {xs us i} r e => by
  have h1 := r.length
  have h2 : xs.length ≤ i := List.getElem?_eq_none_iff.mp e
  exact List.getElem?_eq_none_iff.mpr (by omega)
def RelO : Option V → Option Value → Prop
  | some v, some u => RelV v u
  | none, none => True
  | _, _ => False
def KV {κ : Type} : List (κ × V) → List (κ × Value) → Prop := Paired fun (p : κ × V) (q : κ × Value) => p.1 = q.1 ∧ RelV p.2 q.2
def kV : Key → V
  | .inl i => .int i
  | .inr x => .str x
inductive HO where
  | lst (xs : List V)
  | tup (xs : List V)
  | dK (kvs : List (Key × V)) | dT (kvs : List (List Key × V))
  | set (S : Int → Bool) (n : Nat)
  | ins (C dx : Addr) (fs : List (Str × V))
  | own (x : Addr)
  | xd (fs : List (Str × V))
  | met (f x : Addr)
  | rng (lo hi : Int)
  | frz (o : Obj) (u : HO)
  | tbl (ps : Array Value)
  | ext (φ : Heap → Prop)
abbrev Hp := Addr → Option HO
def upd (H : Hp) (a : Addr) (o : HO) : Hp := fun b => if b = a then some o else H b
theorem upd_same {H : Hp} {a : Addr} {o : HO} : upd H a o a = some o := by unfold upd; rw [if_pos rfl]
theorem upd_ne {H : Hp} {a b : Addr} {o : HO} (h : b ≠ a) : upd H a o b = H b := by unfold upd; rw [if_neg h]
theorem upd_upd {H : Hp} {a : Addr} {o u : HO} : upd (upd H a o) a u = upd H a u := by
  funext b; unfold upd; split <;> rfl
theorem ne_of {H : Hp} {a b : Addr} {o u : HO} (h : H a = some o) (h' : H b = some u) (d : o ≠ u) : a ≠ b := by
  intro e; subst e; rw [h] at h'; exact d (Option.some.inj h')
theorem ne_of_none {H : Hp} {a b : Addr} {o : HO} (h : H a = some o) (h' : H b = none) : a ≠ b := by
  intro e; subst e; rw [h] at h'; cases h'
section
variable (P : Program) (w : World)
def ObjOk (H : Hp) (h : Heap) (a : Addr) : HO → Prop
  | .lst xs => xs.length ≤ sizeLine ∧ ∃ (its : List Value) (n : Nat), Vals xs its ∧ h.get? a = some { cls := .type "list", data := .seq its.toArray n }
  | .tup xs => xs.length ≤ sizeLine ∧ ∃ its : List Value, Vals xs its ∧ IsTup h a its.toArray
  | .dK kvs => kvs.length ≤ sizeLine ∧ (a == sysModules) = false ∧ ∃ vs, KV kvs vs ∧ h.DictOf (mixKind P w) a vs
  | .dT kvs => kvs.length ≤ sizeLine ∧ (a == sysModules) = false ∧ ∃ xs : List (List Key × Addr × Value),
      Paired (fun (p : List Key × V) (q : List Key × Addr × Value) => p.1 = q.1 ∧ H q.2.1 = some (.tup (p.1.map kV)) ∧ RelV p.2 q.2.2) kvs xs ∧
      ∃ o es ep, h.get? a = some o ∧ o.ExactDict ∧ o.data = .dict es ep ∧ es.toList = xs.map (entryOfKey (tupleKind (mixKind P w))) ∧ (xs.map (·.1)).Nodup
  | .set S n => h.SetOf (intKind P w) a S n
  | .ins C dx fs => H dx = some (.own a) ∧ fs.length ≤ 1000 ∧ dx ≠ a ∧ h.get? a = some (PySem.W.instObj C dx) ∧
      ∃ mA, h.Ns1 dx mA ∧ (∀ f, RelO (fs.lookup f) (mA f)) ∧ PySem.Within mA (fs.map (·.1))
  | .own _ => ∃ o, h.get? a = some o
  | .xd fs => ∃ mA, h.Ns1 a mA ∧ ∀ f, RelO (fs.lookup f) (mA f)
  | .rng lo hi => ∃ t u v, h.get? a = some { cls := .type "range", data := .fields #[.int lo t, .int hi u, .int 1 v] }
  | .frz o u => h.get? a = some o ∧ ObjOk H h a u
  | .tbl ps => h.get? a = some { cls := .none, data := .fields ps }
  | .met f x => h.get? a = some (PySem.W.methodObj (.ref f) (.ref x))
  | .ext φ => φ h ∧ (∃ o, h.get? a = some o) ∧ ∀ h1 h2 : Heap, φ h1 → (∀ o, h1.get? a = some o → h2.get? a = some o) → φ h2
def HOk (H : Hp) (h : Heap) : Prop := ∀ a o, H a = some o → ObjOk P w H h a o
end
section
variable {P : Program} {w : World} {H H' : Hp} {h h' : Heap} {a : Addr} {o : HO}
theorem ObjOk.lt (x : ObjOk P w H h a o) : a < h.objs.size := by
  cases o with
  | lst xs => obtain ⟨_, _, _, _, e⟩ := x; exact Heap.lt_size e
  | tup xs => obtain ⟨_, _, _, p⟩ := x; exact p.lt
  | dK kvs => obtain ⟨_, _, _, _, o, _, _, e, _⟩ := x; exact Heap.lt_size e
  | dT kvs => obtain ⟨_, _, _, _, o, _, _, e, _⟩ := x; exact Heap.lt_size e
  | set S n => obtain ⟨o, _, _, _, e, _⟩ := x; exact Heap.lt_size e
  | ins C dx fs => obtain ⟨_, _, _, e, _⟩ := x; exact Heap.lt_size e
  | own y => obtain ⟨_, e⟩ := x; exact Heap.lt_size e
  | xd fs => obtain ⟨_, ⟨_, _, _, e, _⟩, _⟩ := x; exact Heap.lt_size e
  | rng lo hi => obtain ⟨_, _, _, e⟩ := x; exact Heap.lt_size e
  | frz ob u => obtain ⟨e, _⟩ := x; exact Heap.lt_size e
  | tbl ps => exact Heap.lt_size (show h.get? a = some _ from x)
  | met f y => exact Heap.lt_size (show h.get? a = some _ from x)
  | ext φ => obtain ⟨_, ⟨_, e⟩, _⟩ := x; exact Heap.lt_size e
theorem Paired.mapP {α β : Type} {F G : α → β → Prop} : ∀ {l₁ : List α} {l₂ : List β}, Paired F l₁ l₂ → (∀ a b, F a b → G a b) → Paired G l₁ l₂
  | _, _, .nil, _ => .nil
  | _, _, .cons r t, f => .cons (f _ _ r) (Paired.mapP t f)
theorem ObjOk.stay (x : ObjOk P w H h a o) (k : ∀ b u, (b = a ∨ H b = some (.own a)) → h.get? b = some u → h'.get? b = some u)
    (ho : ∀ b, H b = some (.own a) → H' b = some (.own a)) (ht : ∀ b xs, H b = some (.tup xs) → H' b = some (.tup xs)) : ObjOk P w H' h' a o := by
  induction o with
  | lst xs => obtain ⟨z, its, n, r, e⟩ := x; exact ⟨z, its, n, r, k _ _ (.inl rfl) e⟩
  | tup xs => obtain ⟨z, its, r, ob, e, c⟩ := x; exact ⟨z, its, r, ob, k _ _ (.inl rfl) e, c⟩
  | dK kvs => obtain ⟨z, y, vs, r, ob, es, ep, e, c⟩ := x; exact ⟨z, y, vs, r, ob, es, ep, k _ _ (.inl rfl) e, c⟩
  | dT kvs =>
    obtain ⟨z, y, xs, r, ob, es, ep, e, c⟩ := x
    exact ⟨z, y, xs, Paired.mapP r fun p q z => ⟨z.1, ht _ _ z.2.1, z.2.2⟩, ob, es, ep, k _ _ (.inl rfl) e, c⟩
  | set S n => obtain ⟨ob, es, ep, t, e, c⟩ := x; exact ⟨ob, es, ep, t, k _ _ (.inl rfl) e, c⟩
  | ins C dx fs =>
    obtain ⟨d, z, ne, e, mA, ⟨od, es, ep, e2, c⟩, r⟩ := x
    exact ⟨ho _ d, z, ne, k _ _ (.inl rfl) e, mA, ⟨od, es, ep, k _ _ (.inr d) e2, c⟩, r⟩
  | own y => obtain ⟨ob, e⟩ := x; exact ⟨ob, k _ _ (.inl rfl) e⟩
  | xd fs => obtain ⟨mA, ⟨od, es, ep, e, c⟩, r⟩ := x; exact ⟨mA, ⟨od, es, ep, k _ _ (.inl rfl) e, c⟩, r⟩
  | rng lo hi => obtain ⟨t, u, v, e⟩ := x; exact ⟨t, u, v, k _ _ (.inl rfl) e⟩
  | frz ob u ih => obtain ⟨e, q⟩ := x; exact ⟨k _ _ (.inl rfl) e, ih q⟩
  | tbl ps =>
    have e : h.get? a = some { cls := .none, data := .fields ps } := x
    show h'.get? a = some { cls := .none, data := .fields ps }
    exact k a _ (.inl rfl) e
  | met f y =>
    have e : h.get? a = some (PySem.W.methodObj (.ref f) (.ref y)) := x
    show h'.get? a = some (PySem.W.methodObj (.ref f) (.ref y))
    exact k a _ (.inl rfl) e
  | ext φ => obtain ⟨p, ⟨o, e⟩, st⟩ := x; exact ⟨st _ _ p fun o q => k _ _ (.inl rfl) q, ⟨o, k _ _ (.inl rfl) e⟩, st⟩
theorem HOk.lt (x : HOk P w H h) (e : H a = some o) : a < h.objs.size := (x a o e).lt
theorem HOk.fresh (x : HOk P w H h) (e : h.objs.size ≤ a) : H a = none := by
  cases q : H a with
  | none => rfl
  | some u => exact absurd (Nat.lt_of_lt_of_le (x.lt q) e) (Nat.lt_irrefl _)
theorem HOk.kept (x : HOk P w H h) (k : ∀ b u, h.get? b = some u → h'.get? b = some u) : HOk P w H h' := fun a o e =>
  (x a o e).stay (fun b u _ q => k b u q) (fun _ q => q) fun _ _ q => q
theorem HOk.laid (x : HOk P w H h) (k : ∀ b u, h.get? b = some u → h'.get? b = some u) (hp : h.objs.size ≤ a) (new : ObjOk P w (upd H a o) h' a o) : HOk P w (upd H a o) h' := fun b u e => by
  have hn := x.fresh hp
  by_cases hb : b = a
  · subst hb; rw [upd_same] at e; cases e; exact new
  · rw [upd_ne hb] at e
    exact (x b u e).stay (fun c v _ q => k c v q) (fun c q => by rw [upd_ne (ne_of_none q hn)]; exact q) fun c xs q => by rw [upd_ne (ne_of_none q hn)]; exact q
end
def Rd (H : Hp) (a : Addr) (u : HO) : Prop := H a = some u ∨ ∃ o, H a = some (.frz o u)
theorem Rd.of {H : Hp} {a : Addr} {u : HO} (h : H a = some u) : Rd H a u := .inl h
theorem Rd.ok {P : Program} {w : World} {H : Hp} {h : Heap} {a : Addr} {u : HO} (r : Rd H a u) (x : HOk P w H h) : ObjOk P w H h a u := by
  rcases r with r | ⟨o, r⟩
  · exact x a u r
  · obtain ⟨_, q⟩ := x a _ r
    exact q
def Mut : Option HO → Prop
  | some (.lst _) => True
  | some (.dK _) => True
  | some (.dT _) => True
  | some (.set _ _) => True
  | some (.ins _ _ _) => True
  | some (.ext _) => True
  | _ => False
section
variable {P : Program} {w : World} {H : Hp} {h h' : Heap} {x e : Addr} {o' : HO}
theorem HOk.write (ok : HOk P w H h) (mu : Mut (H x)) (he : e = x ∨ H e = some (.own x)) (k : ∀ b u, b ≠ e → h.get? b = some u → h'.get? b = some u) (heo : ∃ u, h'.get? e = some u)
    (new : ObjOk P w (upd H x o') h' x o') : HOk P w (upd H x o') h' := fun b u q => by
  have nown : ∀ c y, H c = some (.own y) → c ≠ x := fun c y r z => by subst z; rw [r] at mu; exact mu
  have ntup : ∀ c xs, H c = some (.tup xs) → c ≠ x := fun c xs r z => by subst z; rw [r] at mu; exact mu
  by_cases hb : b = x
  · subst hb; rw [upd_same] at q; cases q; exact new
  · rw [upd_ne hb] at q
    by_cases hbe : b = e
    · have q' : H b = some (.own x) := by
        rcases he with z | z
        · exact absurd (hbe.trans z) hb
        · rw [hbe]; exact z
      rw [q] at q'; cases q'
      obtain ⟨v, hv⟩ := heo
      exact ⟨v, by rw [hbe]; exact hv⟩
    · refine (ok b u q).stay (fun c v hc r => k c v ?_ r) (fun c r => by rw [upd_ne (nown c b r)]; exact r) fun c xs r => by rw [upd_ne (ntup c xs r)]; exact r
      rcases hc with rfl | hc
      · exact hbe
      · rintro rfl
        rcases he with z | z
        · exact nown c b hc z
        · rw [hc] at z; cases z; exact hb rfl
end
structure Un (fs ex : List Addr) (H H' : Hp) (h h' : Heap) : Prop where
  keep : ∀ b o, h.get? b = some o → H b = none → b ∉ fs → b ∉ ex → h'.get? b = some o
  slot : ∀ b o, h.get? b = some o → H b = none → b ∈ fs → b ∉ ex → ∃ sl, h'.get? b = some { o with slots := sl }
  free : ∀ b o, h.get? b = some o → H b = none → b ∉ ex → H' b = none
  there : ∀ b o, h.get? b = some o → b ∉ ex → ∃ o', h'.get? b = some o'
  tups : ∀ b xs, H b = some (.tup xs) → H' b = some (.tup xs)
  frzs : ∀ b o u, H b = some (.frz o u) → H' b = some (.frz o u)
  tbls : ∀ b ps, H b = some (.tbl ps) → ∃ more, H' b = some (.tbl (ps ++ more))
section
variable {fs fs' ex ex' : List Addr} {H H1 H2 : Hp} {h h1 h2 h' : Heap} {a x e : Addr} {o : HO}
theorem Un.any (u : Un fs ex H H1 h h1) {b : Addr} {ob : Obj} (q : h.get? b = some ob) (n : H b = none) (hx : b ∉ ex) : ∃ sl, h1.get? b = some { ob with slots := sl } := by
  by_cases hb : b ∈ fs
  · exact u.slot b ob q n hb hx
  · exact ⟨ob.slots, u.keep b ob q n hb hx⟩
theorem Un.trans (a : Un fs ex H H1 h h1) (b : Un fs ex H1 H2 h1 h2) : Un fs ex H H2 h h2 where
  keep := fun c ob q n hc hx => b.keep c ob (a.keep c ob q n hc hx) (a.free c ob q n hx) hc hx
  slot := fun c ob q n hc hx => by
    obtain ⟨sl, e1⟩ := a.slot c ob q n hc hx
    obtain ⟨sl', e2⟩ := b.slot c _ e1 (a.free c ob q n hx) hc hx
    exact ⟨sl', e2⟩
  free := fun c ob q n hx => by
    obtain ⟨o', e1⟩ := a.there c ob q hx
    exact b.free c o' e1 (a.free c ob q n hx) hx
  there := fun c ob q hx => by
    obtain ⟨o', e1⟩ := a.there c ob q hx
    exact b.there c o' e1 hx
  tups := fun c xs q => b.tups c xs (a.tups c xs q)
  frzs := fun c ob xs q => b.frzs c ob xs (a.frzs c ob xs q)
  tbls := fun c ps q => by
    obtain ⟨m1, e1⟩ := a.tbls c ps q
    obtain ⟨m2, e2⟩ := b.tbls c _ e1
    exact ⟨m1 ++ m2, by rw [e2, Array.append_assoc]⟩
theorem Un.kept (k : ∀ b u, h.get? b = some u → h'.get? b = some u) : Un fs ex H H h h' :=
  ⟨fun b ob q _ _ _ => k b ob q, fun b ob q _ _ _ => ⟨ob.slots, k b ob q⟩, fun _ _ _ n _ => n, fun b ob q _ => ⟨ob, k b ob q⟩, fun _ _ q => q, fun _ _ _ q => q, fun _ ps q => ⟨#[], by rw [q]; simp⟩⟩
theorem Un.refl : Un fs ex H H h h := Un.kept fun _ _ q => q
theorem Un.laid (k : ∀ b u, h.get? b = some u → h'.get? b = some u) (hp : h.objs.size ≤ a) (hn : H a = none) : Un fs ex H (upd H a o) h h' where
  keep := fun b u q _ _ _ => k b u q
  slot := fun b u q _ _ _ => ⟨u.slots, k b u q⟩
  free := fun b u q n _ => by rw [upd_ne (Nat.ne_of_lt (Nat.lt_of_lt_of_le (Heap.lt_size q) hp))]; exact n
  there := fun b u q _ => ⟨u, k b u q⟩
  tups := fun b xs q => by rw [upd_ne (ne_of_none q hn)]; exact q
  frzs := fun b u xs q => by rw [upd_ne (ne_of_none q hn)]; exact q
  tbls := fun b ps q => ⟨#[], by rw [upd_ne (ne_of_none q hn), q]; simp⟩
theorem Un.write (mu : Mut (H x)) (he : e = x ∨ H e = some (.own x)) (k : ∀ b u, b ≠ e → h.get? b = some u → h'.get? b = some u) (heo : ∃ u, h'.get? e = some u) : Un fs ex H (upd H x o) h h' := by
  have hx : ∀ b, H b = none → b ≠ x := fun b n z => by subst z; rw [n] at mu; exact mu
  have hb : ∀ b, H b = none → b ≠ e := fun b n z => by
    subst z
    rcases he with r | r
    · exact hx b n r
    · rw [n] at r; cases r
  have hm : ∀ b u, H b = some u → ¬ Mut (some u) → b ≠ x := fun b u q nm z => by subst z; rw [q] at mu; exact nm mu
  refine ⟨fun b u q n _ _ => k b u (hb b n) q, fun b u q n _ _ => ⟨u.slots, k b u (hb b n) q⟩, fun b u q n _ => by rw [upd_ne (hx b n)]; exact n, fun b u q _ => ?_,
    fun b xs q => by rw [upd_ne (hm b _ q fun z => z)]; exact q, fun b u xs q => by rw [upd_ne (hm b _ q fun z => z)]; exact q, fun b ps q => ⟨#[], by rw [upd_ne (hm b _ q fun z => z), q]; simp⟩⟩
  by_cases hbe : b = e
  · subst hbe; exact heo
  · exact ⟨u, k b u hbe q⟩
theorem Un.mono (u : Un fs ex H H1 h h1) (hs : ∀ b ∈ fs, b ∈ fs') (hx : ∀ b ∈ ex, b ∈ ex') : Un fs' ex' H H1 h h1 :=
  ⟨fun b ob q n hb he => u.keep b ob q n (fun z => hb (hs b z)) fun z => he (hx b z), fun _ _ q n _ he => u.any q n fun z => he (hx _ z), fun b ob q n he => u.free b ob q n fun z => he (hx b z), fun b ob q he => u.there b ob q fun z => he (hx b z), u.tups, u.frzs, u.tbls⟩
end
def trk (h : Heap) (H : Hp) : List Addr := (List.range h.objs.size).filter fun a => (H a).isSome
def hidT (h : Heap) (H : Hp) : Heap := PySem.W.hideAll h (trk h H)
theorem hidT_size (h : Heap) (H : Hp) : (hidT h H).objs.size = h.objs.size := PySem.W.hideAll_size _ _
theorem hidT_get {h : Heap} {H : Hp} {b : Addr} {o : Obj} (e : h.get? b = some o) (n : H b = none) : (hidT h H).get? b = some o :=
  PySem.W.hideAll_get _ e fun hm => by
    have q : (H b).isSome = true := (List.mem_filter.mp hm).2
    rw [n] at q; simp at q
theorem of_hidT {h : Heap} {H : Hp} {b : Addr} {o : Obj} (e : (hidT h H).get? b = some o) : h.get? b = some o ∧ H b = none := by
  have e' : h.get? b = some o := PySem.W.of_hideAll (trk h H) e
  refine ⟨e', ?_⟩
  cases q : H b with
  | none => rfl
  | some x =>
    have hm : b ∈ trk h H := List.mem_filter.mpr ⟨List.mem_range.mpr (Heap.lt_size e'), by simp [q]⟩
    have z : (hidT h H).get? b = none := PySem.W.hideAll_none (trk h H) hm
    rw [z] at e; cases e
def allNews (g h : Heap) (L : Addr) : List (Addr × Obj) := (List.range h.objs.size).filterMap fun a => if a = L ∨ (g.get? a).isSome = true then none else (h.get? a).map fun o => (a, o)
def rest (g h : Heap) (L d : Addr) : List (Addr × Obj) := (allNews g h L).filter fun p => decide (p.1 ≠ d)
end L2
namespace L2
open PySem PySem.Spec PyProof.Rows
structure Mod (K : PySem.W.Frag) (mg : Str → Option Value) (base : Heap) : Prop where
  kin : K.In base
  glob : base.Ns mainGlobals mg
  blt : ∃ mb, base.Ns builtinsNs mb ∧ ∀ x : Str, x ≠ "__name__" → mb x = bootBuiltins x
  nolimit : base.NoLimit
structure Cx where
  prog : Program
  w : World
  K : PySem.W.Frag
  mg : Str → Option Value
  base : Heap
  A : Around
  N : List Str
  s₀ : Shared
  H₀ : Hp
  env : Env
  outer : List Env
  stack : List Env
  ex : List Addr
  fn : Str → Bool
  calm : Bool
  pn : List (Addr × Obj)
  xe : Value → Shared → Prop
def lowT (K : PySem.W.Frag) : Nat := match PySem.W.nsIn K mainGlobals "NO_MIRROR" with
  | some (some (.str _ t)) => t + 1
  | _ => 0
def frs (l : List Env) : List Addr := l.filterMap (·.frame)
abbrev Cx.fs (X : Cx) : List Addr := frs X.outer
def Vis (sc : Scope) (x : Str) : Prop := sc.names.lookup x = some .local ∨ sc.names.lookup x = some .cell ∨ sc.names.lookup x = some .free
def Loc (sc : Scope) (x : Str) : Prop := sc.names.lookup x = some .local ∨ sc.names.lookup x = some .cell
def Look (env : Env) (h : Heap) (m : Str → Option Value) (x : Str) (u : Value) : Prop :=
  (env.kindOf x = some .local ∧ m x = some u) ∨ ((env.kindOf x = some .cell ∨ env.kindOf x = some .free) ∧ ∃ c, env.cells.lookup x = some c ∧ h.IsCell c (some u))
structure Cx.Ok (X : Cx) : Prop where
  mod : Mod X.K X.mg X.base
  kind : X.env.scope.kind = .function
  glob : X.env.globals = mainGlobals
  blt : X.env.builtins = builtinsNs
  above : X.s₀.heap.objs.size ≤ X.env.locals
  inj : ∀ x y c, X.env.cells.lookup x = some c → X.env.cells.lookup y = some c → x = y
  has : ∀ x, (X.env.kindOf x = some .cell ∨ X.env.kindOf x = some .free) → ∃ c, X.env.cells.lookup x = some c
  cab : ∀ x c, X.fn x = true → X.env.cells.lookup x = some c → X.s₀.heap.objs.size ≤ c
  hd : X.calm = true → X.A.handled = none
  frames : X.A.frames = some X.stack
  stk : X.stack = X.outer ∨ (X.stack = X.env :: X.outer ∧ X.env.frame = some X.env.locals)
  exf : ∀ b ∈ X.ex, b ≠ X.env.locals ∧ ∀ x c, X.env.cells.lookup x = some c → c ≠ b
  bs : ∀ b o, X.base.get? b = some o → X.s₀.heap.get? b = some o ∧ X.H₀ b = none
  bsz : X.base.objs.size ≤ X.s₀.heap.objs.size
  noex : ∀ b o, X.base.get? b = some o → b ∉ X.ex
  exfs : ∀ b ∈ X.ex, b ∉ X.fs
  funs : X.s₀.heap.FunFrames X.base X.outer
  frf : ∀ b ∈ X.fs, X.H₀ b = none
  low : lowT X.K ≤ X.s₀.toks
structure Inv (X : Cx) (pins : List (Addr × Obj)) (σ : List (Option V)) (H : Hp) (s : Shared) : Prop where
  ok : X.Ok
  os : s.os = X.s₀.os
  bare : AllBare s.gens
  base : Un X.fs X.ex X.H₀ H X.s₀.heap s.heap
  loc : ∃ m, s.heap.Ns X.env.locals m ∧ ∀ (i : Nat) (x : Str) (v : V), X.N[i]? = some x → σ[i]? = some (some v) → Vis X.env.scope x → ∃ u, RelV v u ∧ Look X.env s.heap m x u
  cell : ∀ x c, X.env.cells.lookup x = some c → ∃ v, s.heap.IsCell c v
  free : H X.env.locals = none
  freeC : ∀ x c, X.env.cells.lookup x = some c → H c = none
  pin : ∀ p ∈ X.pn ++ pins, s.heap.get? p.1 = some p.2 ∧ H p.1 = none ∧ p.1 ≠ X.env.locals ∧ p.1 ∉ X.fs ∧ ∀ v, p.2.data ≠ .cell v
  hok : HOk X.prog X.w H s.heap
  len : σ.length = X.N.length
  tk : X.s₀.toks ≤ s.toks
section
variable {X : Cx} {pins : List (Addr × Obj)} {σ : List (Option V)} {H H' : Hp} {s : Shared} {h' : Heap}
theorem Cx.Ok.nofr (ok : X.Ok) {b : Addr} {o : Obj} (e : X.base.get? b = some o) : b ∉ X.fs := fun hb => by
  have := (ok.funs.mem hb).1
  rw [e] at this; cases this
theorem Inv.bs (I : Inv X pins σ H s) : ∀ b o, X.base.get? b = some o → s.heap.get? b = some o ∧ H b = none := fun b o e =>
  ⟨I.base.keep b o (I.ok.bs b o e).1 (I.ok.bs b o e).2 (I.ok.nofr e) (I.ok.noex b o e), I.base.free b o (I.ok.bs b o e).1 (I.ok.bs b o e).2 (I.ok.noex b o e)⟩
theorem Inv.bk (I : Inv X pins σ H s) : ∀ b o, X.base.get? b = some o → s.heap.get? b = some o := fun b o e => (I.bs b o e).1
theorem Inv.mod (I : Inv X pins σ H s) : Mod X.K X.mg X.base := I.ok.mod
theorem Inv.kIn (I : Inv X pins σ H s) : X.K.In s.heap := I.ok.mod.kin.keeps I.bk
theorem Inv.nolimit (I : Inv X pins σ H s) : s.heap.NoLimit := I.ok.mod.nolimit.keeps I.bk
theorem Inv.lt (I : Inv X pins σ H s) : X.env.locals < s.heap.objs.size := let ⟨_, hn, _⟩ := I.loc; hn.lt
theorem Inv.sz (I : Inv X pins σ H s) : X.s₀.heap.objs.size ≤ s.heap.objs.size := Nat.le_trans I.ok.above (Nat.le_of_lt I.lt)
theorem Inv.nofs (I : Inv X pins σ H s) {a : Addr} (h : s.heap.objs.size ≤ a) : a ∉ X.fs := fun hb => by
  obtain ⟨_, o, ho, _⟩ := I.ok.funs.mem hb
  exact absurd (Nat.lt_of_lt_of_le (Heap.lt_size ho) (Nat.le_trans I.sz h)) (Nat.lt_irrefl _)
theorem Inv.cne (I : Inv X pins σ H s) : ∀ x c, X.env.cells.lookup x = some c → c ≠ X.env.locals := fun x c e z => by
  obtain ⟨v, o, ho, hd⟩ := I.cell x c e
  obtain ⟨m, ⟨o', es, ep, ho', hd', _⟩, _⟩ := I.loc
  rw [z, ho'] at ho; cases ho; rw [hd'] at hd; cases hd
theorem Inv.funs (I : Inv X pins σ H s) : s.heap.FunFrames X.base X.outer := by
  have all : ∀ (l : List Env), (∀ b ∈ frs l, b ∈ X.fs) → X.s₀.heap.FunFrames X.base l → s.heap.FunFrames X.base l := by
    intro l
    induction l with
    | nil => intro _ _; trivial
    | cons env r ih =>
      intro hs hl
      obtain ⟨hk, ⟨L, o, hf, hn, ho, hd⟩, hr⟩ := hl
      have hL : L ∈ X.fs := hs L (by unfold frs; rw [List.filterMap_cons, hf]; exact List.mem_cons_self)
      obtain ⟨sl, e⟩ := I.base.slot L o ho (I.ok.frf L hL) hL fun z => I.ok.exfs L z hL
      exact ⟨hk, ⟨L, _, hf, hn, e, hd⟩, ih (fun b hb => hs b (by unfold frs; rw [List.filterMap_cons, hf]; exact List.mem_cons_of_mem _ hb)) hr⟩
  exact all X.outer (fun _ hb => hb) I.ok.funs
theorem Inv.stack (I : Inv X pins σ H s) : s.heap.FunFrames X.base X.stack := by
  rcases I.ok.stk with e | ⟨e, hf⟩
  · rw [e]; exact I.funs
  · rw [e]
    obtain ⟨m, hn, _⟩ := I.loc
    refine .cons (by rw [I.ok.kind]; decide) hf hn ?_ I.funs
    exact Heap.get?_none_of_le (Nat.le_trans I.ok.bsz I.ok.above)
theorem Inv.stkSub (I : Inv X pins σ H s) : ∀ b ∈ frs X.stack, b ∈ X.env.locals :: X.fs := fun b hb => by
  rcases I.ok.stk with e | ⟨e, hf⟩
  · rw [e] at hb; exact List.mem_cons_of_mem _ hb
  · rw [e] at hb
    unfold frs at hb
    rw [List.filterMap_cons, hf] at hb
    exact hb
theorem Inv.stkFree (I : Inv X pins σ H s) : ∀ b ∈ frs X.stack, H b = none := fun b hb => by
  rcases List.mem_cons.mp (I.stkSub b hb) with e | hb
  · rw [e]; exact I.free
  · obtain ⟨_, o, ho, _⟩ := I.ok.funs.mem hb
    exact I.base.free b o ho (I.ok.frf b hb) fun z => I.ok.exfs b z hb
theorem Inv.step {g' : Array GenState} {t' : Nat} {d' : Drawn} {ch : List Addr} (I : Inv X pins σ H s)
    (hch : ∀ b ∈ ch, (b ∈ X.ex ∨ X.s₀.heap.objs.size ≤ b) ∧ b ≠ X.env.locals ∧ (∀ x c, X.env.cells.lookup x = some c → c ≠ b) ∧ ∀ p ∈ X.pn ++ pins, p.1 ≠ b)
    (keep : ∀ b o, b ≠ X.env.locals → b ∉ X.fs → b ∉ ch → s.heap.get? b = some o → H b = none → h'.get? b = some o)
    (slot : ∀ b o, b ≠ X.env.locals → b ∈ X.fs → b ∉ ch → s.heap.get? b = some o → H b = none → ∃ sl, h'.get? b = some { o with slots := sl }) (free : ∀ b o, b ∉ ch → s.heap.get? b = some o → H b = none → H' b = none)
    (there : ∀ b o, b ∉ ch → s.heap.get? b = some o → ∃ o', h'.get? b = some o')
    (tups : ∀ b xs, H b = some (.tup xs) → H' b = some (.tup xs)) (frzs : ∀ b o u, H b = some (.frz o u) → H' b = some (.frz o u)) (tbls : ∀ b ps, H b = some (.tbl ps) → ∃ more, H' b = some (.tbl (ps ++ more)))
    (ns : ∀ m, s.heap.Ns X.env.locals m → h'.Ns X.env.locals m) (hok : HOk X.prog X.w H' h') (hg : AllBare g') (ht : s.toks ≤ t' := by first | exact Nat.le_refl _ | exact Nat.le_succ _ | assumption | omega) :
    Inv X pins σ H' { s with heap := h', gens := g', drawn := d', toks := t' } := by
  have neL : ∀ b o, X.s₀.heap.get? b = some o → b ≠ X.env.locals := fun b o e => Nat.ne_of_lt (Nat.lt_of_lt_of_le (Heap.lt_size e) I.ok.above)
  have neC : ∀ b o, X.s₀.heap.get? b = some o → b ∉ X.ex → b ∉ ch := fun b o e hx hb => by
    rcases (hch b hb).1 with z | z
    · exact hx z
    · exact absurd (Nat.lt_of_lt_of_le (Heap.lt_size e) z) (Nat.lt_irrefl _)
  have cellK : ∀ x c, X.env.cells.lookup x = some c → ∀ v, s.heap.IsCell c v → h'.IsCell c v := fun x c e v ⟨o, ho, hd⟩ => by
    have nch : c ∉ ch := fun z => (hch c z).2.2.1 x c e rfl
    by_cases hc : c ∈ X.fs
    · obtain ⟨sl, q⟩ := slot c o (I.cne x c e) hc nch ho (I.freeC x c e)
      exact ⟨_, q, hd⟩
    · exact ⟨o, keep c o (I.cne x c e) hc nch ho (I.freeC x c e), hd⟩
  refine ⟨I.ok, I.os, hg, ⟨fun b o e n hb hx => ?_, fun b o e n hb hx => ?_, fun b o e n hx => ?_, fun b o e hx => ?_, fun b xs e => tups b xs (I.base.tups b xs e), fun b o xs e => frzs b o xs (I.base.frzs b o xs e), fun b ps e => ?_⟩, ?_, fun x c e => ?_, ?_, fun x c e => ?_, fun p hp => ?_, hok, I.len, Nat.le_trans I.tk ht⟩
  · exact keep b o (neL b o e) hb (neC b o e hx) (I.base.keep b o e n hb hx) (I.base.free b o e n hx)
  · obtain ⟨sl, e1⟩ := I.base.slot b o e n hb hx
    obtain ⟨sl', e2⟩ := slot b _ (neL b o e) hb (neC b o e hx) e1 (I.base.free b o e n hx)
    exact ⟨sl', e2⟩
  · obtain ⟨o', e1⟩ := I.base.there b o e hx
    exact free b o' (neC b o e hx) e1 (I.base.free b o e n hx)
  · obtain ⟨o', e1⟩ := I.base.there b o e hx
    exact there b o' (neC b o e hx) e1
  · obtain ⟨m1, e1⟩ := I.base.tbls b ps e
    obtain ⟨m2, e2⟩ := tbls b _ e1
    exact ⟨m1 ++ m2, by rw [e2, Array.append_assoc]⟩
  · obtain ⟨m, hn, hl⟩ := I.loc
    refine ⟨m, ns m hn, fun i x v e1 e2 e3 => ?_⟩
    obtain ⟨u, r, l⟩ := hl i x v e1 e2 e3
    refine ⟨u, r, ?_⟩
    rcases l with l | ⟨k, c, e, z⟩
    · exact .inl l
    · exact .inr ⟨k, c, e, cellK x c e _ z⟩
  · obtain ⟨v, z⟩ := I.cell x c e
    exact ⟨v, cellK x c e v z⟩
  · obtain ⟨m, ⟨o, _, _, ho, _⟩, _⟩ := I.loc
    exact free _ o (fun z => (hch _ z).2.1 rfl) ho I.free
  · obtain ⟨v, o, ho, hd⟩ := I.cell x c e
    exact free c o (fun z => (hch c z).2.2.1 x c e rfl) ho (I.freeC x c e)
  · obtain ⟨e, n, ne, nf, d⟩ := I.pin p hp
    have nch : p.1 ∉ ch := fun z => (hch p.1 z).2.2.2 p hp rfl
    exact ⟨keep p.1 p.2 ne nf nch e n, free p.1 p.2 nch e n, ne, nf, d⟩
theorem Inv.un {t' : Nat} (I : Inv X pins σ H s) (u : Un X.fs [] H H' s.heap h') (hok : HOk X.prog X.w H' h') (ht : s.toks ≤ t' := by first | exact Nat.le_refl _ | exact Nat.le_succ _ | assumption | omega) : Inv X pins σ H' { s with heap := h', toks := t' } := by
  obtain ⟨m, ⟨o, es, ep, ho, r⟩, _⟩ := id I.loc
  obtain ⟨sl, hL⟩ := u.any ho I.free (by simp)
  exact I.step (g' := s.gens) (d' := s.drawn) (ch := []) (fun _ z => nomatch z) (fun b o _ hb _ e n => u.keep b o e n hb (by simp)) (fun b o _ hb _ e n => u.slot b o e n hb (by simp)) (fun b o _ e n => u.free b o e n (by simp)) (fun b o _ e => u.there b o e (by simp)) u.tups u.frzs u.tbls (fun m' hm => by
    obtain ⟨o', es', ep', ho', r'⟩ := hm
    rw [ho] at ho'; cases ho'
    exact ⟨_, es', ep', hL, r'⟩) hok I.bare
theorem Inv.call {g' : Array GenState} {t' : Nat} {d' : Drawn} {ch : List Addr} (I : Inv X pins σ H s) (u : Un (frs X.stack) ch H H' s.heap h') (hok : HOk X.prog X.w H' h') (hg : AllBare g')
    (hch : ∀ b ∈ ch, (b ∈ X.ex ∨ X.s₀.heap.objs.size ≤ b) ∧ b ≠ X.env.locals ∧ (∀ x c, X.env.cells.lookup x = some c → c ≠ b) ∧ ∀ p ∈ X.pn ++ pins, p.1 ≠ b) (ht : s.toks ≤ t' := by first | exact Nat.le_refl _ | exact Nat.le_succ _ | assumption | omega) :
    Inv X pins σ H' { s with heap := h', gens := g', drawn := d', toks := t' } := by
  obtain ⟨m, ⟨o, es, ep, ho, r⟩, _⟩ := id I.loc
  obtain ⟨sl, hL⟩ := u.any ho I.free fun z => (hch _ z).2.1 rfl
  exact I.step (ch := ch) hch (fun b o hL hb hc e n => u.keep b o e n (fun z => (List.mem_cons.mp (I.stkSub b z)).elim hL hb) hc) (fun b o _ _ hc e n => u.any e n hc) (fun b o hc e n => u.free b o e n hc) (fun b o hc e => u.there b o e hc) u.tups u.frzs u.tbls (fun m' hm => by
    obtain ⟨o', es', ep', ho', r'⟩ := hm
    rw [ho] at ho'; cases ho'
    exact ⟨_, es', ep', hL, r'⟩) hok hg
theorem Inv.turned {t' : Nat} {it : Addr} (I : Inv X pins σ H s) (k : ∀ b o, b ≠ it → s.heap.get? b = some o → h'.get? b = some o) (hn : H it = none) (hL : it ≠ X.env.locals)
    (h1 : it ∈ X.ex ∨ X.s₀.heap.objs.size ≤ it) (h2 : ∀ x c, X.env.cells.lookup x = some c → c ≠ it) (h3 : ∀ p ∈ X.pn ++ pins, p.1 ≠ it) (ht : s.toks ≤ t' := by first | exact Nat.le_refl _ | exact Nat.le_succ _ | assumption | omega) : Inv X pins σ H { s with heap := h', toks := t' } := by
  have nit : ∀ b u, H b = some u → b ≠ it := fun b u e z => by rw [z, hn] at e; cases e
  refine I.step (g' := s.gens) (d' := s.drawn) (ch := [it]) (fun b hb => ?_) (fun b o _ _ hc e _ => k b o (fun z => hc (by simp [z])) e) (fun b o _ _ hc e _ => ⟨o.slots, k b o (fun z => hc (by simp [z])) e⟩) (fun _ _ _ _ n => n)
    (fun b o hc e => ⟨o, k b o (fun z => hc (by simp [z])) e⟩) (fun _ _ e => e) (fun _ _ _ e => e) (fun b ps e => ⟨#[], by rw [e]; simp⟩) (fun m hm => ?_) (fun b u e => ?_) I.bare
  · have e : b = it := by simpa using hb
    subst e
    exact ⟨h1, hL, h2, h3⟩
  · obtain ⟨o, es, ep, ho, r⟩ := hm
    exact ⟨o, es, ep, k _ o (Ne.symm hL) ho, r⟩
  · refine (I.hok b u e).stay (fun c v hc q => k c v ?_ q) (fun _ q => q) fun _ _ q => q
    rcases hc with z | z
    · rw [z]; exact nit b u e
    · exact nit c _ z
theorem Inv.tok (I : Inv X pins σ H s) (t : Nat) (ht : s.toks ≤ t := by first | exact Nat.le_refl _ | exact Nat.le_succ _ | assumption | omega) : Inv X pins σ H { s with toks := t } := I.un (h' := s.heap) (t' := t) Un.refl I.hok
theorem Inv.kept {t' : Nat} (I : Inv X pins σ H s) (k : ∀ b u, s.heap.get? b = some u → h'.get? b = some u) (ht : s.toks ≤ t' := by first | exact Nat.le_refl _ | exact Nat.le_succ _ | assumption | omega) : Inv X pins σ H { s with heap := h', toks := t' } := I.un (Un.kept k) (I.hok.kept k)
theorem Inv.laid {a : Addr} {o : HO} {t' : Nat} (I : Inv X pins σ H s) (k : ∀ b u, s.heap.get? b = some u → h'.get? b = some u) (hp : s.heap.objs.size ≤ a) (new : ObjOk X.prog X.w (upd H a o) h' a o) (ht : s.toks ≤ t' := by first | exact Nat.le_refl _ | exact Nat.le_succ _ | assumption | omega) :
    Inv X pins σ (upd H a o) { s with heap := h', toks := t' } := I.un (Un.laid k hp (I.hok.fresh hp)) (I.hok.laid k hp new)
theorem Inv.write {x e : Addr} {o : HO} {t' : Nat} (I : Inv X pins σ H s) (mu : Mut (H x)) (he : e = x ∨ H e = some (.own x)) (k : ∀ b u, b ≠ e → s.heap.get? b = some u → h'.get? b = some u) (heo : ∃ u, h'.get? e = some u)
    (new : ObjOk X.prog X.w (upd H x o) h' x o) (ht : s.toks ≤ t' := by first | exact Nat.le_refl _ | exact Nat.le_succ _ | assumption | omega) : Inv X pins σ (upd H x o) { s with heap := h', toks := t' } := I.un (Un.write mu he k heo) (I.hok.write mu he k heo new)
theorem Inv.weak {σ' : List (Option V)} (I : Inv X pins σ H s) (hl : σ'.length = σ.length) (w : ∀ (i : Nat) v, σ'[i]? = some (some v) → σ[i]? = some (some v)) : Inv X pins σ' H s :=
  ⟨I.ok, I.os, I.bare, I.base, let ⟨m, hn, hl'⟩ := I.loc; ⟨m, hn, fun i x v e1 e2 e3 => hl' i x v e1 (w i v e2) e3⟩, I.cell, I.free, I.freeC, I.pin, I.hok, hl.trans I.len, I.tk⟩
theorem Inv.pins_of {pins' : List (Addr × Obj)} (I : Inv X pins σ H s) (h : ∀ p ∈ pins', s.heap.get? p.1 = some p.2 ∧ H p.1 = none ∧ p.1 ≠ X.env.locals ∧ p.1 ∉ X.fs ∧ ∀ v, p.2.data ≠ .cell v) : Inv X pins' σ H s :=
  ⟨I.ok, I.os, I.bare, I.base, I.loc, I.cell, I.free, I.freeC, fun p hp => (List.mem_append.mp hp).elim (fun z => I.pin p (List.mem_append_left _ z)) (h p), I.hok, I.len, I.tk⟩
theorem nodup_ix {N : List Str} (hN : N.Nodup) {i j : Nat} {x : Str} (a : N[i]? = some x) (b : N[j]? = some x) : i = j := by
  obtain ⟨h1, e1⟩ := List.getElem?_eq_some_iff.mp a
  obtain ⟨h2, e2⟩ := List.getElem?_eq_some_iff.mp b
  exact (List.getElem_inj hN).mp (e1.trans e2.symm)
theorem store_ok2 {M : Model} {A : Around} {E : Value → Shared → Prop} {i : Nat} {x : Str} {v : V} {u : Value} {Q : Unit → Shared → Prop} (I : Inv X pins σ H s) (hN : X.N.Nodup) (hi : X.N[i]? = some x) (hx : Loc X.env.scope x) (r : RelV v u)
    (h : ∀ s', Inv X pins (σ.set i (some v)) H s' → (∃ a, Heap.SameBut a s.heap s'.heap ∧ (a = X.env.locals ∨ X.env.cells.lookup x = some a)) → Q () s') (hf : X.fn x = true ∨ X.env.scope.names.lookup x = some .local := by first | exact .inl rfl | exact .inr rfl | assumption) : wpAny M A (storeName X.env x u) Q E s := by
  obtain ⟨m, hn, hl⟩ := id I.loc
  have hcls : (X.env.scope.kind == .class || (X.env.scope.kind == .module && X.env.locals != X.env.globals)) = false := by rw [I.ok.kind]; rfl
  have hiσ : i < σ.length := by rw [I.len]; exact (List.getElem?_eq_some_iff.mp hi).1
  have cne := I.cne
  have tracked : ∀ {a : Addr} {h' : Heap}, (∃ o, s.heap.get? a = some o ∧ H a = none) → Heap.SameBut a s.heap h' → HOk X.prog X.w H h' := fun {a h'} ha hs b ob e => by
    obtain ⟨_, _, hfree⟩ := ha
    refine (I.hok b ob e).stay (fun c w' hc q => (hs.2 c ?_).trans q) (fun _ q => q) fun _ _ q => q
    rintro rfl
    rcases hc with rfl | hc
    · rw [hfree] at e; cases e
    · rw [hfree] at hc; cases hc
  rcases hx with hk | hk
  · refine wpAny_storeName_local hk hn (fun h' hn' hs => ?_) hcls
    obtain ⟨oL, _, _, hoL, _⟩ := id hn
    refine h _ ⟨I.ok, I.os, I.bare, ⟨fun b o e n hb hx => ?_, fun b o e n hb hx => ?_, I.base.free, fun b o e hx => ?_, I.base.tups, I.base.frzs, I.base.tbls⟩, ⟨_, hn', fun j y v' e1 e2 e3 => ?_⟩, fun y c e => ?_, I.free, I.freeC, fun p hp => ?_, tracked ⟨oL, hoL, I.free⟩ hs, by simpa using I.len, Nat.le_succ_of_le I.tk⟩ ⟨_, hs, .inl rfl⟩
    · exact (hs.2 b (Nat.ne_of_lt (Nat.lt_of_lt_of_le (Heap.lt_size e) I.ok.above))).trans (I.base.keep b o e n hb hx)
    · obtain ⟨sl, e1⟩ := I.base.slot b o e n hb hx
      exact ⟨sl, (hs.2 b (Nat.ne_of_lt (Nat.lt_of_lt_of_le (Heap.lt_size e) I.ok.above))).trans e1⟩
    · obtain ⟨o', e1⟩ := I.base.there b o e hx
      exact ⟨o', (hs.2 b (Nat.ne_of_lt (Nat.lt_of_lt_of_le (Heap.lt_size e) I.ok.above))).trans e1⟩
    · by_cases hj : j = i
      · subst hj
        rw [hi] at e1; cases e1
        rw [List.getElem?_set_self hiσ] at e2
        cases e2
        exact ⟨u, r, .inl ⟨hk, by simp⟩⟩
      · rw [List.getElem?_set_ne (Ne.symm hj)] at e2
        obtain ⟨u', r', q⟩ := hl j y v' e1 e2 e3
        refine ⟨u', r', ?_⟩
        rcases q with ⟨k, e⟩ | ⟨k, c, e, z⟩
        · refine .inl ⟨k, ?_⟩
          have : y ≠ x := fun e => hj (nodup_ix hN e1 (e ▸ hi))
          simp [this, e]
        · exact .inr ⟨k, c, e, z.sameBut hs (cne y c e)⟩
    · obtain ⟨w', z⟩ := I.cell y c e
      exact ⟨w', z.sameBut hs (cne y c e)⟩
    · obtain ⟨e, n, ne, nf, d⟩ := I.pin p hp
      exact ⟨(hs.2 p.1 ne).trans e, n, ne, nf, d⟩
  · have hfn : X.fn x = true := by
      rcases hf with z | z
      · exact z
      · rw [z] at hk; cases hk
    obtain ⟨c, hc⟩ := I.ok.has x (.inl hk)
    obtain ⟨w', z⟩ := I.cell x c hc
    refine wpAny_storeName_cell I.ok.kind hk hc z (fun h' hc' hs => ?_)
    obtain ⟨oc, hoc, hocd⟩ := id z
    refine h { s with heap := h' } ⟨I.ok, I.os, I.bare, ⟨fun b o e n hb hx => ?_, fun b o e n hb hx => ?_, I.base.free, fun b o e hx => ?_, I.base.tups, I.base.frzs, I.base.tbls⟩, ⟨m, hn.sameBut hs (Ne.symm (cne x c hc)), fun j y v' e1 e2 e3 => ?_⟩, fun y c' e => ?_, I.free, I.freeC, fun p hp => ?_, tracked ⟨oc, hoc, I.freeC x c hc⟩ hs, by simpa using I.len, I.tk⟩ ⟨c, hs, .inr hc⟩
    · exact (hs.2 b (Nat.ne_of_lt (Nat.lt_of_lt_of_le (Heap.lt_size e) (I.ok.cab x c hfn hc)))).trans (I.base.keep b o e n hb hx)
    · obtain ⟨sl, e1⟩ := I.base.slot b o e n hb hx
      exact ⟨sl, (hs.2 b (Nat.ne_of_lt (Nat.lt_of_lt_of_le (Heap.lt_size e) (I.ok.cab x c hfn hc)))).trans e1⟩
    · obtain ⟨o', e1⟩ := I.base.there b o e hx
      exact ⟨o', (hs.2 b (Nat.ne_of_lt (Nat.lt_of_lt_of_le (Heap.lt_size e) (I.ok.cab x c hfn hc)))).trans e1⟩
    · by_cases hj : j = i
      · subst hj
        rw [hi] at e1; cases e1
        rw [List.getElem?_set_self hiσ] at e2
        cases e2
        exact ⟨u, r, .inr ⟨.inl hk, c, hc, hc'⟩⟩
      · rw [List.getElem?_set_ne (Ne.symm hj)] at e2
        obtain ⟨u', r', q⟩ := hl j y v' e1 e2 e3
        refine ⟨u', r', ?_⟩
        rcases q with q | ⟨k, c', e, z'⟩
        · exact .inl q
        · refine .inr ⟨k, c', e, z'.sameBut hs ?_⟩
          rintro rfl
          exact hj (nodup_ix hN e1 (I.ok.inj _ _ _ e hc ▸ hi))
    · by_cases hcc : c' = c
      · subst hcc; exact ⟨_, hc'⟩
      · obtain ⟨w2, z2⟩ := I.cell y c' e
        exact ⟨w2, z2.sameBut hs hcc⟩
    · obtain ⟨e, n, ne, nf, d⟩ := I.pin p hp
      refine ⟨(hs.2 p.1 ?_).trans e, n, ne, nf, d⟩
      intro q
      rw [q, hoc] at e
      have q' : oc = p.2 := Option.some.inj e
      exact d w' (by rw [← q']; exact hocd)
theorem store_ok {M : Model} {A : Around} {E : Value → Shared → Prop} {i : Nat} {x : Str} {v : V} {u : Value} {Q : Unit → Shared → Prop} (I : Inv X pins σ H s) (hN : X.N.Nodup) (hi : X.N[i]? = some x) (hx : Loc X.env.scope x) (r : RelV v u)
    (h : ∀ s', Inv X pins (σ.set i (some v)) H s' → Q () s') (hf : X.fn x = true ∨ X.env.scope.names.lookup x = some .local := by first | exact .inl rfl | exact .inr rfl | assumption) : wpAny M A (storeName X.env x u) Q E s :=
  store_ok2 I hN hi hx r (fun s' I' _ => h s' I') hf
theorem Inv.call' {s' : Shared} {ch : List Addr} (I : Inv X pins σ H s) (ho : s'.os = s.os) (u : Un (frs X.stack) ch H H' s.heap s'.heap) (hok : HOk X.prog X.w H' s'.heap) (hg : AllBare s'.gens)
    (hch : ∀ b ∈ ch, (b ∈ X.ex ∨ X.s₀.heap.objs.size ≤ b) ∧ b ≠ X.env.locals ∧ (∀ x c, X.env.cells.lookup x = some c → c ≠ b) ∧ ∀ p ∈ X.pn ++ pins, p.1 ≠ b) (ht : s.toks ≤ s'.toks := by first | exact Nat.le_refl _ | exact Nat.le_succ _ | assumption | omega) : Inv X pins σ H' s' := by
  obtain ⟨h', g', d', t', o'⟩ := s'
  have e : o' = s.os := ho
  subst e
  exact I.call (g' := g') (t' := t') (d' := d') u hok hg hch
end
abbrev XK := Value → Option Addr → Hp → Prop
abbrev St := List (Option V)
abbrev VK := V → Hp → Prop
abbrev TE := St → Hp → VK → Prop
abbrev TT := St → Hp → (Bool → Hp → Prop) → Prop
abbrev TA := St → Hp → (List V → Hp → Prop) → Prop
structure Ends where
  nx : St → Hp → Prop
  rt : VK
  bk : St → Hp → Prop := fun _ _ => False
  ct : St → Hp → Prop := fun _ _ => False
abbrev TS := Ends → St → Hp → Prop
def EP (X : Cx) (pins : List (Addr × Obj)) (σ : St) (Q : VK) (u : Value) (s' : Shared) : Prop := ∃ v H', Inv X pins σ H' s' ∧ RelV v u ∧ Q v H'
def TP (X : Cx) (pins : List (Addr × Obj)) (σ : St) (Q : Bool → Hp → Prop) (b : Bool) (s' : Shared) : Prop := ∃ H', Inv X pins σ H' s' ∧ Q b H'
def AP (X : Cx) (pins : List (Addr × Obj)) (σ : St) (Q : List V → Hp → Prop) (us : List Value) (s' : Shared) : Prop := ∃ vs H', Inv X pins σ H' s' ∧ Vals vs us ∧ Q vs H'
def SP (X : Cx) (pins : List (Addr × Obj)) (D : Ends) (f : Flow) (s' : Shared) : Prop :=
  match f with
  | .next => ∃ σ' H', Inv X pins σ' H' s' ∧ D.nx σ' H'
  | .brk => ∃ σ' H', Inv X pins σ' H' s' ∧ D.bk σ' H'
  | .cont => ∃ σ' H', Inv X pins σ' H' s' ∧ D.ct σ' H'
  | .ret u => ∃ v σ' H', Inv X pins σ' H' s' ∧ RelV v u ∧ D.rt v H'
def PE (X : Cx) (e : Expr) (t : TE) : Prop :=
  ∀ (pins : List (Addr × Obj)) (s : Shared) (σ : St) (H : Hp) (Q : VK), Inv X pins σ H s → t σ H Q → wpAny (model X.prog X.w) X.A (eval e X.env) (EP X pins σ Q) X.xe s
def PT (X : Cx) (e : Expr) (t : TT) : Prop :=
  ∀ (pins : List (Addr × Obj)) (s : Shared) (σ : St) (H : Hp) (Q : Bool → Hp → Prop), Inv X pins σ H s → t σ H Q → wpAny (model X.prog X.w) X.A (isTrue e X.env (eval e X.env)) (TP X pins σ Q) X.xe s
def PW (X : Cx) (e : Expr) (t : TT) : Prop :=
  ∀ (whole : Sem Value) (pins : List (Addr × Obj)) (s : Shared) (σ : St) (H : Hp) (Q : Bool → Hp → Prop), Inv X pins σ H s → t σ H Q → wpAny (model X.prog X.w) X.A (isTrue e X.env whole) (TP X pins σ Q) X.xe s
theorem PW.pt {X : Cx} {e : Expr} {t : TT} (h : PW X e t) : PT X e t := h _
def PA (X : Cx) (es : List Expr) (t : TA) : Prop :=
  ∀ (pos : Pos) (pins : List (Addr × Obj)) (s : Shared) (σ : St) (H : Hp) (Q : List V → Hp → Prop), Inv X pins σ H s → t σ H Q → wpAny (model X.prog X.w) X.A (spliced (backTo pos (starEach es X.env))) (AP X pins σ Q) X.xe s
def PS (X : Cx) (st : Stmt) (t : TS) : Prop :=
  ∀ (pins : List (Addr × Obj)) (s : Shared) (σ : St) (H : Hp) (D : Ends), Inv X pins σ H s → t D σ H → wpAny (model X.prog X.w) X.A (exec st X.env) (SP X pins D) X.xe s
def PSs (X : Cx) (st : List Stmt) (t : TS) : Prop :=
  ∀ (pins : List (Addr × Obj)) (s : Shared) (σ : St) (H : Hp) (D : Ends), Inv X pins σ H s → t D σ H → wpAny (model X.prog X.w) X.A (execs st X.env) (SP X pins D) X.xe s
theorem thn {α : Type} {t : Sem α} {Q Q' : α → Shared → Prop} {M : Model} {A : Around} {E : Value → Shared → Prop} {s : Shared} (h : wpAny M A t Q E s) (hQ : ∀ a s, Q a s → Q' a s) : wpAny M A t Q' E s := wpAny_mono h hQ fun _ _ x => x
end L2
namespace L2
open PySem PySem.Spec PyProof.Rows
section
variable {X : Cx}
def tVar (i : Nat) : TE := fun σ H Q => ∃ v, σ[i]? = some (some v) ∧ Q v H
def tC (v : V) : TE := fun _ H Q => Q v H
theorem pe_var {i : Nat} {x : Str} {pos : Pos} (hN : X.N[i]? = some x) (hv : Vis X.env.scope x) (hd : (x == ("__debug__" : Str)) = false := by decide) (hcd : (x == ("__classdict__" : Str)) = false := by decide) : PE X (.Name x pos) (tVar i) := by
  intro pins s σ H Q I h
  obtain ⟨v, e, h⟩ := h
  obtain ⟨m, hn, hl⟩ := I.loc
  obtain ⟨u, r, l⟩ := hl i x v hN e hv
  have fin : EP X pins σ Q u s := ⟨v, H, I, r, h⟩
  rcases l with ⟨hk, hm⟩ | ⟨hk, c, hc, hcell⟩
  · exact wpAny_Name (wpAny_loadName_local I.ok.kind hk hn hm fin) hd
  · rcases hk with hk | hk
    · exact wpAny_Name (wpAny_loadName_cell I.ok.kind hk hc hcell fin) hd
    · exact wpAny_Name (wpAny_loadName_free I.ok.kind hk hc hcell fin hcd) hd
theorem pe_int {i j pos} : PE X (.Constant (.int i) j pos) (tC (.int i)) := fun _ _ _ H _ I h => wpAny_Constant_int ⟨.int i, H, I.tok _, ⟨_, rfl⟩, h⟩
theorem pe_bl {b j pos} : PE X (.Constant (.bool b) j pos) (tC (.bl b)) := fun _ _ _ H _ I h => Constant_bool ⟨.bl b, H, I, rfl, h⟩
theorem pe_str {x j pos} : PE X (.Constant (.str x) j pos) (tC (.str x)) := fun _ _ _ H _ I h => Calls.Constant_str ⟨.str x, H, I.tok _, ⟨_, rfl⟩, h⟩
def Gl (X : Cx) (x : Str) : Prop := X.env.kindOf x = some .globalImplicit
theorem ld_glob {E : Value → Shared → Prop} {pins : List (Addr × Obj)} {s : Shared} {σ : St} {H : Hp} {x : Str} {u : Value} {pos : Pos} {Q : Value → Shared → Prop} (I : Inv X pins σ H s) (hg : Gl X x) (hm : X.mg x = some u) (h : Q u s)
    (hd : (x == ("__debug__" : Str)) = false := by decide) : wpAny (model X.prog X.w) X.A (eval (.Name x pos) X.env) Q E s :=
  Calls.Name_function_global I.ok.kind hg (Calls.loadGlobal_global (by rw [I.ok.glob]; exact I.mod.glob.keeps I.bk) hm h) hd
theorem ld_blt {E : Value → Shared → Prop} {pins : List (Addr × Obj)} {s : Shared} {σ : St} {H : Hp} {x : Str} {u : Value} {pos : Pos} {Q : Value → Shared → Prop} (I : Inv X pins σ H s) (hg : Gl X x) (hm : X.mg x = none) (hv : bootBuiltins x = some u) (h : Q u s)
    (hn : x ≠ "__name__" := by decide) (hd : (x == ("__debug__" : Str)) = false := by decide) : wpAny (model X.prog X.w) X.A (eval (.Name x pos) X.env) Q E s := by
  obtain ⟨mb, h1, h2⟩ := I.mod.blt
  exact Calls.Name_function_global I.ok.kind hg (Calls.loadGlobal_builtin (by rw [I.ok.glob]; exact I.mod.glob.keeps I.bk) hm (by rw [I.ok.blt]; exact h1.keeps I.bk) ((h2 x hn).trans hv) h) hd
theorem pe_glob {x : Str} {v : V} {u : Value} {pos : Pos} (hg : Gl X x) (hm : X.mg x = some u) (r : RelV v u) (hd : (x == ("__debug__" : Str)) = false := by decide) : PE X (.Name x pos) (tC v) :=
  fun _ _ _ H _ I h => ld_glob I hg hm ⟨v, H, I, r, h⟩ hd
variable {a b : Expr} {ta tb : TE} {pos : Pos}
def PC (X : Cx) (op : CmpOp) (a b : Expr) (t : TE) : Prop :=
  ∀ (pins : List (Addr × Obj)) (s : Shared) (σ : St) (H : Hp) (Q : VK), Inv X pins σ H s → t σ H Q →
    wpAny (model X.prog X.w) X.A (eval a X.env) (fun v s₁ => wpAny (model X.prog X.w) X.A (eval b X.env) (fun u s₂ => wpAny (model X.prog X.w) X.A (compareOp op v u) (EP X pins σ Q) X.xe s₂) X.xe s₁) X.xe s
theorem nobehind (b : Expr) {op : CmpOp} (h : op ≠ .In) (h2 : op ≠ .NotIn) : behindInMarks op b = false := by
  have e1 : (op == CmpOp.In) = false := by cases op <;> first | rfl | exact absurd rfl h
  have e2 : (op == CmpOp.NotIn) = false := by cases op <;> first | rfl | exact absurd rfl h2
  cases b <;> simp [behindInMarks, e1, e2]
def tB (t : TE) : TT := fun σ H Q => t σ H fun x H1 => ∃ c, x = .bl c ∧ Q c H1
theorem pt_cmp {op : CmpOp} {t : TE} (h : PC X op a b t) (h1 : behindInMarks op b = false := by first | exact nobehind _ (by decide) (by decide) | rfl) : PT X (.Compare a [op] [b] pos) (tB t) := by
  intro pins s σ H Q I hw
  refine wpAny_isTrue_Compare1 (thn (h pins s σ H _ I hw) fun v s1 h1 => thn h1 fun u s2 h2 => thn h2 fun c s3 ⟨x, H1, I1, r1, q1⟩ => ?_) h1
  obtain ⟨d, rfl, q⟩ := q1
  cases r1
  exact wpAny_truthy_bool ⟨H1, I1, q⟩
theorem pt_val {e : Expr} {t : TE} (h : PE X e t) (he : ∀ whole, isTrue e X.env whole = (do let v ← whole; standAt e.pos; holding [v] (truthy v)) := by intro _; rfl) : PT X e (tB t) := by
  intro pins s σ H Q I hw
  refine isTrue_plain (thn (h pins s σ H _ I hw) fun v s1 ⟨x, H1, I1, r1, q1⟩ => ?_) (he _)
  obtain ⟨d, rfl, q⟩ := q1
  cases r1
  exact wpAny_truthy_bool ⟨H1, I1, q⟩
variable {tA tB' : TT} {rest : List Expr}
def tAnd (t u : TT) : TT := fun σ H Q => t σ H fun c H1 => if c = true then u σ H1 Q else Q false H1
def tNot (t : TT) : TT := fun σ H Q => t σ H fun c H1 => Q (!c) H1
theorem pw_and1 (ha : PT X a tA) : PW X (.BoolOp .And [a] pos) tA := by
  intro wh pins s σ H Q I h
  refine isTrue_and (thn (ha pins s σ H Q I h) fun c s1 e => ?_)
  cases c with
  | true => exact isTrue_and_nil e
  | false => exact e
theorem pw_and (ha : PT X a tA) (hb : PW X (.BoolOp .And (b :: rest) pos) tB') : PW X (.BoolOp .And (a :: b :: rest) pos) (tAnd tA tB') := by
  intro wh pins s σ H Q I h
  refine isTrue_and (thn (ha pins s σ H _ I h) fun c s1 ⟨H1, I1, q1⟩ => ?_)
  cases c with
  | true => exact hb wh pins s1 σ H1 Q I1 q1
  | false => exact ⟨H1, I1, q1⟩
theorem pt_not (ha : PT X a tA) : PT X (.UnaryOp .Not a pos) (tNot tA) := by
  intro pins s σ H Q I h
  exact isTrue_not (ha pins s σ H (fun c H1 => Q (!c) H1) I h)
def tAndV (ta tb : TE) : TE := fun σ H Q => ta σ H fun x H1 => ∃ c, x = .bl c ∧ if c = true then tb σ H1 Q else Q (.bl false) H1
def tNotV (ta : TE) : TE := fun σ H Q => ta σ H fun x H1 => ∃ c, x = .bl c ∧ Q (.bl (!c)) H1
theorem pe_one {op} {t : TE} (h : PE X a t) : PE X (.BoolOp op [a] pos) t := fun pins s σ H Q I hw => BoolOp_one (h pins s σ H Q I hw)
theorem pe_and (ha : PE X a ta) (hb : PE X (.BoolOp .And (b :: rest) pos) tb) : PE X (.BoolOp .And (a :: b :: rest) pos) (tAndV ta tb) := by
  intro pins s σ H Q I h
  refine BoolOp_and (thn (ha pins s σ H _ I h) fun v s1 ⟨x, H1, I1, r1, q1⟩ => ?_)
  obtain ⟨c, rfl, q1⟩ := q1
  cases r1
  refine wpAny_truthy_bool ?_
  cases c with
  | true => exact hb pins s1 σ H1 Q I1 q1
  | false => exact ⟨.bl false, H1, I1, rfl, q1⟩
theorem pe_not (ha : PE X a ta) : PE X (.UnaryOp .Not a pos) (tNotV ta) := by
  intro pins s σ H Q I h
  refine UnaryOp_ (thn (ha pins s σ H _ I h) fun v s1 ⟨x, H1, I1, r1, q1⟩ => ?_)
  obtain ⟨c, rfl, q1⟩ := q1
  cases r1
  exact not_of (wpAny_truthy_bool ⟨.bl (!c), H1, I1, rfl, q1⟩)
def tIf (t : TT) (ta tb : TE) : TE := fun σ H Q => t σ H fun c H1 => if c = true then ta σ H1 Q else tb σ H1 Q
theorem pe_ifExp {c : Expr} (hc : PT X c tA) (ha : PE X a ta) (hb : PE X b tb) : PE X (.IfExp c a b pos) (tIf tA ta tb) := by
  intro pins s σ H Q I h
  refine wpAny_IfExp (thn (hc pins s σ H _ I h) fun d s1 ⟨H1, I1, q1⟩ => ?_)
  cases d with
  | true => exact ha pins s1 σ H1 Q I1 q1
  | false => exact hb pins s1 σ H1 Q I1 q1
end
end L2
namespace L2
open PySem PySem.Spec PyProof.Rows
def SqL (K : PySem.W.Frag) (H : Hp) (a : Addr) (xs : List V) : Prop :=
  Rd H a (.lst xs) ∨
    ∃ (o : Obj) (its : Array Value) (n : Nat), K.lookup a = some o ∧ o.cls = .type "list" ∧ o.dict = none ∧ o.data = .seq its n ∧ its.size ≤ sizeLine ∧ Vals xs its.toList
def SqT (K : PySem.W.Frag) (H : Hp) (a : Addr) (xs : List V) : Prop :=
  Rd H a (.tup xs) ∨
    ∃ (o : Obj) (its : Array Value) (n : Nat), K.lookup a = some o ∧ o.cls = .type "tuple" ∧ o.data = .seq its n ∧ its.size ≤ sizeLine ∧ Vals xs its.toList
def absV : Value → Option V
  | .none => some .non
  | .bool b => some (.bl b)
  | .int i _ => some (.int i)
  | .str x _ => some (.str x)
  | .bytes b _ => some (.byt b)
  | .float b _ => some (.flt b)
  | .ref a => some (.ref a)
  | .type n => some (.ty n)
  | _ => none
theorem RelV.abs {x : V} {u : Value} (r : RelV x u) : absV u = some x := by
  cases x with
  | non => cases r; rfl
  | bl _ => cases r; rfl
  | int _ => obtain ⟨t, rfl⟩ := r; rfl
  | str _ => obtain ⟨t, rfl⟩ := r; rfl
  | byt _ => obtain ⟨t, rfl⟩ := r; rfl
  | flt _ => obtain ⟨t, rfl⟩ := r; rfl
  | ref _ => cases r; rfl
  | ty _ => cases r; rfl
theorem RelV.inj {x y : V} {u : Value} (r : RelV x u) (q : RelV y u) : x = y := Option.some.inj (r.abs.symm.trans q.abs)
theorem Vals.inj : ∀ {xs ys : List V} {us : List Value}, Vals xs us → Vals ys us → xs = ys
  | _, _, _, .nil, .nil => rfl
  | _, _, _, .cons r t, .cons r' t' => by rw [r.inj r', Vals.inj t t']
section
variable {X : Cx} {pins : List (Addr × Obj)} {σ : St} {H : Hp} {s : Shared} {a : Addr} {xs ys : List V}
theorem SqL.of {K : PySem.W.Frag} (h : H a = some (.lst xs)) : SqL K H a xs := .inl (.inl h)
theorem SqT.of {K : PySem.W.Frag} (h : H a = some (.tup xs)) : SqT K H a xs := .inl (.inl h)
theorem Inv.list (I : Inv X pins σ H s) (h : SqL X.K H a xs) : ∃ its : List Value, Vals xs its ∧ PlainL s.heap a its.toArray ∧ xs.length ≤ sizeLine := by
  rcases h with h | ⟨o, its, n, hk, hc, hd, hs, hz, r⟩
  · obtain ⟨z, its, n, r, e⟩ := h.ok I.hok
    exact ⟨its, r, ⟨_, n, e, rfl, rfl, rfl⟩, z⟩
  · refine ⟨its.toList, r, ⟨o, n, I.kIn a o hk, hc, hd, by simpa using hs⟩, ?_⟩
    have e := r.length
    simp only [Array.length_toList] at e
    omega
theorem Inv.tuple (I : Inv X pins σ H s) (h : SqT X.K H a xs) : ∃ its : List Value, Vals xs its ∧ IsTup s.heap a its.toArray ∧ xs.length ≤ sizeLine := by
  rcases h with h | ⟨o, its, n, hk, hc, hs, hz, r⟩
  · obtain ⟨z, its, r, p⟩ := h.ok I.hok
    exact ⟨its, r, p, z⟩
  · refine ⟨its.toList, r, ⟨o, I.kIn a o hk, hc, n, by simpa using hs⟩, ?_⟩
    have e := r.length
    simp only [Array.length_toList] at e
    omega
theorem Inv.list_inj (I : Inv X pins σ H s) (h : SqL X.K H a xs) (h' : SqL X.K H a ys) : xs = ys := by
  obtain ⟨its, r, ⟨o, n, e, _, _, d⟩, _⟩ := I.list h
  obtain ⟨its', r', ⟨o', n', e', _, _, d'⟩, _⟩ := I.list h'
  rw [e] at e'; cases e'
  rw [d] at d'
  injection d' with d1 _
  have : its = its' := by simpa using congrArg Array.toList d1
  subst this
  exact r.inj r'
end
abbrev Cx.wish (X : Cx) (E : Value → Shared → Prop) : Cx := { X with xe := E }
abbrev Cx.nox (X : Cx) : Cx := X.wish fun _ _ => False
theorem Cx.Ok.wish {X : Cx} (ok : X.Ok) (E : Value → Shared → Prop) : (X.wish E).Ok :=
  ⟨ok.mod, ok.kind, ok.glob, ok.blt, ok.above, ok.inj, ok.has, ok.cab, ok.hd, ok.frames, ok.stk, ok.exf, ok.bs, ok.bsz, ok.noex, ok.exfs, ok.funs, ok.frf, ok.low⟩
theorem Cx.Ok.unwish {X : Cx} {E : Value → Shared → Prop} (ok : (X.wish E).Ok) : X.Ok :=
  ⟨ok.mod, ok.kind, ok.glob, ok.blt, ok.above, ok.inj, ok.has, ok.cab, ok.hd, ok.frames, ok.stk, ok.exf, ok.bs, ok.bsz, ok.noex, ok.exfs, ok.funs, ok.frf, ok.low⟩
section
variable {X : Cx} {pins : List (Addr × Obj)} {σ : St} {H : Hp} {s : Shared} {E : Value → Shared → Prop}
theorem Inv.wish (I : Inv X pins σ H s) (E : Value → Shared → Prop) : Inv (X.wish E) pins σ H s := ⟨I.ok.wish E, I.os, I.bare, I.base, I.loc, I.cell, I.free, I.freeC, I.pin, I.hok, I.len, I.tk⟩
theorem Inv.unwish (I : Inv (X.wish E) pins σ H s) : Inv X pins σ H s := ⟨I.ok.unwish, I.os, I.bare, I.base, I.loc, I.cell, I.free, I.freeC, I.pin, I.hok, I.len, I.tk⟩
theorem SP.unwish {D : Ends} {f : Flow} {s' : Shared} (h : SP (X.wish E) pins D f s') : SP X pins D f s' := by
  cases f with
  | next => obtain ⟨σ', H', I, q⟩ := h; exact ⟨σ', H', I.unwish, q⟩
  | brk => obtain ⟨σ', H', I, q⟩ := h; exact ⟨σ', H', I.unwish, q⟩
  | cont => obtain ⟨σ', H', I, q⟩ := h; exact ⟨σ', H', I.unwish, q⟩
  | ret u => obtain ⟨v, σ', H', I, r, q⟩ := h; exact ⟨v, σ', H', I.unwish, r, q⟩
theorem PE.nox {e : Expr} {t : TE} (h : PE X.nox e t) : PE X e t := fun pins s σ H Q I hw =>
  wpAny_mono (h pins s σ H Q (I.wish _) hw) (fun _ _ ⟨v, H', I', r, q⟩ => ⟨v, H', I'.unwish, r, q⟩) fun _ _ z => False.elim z
theorem PT.nox {e : Expr} {t : TT} (h : PT X.nox e t) : PT X e t := fun pins s σ H Q I hw =>
  wpAny_mono (h pins s σ H Q (I.wish _) hw) (fun _ _ ⟨H', I', q⟩ => ⟨H', I'.unwish, q⟩) fun _ _ z => False.elim z
theorem PSs.nox {st : List Stmt} {t : TS} (h : PSs X.nox st t) : PSs X st t := fun pins s σ H D I hw =>
  wpAny_mono (h pins s σ H D (I.wish _) hw) (fun _ _ q => q.unwish) fun _ _ z => False.elim z
end
section
variable {X : Cx} {st : Stmt} {rest : List Stmt} {t u : TS} {e : Expr} {te : TE} {pos : Pos}
def tNext : TS := fun D σ H => D.nx σ H
def tSeq (t u : TS) : TS := fun D σ H => t { D with nx := u D } σ H
theorem pss_nil : PSs X [] tNext := fun _ _ σ H _ I h => wpAny_execs_nil ⟨σ, H, I, h⟩
theorem pss_cons (h1 : PS X st t) (h2 : PSs X rest u) : PSs X (st :: rest) (tSeq t u) := by
  intro pins s σ H D I h
  refine wpAny_execs_cons (thn (h1 pins s σ H { D with nx := u D } I h) fun f s1 q => ?_)
  cases f with
  | next =>
    obtain ⟨σ', H', I', q⟩ := q
    exact h2 pins s1 σ' H' D I' q
  | ret v => exact q
  | brk => exact q
  | cont => exact q
theorem pss_one (h1 : PS X st t) : PSs X [st] t := by
  intro pins s σ H D I h
  refine wpAny_execs_cons (thn (h1 pins s σ H D I h) fun f s1 q => ?_)
  cases f with
  | next => exact wpAny_execs_nil q
  | ret v => exact q
  | brk => exact q
  | cont => exact q
theorem Inv.quiet {pins : List (Addr × Obj)} {σ : St} {H : Hp} {s : Shared} (I : Inv X pins σ H s) : interactive X.env = false := by simp [interactive, I.ok.kind]
def tDrop (te : TE) : TS := fun D σ H => te σ H fun _ H1 => D.nx σ H1
theorem ps_expr (he : PE X e te) (hs : swapsWith e none pos.line X.env = pure false := by rfl) : PS X (.Expr e pos) (tDrop te) := by
  intro pins s σ H D I h
  exact wpAny_Expr_any (thn (he pins s σ H _ I h) fun v s1 ⟨x, H1, I1, r1, q1⟩ => ⟨σ, H1, I1, q1⟩) I.quiet hs
def tRet (te : TE) : TS := fun D σ H => te σ H D.rt
theorem ps_ret (he : PE X e te) : PS X (.Return (some e) pos) (tRet te) := by
  intro pins s σ H D I h
  exact wpAny_Return_some (thn (he pins s σ H _ I h) fun v s1 ⟨x, H1, I1, r1, q1⟩ => ⟨x, σ, H1, I1, r1, q1⟩)
def tIfS (c : TT) (t u : TS) : TS := fun D σ H => c σ H fun b H1 => if b = true then t D σ H1 else u D σ H1
theorem ps_if {c : Expr} {a b : List Stmt} {tc : TT} (hc : PT X c tc) (ha : PSs X a t) (hb : PSs X b u) : PS X (.If c a b pos) (tIfS tc t u) := by
  intro pins s σ H D I h
  refine wpAny_If (thn (hc pins s σ H _ I h) fun d s1 ⟨H1, I1, q1⟩ => ?_)
  cases d with
  | true => exact ha pins s1 σ H1 D I1 q1
  | false => exact hb pins s1 σ H1 D I1 q1
def tNever : TS := fun _ _ _ => False
theorem pss_never {sts : List Stmt} : PSs X sts tNever := fun _ _ _ _ _ _ h => h.elim
end
abbrev TG := V → St → Hp → (St → Hp → Prop) → Prop
abbrev TGs := List V → St → Hp → (St → Hp → Prop) → Prop
def PG (X : Cx) (target : Expr) (t : TG) : Prop :=
  ∀ (pins : List (Addr × Obj)) (s : Shared) (σ : St) (H : Hp) (v : V) (u : Value) (Q : St → Hp → Prop), Inv X pins σ H s → RelV v u → t v σ H Q →
    wpAny (model X.prog X.w) X.A (assign target X.env u) (fun _ s' => ∃ σ' H', Inv X pins σ' H' s' ∧ Q σ' H') X.xe s
def PGs (X : Cx) (ts : List Expr) (t : TGs) : Prop :=
  ∀ (pins : List (Addr × Obj)) (s : Shared) (σ : St) (H : Hp) (vs : List V) (us : List Value) (Q : St → Hp → Prop), Inv X pins σ H s → Vals vs us → t vs σ H Q →
    wpAny (model X.prog X.w) X.A (assignInOrder ((assignEach ts X.env).map (·.2)) us) (fun _ s' => ∃ σ' H', Inv X pins σ' H' s' ∧ Q σ' H') X.xe s
section
variable {X : Cx} {pos : Pos}
def gName (i : Nat) : TG := fun v σ H Q => Q (σ.set i (some v)) H
theorem pg_name {i : Nat} {x : Str} (hN : X.N.Nodup) (hi : X.N[i]? = some x) (hx : Loc X.env.scope x) (hf : X.fn x = true ∨ X.env.scope.names.lookup x = some .local := by first | exact .inl rfl | exact .inr rfl | assumption) : PG X (.Name x pos) (gName i) := by
  intro pins s σ H v u Q I r h
  exact wpAny_assign_Name (store_ok I hN hi hx r (fun s' I' => ⟨_, H, I', h⟩) hf)
def gNil : TGs := fun vs σ H Q => vs = [] ∧ Q σ H
def gCons (t : TG) (u : TGs) : TGs := fun vs σ H Q => ∃ v r, vs = v :: r ∧ t v σ H fun σ' H' => u r σ' H' Q
theorem pgs_nil : PGs X [] gNil := by
  intro pins s σ H vs us Q I r h
  obtain ⟨e, h⟩ := h
  subst e
  cases r
  exact assignInOrder_nil ⟨σ, H, I, h⟩
theorem pgs_cons {e : Expr} {es : List Expr} {t : TG} {u : TGs} (h1 : PG X e t) (h2 : PGs X es u)
    (hs : (assignEach (e :: es) X.env).map (·.2) = assign e X.env :: (assignEach es X.env).map (·.2) := by rfl) : PGs X (e :: es) (gCons t u) := by
  intro pins s σ H vs us Q I r h
  obtain ⟨v, vr, e1, h⟩ := h
  subst e1
  cases r with
  | cons r rr =>
    rw [hs]
    refine assignInOrder_cons (thn (h1 pins s σ H _ _ _ I r h) fun _ s1 ⟨σ1, H1, I1, q1⟩ => ?_)
    exact h2 pins s1 σ1 H1 _ _ Q I1 rr q1
def gTup (K : PySem.W.Frag) (n : Nat) (t : TGs) : TG := fun v σ H Q => ∃ a xs, v = .ref a ∧ SqT K H a xs ∧ xs.length = n ∧ t xs σ H Q
theorem pg_tup {es : List Expr} {k : Nat} {t : TGs} {n : Nat} (hc : X.calm = true) (h : PGs X es t)
    (hn : (assignEach es X.env).length = n := by rfl) (hst : (assignEach es X.env).findIdx? (·.1) = none := by rfl) : PG X (.Tuple es k pos) (gTup X.K n t) := by
  intro pins s σ H v u Q I r hw
  obtain ⟨a, xs, e1, hq, hl, hw⟩ := hw
  subst e1
  cases r
  obtain ⟨its, rv, ht, hz⟩ := I.tuple hq
  refine assign_Tuple_tuple (I.ok.hd hc) ht (by simp [hn, ← hl, rv.length]) hst fun h' hx => ?_
  have I1 : Inv X pins σ H { s with heap := h' } := I.kept (t' := s.toks) fun b o e => hx b o (Nat.ne_of_lt (Heap.lt_size e)) e
  exact h pins _ σ H xs _ Q I1 (by simpa using rv) hw
def tAsg (te : TE) (g : TG) : TS := fun D σ H => te σ H fun x H1 => g x σ H1 D.nx
theorem ps_asg {tg e : Expr} {te : TE} {g : TG} (he : PE X e te) (hg : PG X tg g) (hs : swapsWithSole [tg] e pos.line X.env = pure false := by rfl) (hw : swappedStores [tg] e X.env = pure none := by rfl)
    (h1 : (assignEach [tg] X.env).map (·.2) = [assign tg X.env] := by rfl) : PS X (.Assign [tg] e pos) (tAsg te g) := by
  intro pins s σ H D I h
  refine wpAny_Assign_stores (thn (he pins s σ H _ I h) fun v s1 ⟨x, H1, I1, r1, q1⟩ => ?_) hs hw
  rw [h1]
  exact thn (hg pins s1 σ H1 x v _ I1 r1 q1) fun _ s2 q => q
theorem ps_set {i : Nat} {x : Str} {e : Expr} {te : TE} {pos' : Pos} (hN : X.N.Nodup) (hi : X.N[i]? = some x) (hx : Loc X.env.scope x) (he : PE X e te) (hs : swapsWith e (some (.Name x pos')) pos.line X.env = pure false := by rfl) (hf : X.fn x = true ∨ X.env.scope.names.lookup x = some .local := by first | exact .inl rfl | exact .inr rfl | assumption) :
    PS X (.Assign [.Name x pos'] e pos) (tAsg te (gName i)) := by
  intro pins s σ H D I h
  refine wpAny_Assign_Name (thn (he pins s σ H _ I h) fun v s1 ⟨y, H1, I1, r1, q1⟩ => ?_) hs
  exact store_ok I1 hN hi hx r1 (fun s2 I2 => ⟨_, H1, I2, q1⟩) hf
end
section
variable {X : Cx} {pos : Pos}
def tWhile (c : TT) (tb : TS) : TS := fun D σ H => ∃ W : Nat → St → Hp → Prop, (∃ m, W m σ H) ∧ ∀ m σ H, W m σ H →
  c σ H fun b H1 => if b = true then ∃ N : St → Hp → Prop, (∀ σ' H', N σ' H' → ∃ m', m' < m ∧ W m' σ' H') ∧ tb { D with nx := N, ct := N, bk := D.nx } σ H1 else D.nx σ H1
theorem ps_while {c : Expr} {body : List Stmt} {tc : TT} {tb : TS} (hp : PassesOwn (model X.prog X.w) X.A X.env X.xe) (hc : PT X c tc) (hb : PSs X body tb) : PS X (.While c body [] pos) (tWhile tc tb) := by
  intro pins s σ H D I h
  obtain ⟨W, ⟨m0, w0⟩, turn⟩ := h
  refine wpAny_While (codeAny_whileLoop (fun n s' => ∃ σ' H', Inv X pins σ' H' s' ∧ W n σ' H') ?_ m0 ⟨σ, H, I, w0⟩)
  rintro n s1 ⟨σ1, H1, I1, w1⟩
  refine wpAny_passesOwn hp (thn (hc pins s1 σ1 H1 _ I1 (turn n σ1 H1 w1)) fun b s2 ⟨H2, I2, q2⟩ => ?_)
  cases b with
  | true =>
    obtain ⟨N, hN, q2⟩ := q2
    rw [if_pos rfl]
    refine wpAny_passesOwn hp (thn (hb pins s2 σ1 H2 _ I2 q2) fun f s3 q3 => ?_)
    cases f with
    | next =>
      obtain ⟨σ3, H3, I3, n3⟩ := q3
      obtain ⟨m', hm, w3⟩ := hN σ3 H3 n3
      exact ⟨m', hm, σ3, H3, I3, w3⟩
    | cont =>
      obtain ⟨σ3, H3, I3, n3⟩ := q3
      obtain ⟨m', hm, w3⟩ := hN σ3 H3 n3
      exact ⟨m', hm, σ3, H3, I3, w3⟩
    | brk => exact q3
    | ret v => exact q3
  | false =>
    rw [if_neg Bool.false_ne_true]
    exact wpAny_execs_nil ⟨σ1, H2, I2, q2⟩
end
structure It where
  go : Nat → Hp → Prop
  yld : Nat → Hp → V → Hp → Prop
  stop : Nat → Hp → Prop
def FpOk (X : Cx) (pins : List (Addr × Obj)) (H : Hp) (b : Addr) : Prop :=
  H b = none ∧ b ≠ X.env.locals ∧ b ∉ X.fs ∧ (b ∈ X.ex ∨ X.s₀.heap.objs.size ≤ b) ∧ (∀ x c, X.env.cells.lookup x = some c → c ≠ b) ∧ ∀ p ∈ X.pn ++ pins, p.1 ≠ b
theorem Inv.fpOk {X : Cx} {pins : List (Addr × Obj)} {σ : St} {H H' : Hp} {s : Shared} {b : Addr} (I : Inv X pins σ H s) (hb : s.heap.objs.size ≤ b) (hn : H' b = none) : FpOk X pins H' b := by
  refine ⟨hn, Nat.ne_of_gt (Nat.lt_of_lt_of_le I.lt hb), I.nofs hb, .inr (Nat.le_trans I.sz hb), fun x c e z => ?_, fun p hp z => ?_⟩
  · obtain ⟨v, q⟩ := I.cell x c e
    exact absurd (Nat.lt_of_lt_of_le q.lt (by rw [z]; exact hb)) (Nat.lt_irrefl _)
  · exact absurd (Nat.lt_of_lt_of_le (Heap.lt_size (I.pin p hp).1) (by rw [z]; exact hb)) (Nat.lt_irrefl _)
structure Turn (P : Program) (w : World) (K : PySem.W.Frag) (tg : Expr) (J : It) (fp : List Addr) (it : Addr) (tn : Nat → Heap → Prop) : Prop where
  mem : it ∈ fp
  obj : ∀ i h, tn i h → ∀ b ∈ fp, ∃ o, h.get? b = some o ∧ ∀ v, o.data ≠ .cell v
  keep : ∀ i h h', tn i h → (∀ b ∈ fp, ∀ o, h.get? b = some o → h'.get? b = some o) → tn i h'
  item : ∀ (X : Cx), X.prog = P → X.w = w → X.K = K → X.calm = true → ∀ (i : Nat) (pins : List (Addr × Obj)) (s : Shared) (σ : St) (H : Hp) (E : Value → Shared → Prop), Inv X pins σ H s → (∀ b ∈ fp, FpOk X pins H b) → tn i s.heap → J.go i H →
    wpAny (model P w) X.A (pyNext (.ref it)) (fun r s1 => ∃ u, r = some u ∧
      wpAny (model P w) X.A (letOwnedTupleGo tg (.ref it) u) (fun _ s2 => ∃ x H', Inv X pins σ H' s2 ∧ RelV x u ∧ J.yld i H x H' ∧ tn (i + 1) s2.heap ∧ ∀ b ∈ fp, H' b = none) E s1) E s
  done : ∀ (X : Cx), X.prog = P → X.w = w → X.K = K → X.calm = true → ∀ (i : Nat) (pins : List (Addr × Obj)) (s : Shared) (σ : St) (H : Hp) (E : Value → Shared → Prop), Inv X pins σ H s → (∀ b ∈ fp, FpOk X pins H b) → tn i s.heap → J.stop i H →
    wpAny (model P w) X.A (pyNext (.ref it)) (fun r s1 => r = none ∧ Inv X pins σ H s1) E s
  self : ∀ (A : Around) (i : Nat) (s : Shared) (Q : Value → Shared → Prop) (E : Value → Shared → Prop), tn i s.heap → Q (.ref it) s → wpAny (model P w) A (pyIter (.ref it)) Q E s
abbrev TI := St → Hp → (It → Hp → Prop) → Prop
def PIE (X : Cx) (pins : List (Addr × Obj)) (σ : St) (tg : Expr) (R : It → Hp → Prop) (itv : Value) (s2 : Shared) : Prop :=
  ∃ (it : Addr) (fp : List Addr) (tn : Nat → Heap → Prop) (J : It) (H' : Hp), itv = .ref it ∧ Inv X pins σ H' s2 ∧ Turn X.prog X.w X.K tg J fp it tn ∧ tn 0 s2.heap ∧ (∀ b ∈ fp, FpOk X pins H' b) ∧ R J H'
def PI (X : Cx) (tg iter : Expr) (wi : TI) : Prop :=
  ∀ (pins : List (Addr × Obj)) (s : Shared) (σ : St) (H : Hp) (R : It → Hp → Prop), Inv X pins σ H s → wi σ H R →
    wpAny (model X.prog X.w) X.A (eval iter X.env) (fun v s1 => wpAny (model X.prog X.w) X.A (pyIter v) (PIE X pins σ tg R) X.xe s1) X.xe s
theorem go_of {M : Model} {A : Around} {E : Value → Shared → Prop} {s : Shared} {tg : Expr} {it : Addr} {u : Value} {o : Obj} {n : String} {vs : Array Value} {Q : Unit → Shared → Prop} (ho : s.heap.get? it = some o) (hc : o.cls = .type n) (hd : o.data = .fields vs)
    (hn : ["enumerate", "zip", "dict_itemiterator", "dict_reverseitemiterator", "odict_iterator", "itertools.zip_longest", "itertools.pairwise"].contains n = false) (hQ : Q () s) : wpAny M A (letOwnedTupleGo tg (.ref it) u) Q E s := by
  unfold letOwnedTupleGo
  cases tg <;> first
    | exact wpAny_pure hQ
    | (cases u <;> first
        | exact wpAny_pure hQ
        | (refine wpAny_bind (wpAny_load ho ?_)
           rw [hc, hd]
           show wpAny M A (if (["enumerate", "zip", "dict_itemiterator", "dict_reverseitemiterator", "odict_iterator", "itertools.zip_longest", "itertools.pairwise"].contains n && vs[0]? == some (rawInt _)) = true then _ else _) Q E s
           rw [if_neg (by intro h; rw [hn, Bool.false_and] at h; cases h)]
           exact wpAny_pure hQ))
def Itl (K : PySem.W.Frag) (a : Addr) : It :=
  ⟨fun i H => ∃ xs x, SqL K H a xs ∧ xs[i]? = some x, fun i H x H' => H' = H ∧ ∀ xs, SqL K H a xs → xs[i]? = some x, fun i H => ∃ xs, SqL K H a xs ∧ xs.length ≤ i⟩
def Itr (lo : Int) (n : Nat) : It := ⟨fun i _ => i < n, fun i H x H' => H' = H ∧ x = .int (lo + i), fun i _ => n ≤ i⟩
theorem turn_list {P : Program} {w : World} {K : PySem.W.Frag} {tg : Expr} (a it : Addr) : Turn P w K tg (Itl K a) [it] it (fun i h => h.IsListIter it a i) where
  mem := by simp
  obj := fun i h st b hb => by
    have e : b = it := by simpa using hb
    subst e
    obtain ⟨o, e, c, d⟩ := st
    exact ⟨o, e, fun v z => by rw [d] at z; cases z⟩
  keep := fun i h h' st k => st.at fun o e => k it (by simp) o e
  item := by
    intro X hP hw hK hc i pins s σ H E I hf st hg
    subst hP hw hK
    obtain ⟨xs, x, hq, hx⟩ := hg
    obtain ⟨its, rv, p, hz⟩ := I.list hq
    obtain ⟨u, hu, ru⟩ := rv.get hx
    obtain ⟨f0, f1, f2, f3, f4, f5⟩ := hf it (by simp)
    refine wpAny_pyNext_list_item st p.isList (x := u) (by simpa using hu) fun h' st' sb => ?_
    have I1 : Inv X pins σ H { s with heap := h' } := I.turned (t' := s.toks) (fun b o hb e => (sb.2 b hb).trans e) f0 f1 f3 f4 f5
    obtain ⟨o, e, c, d⟩ := id st'
    exact ⟨u, rfl, go_of (s := { s with heap := h' }) e c d (by decide) ⟨x, H, I1, ru, ⟨rfl, fun ys hy => by rw [I.list_inj hy hq]; exact hx⟩, st', fun b hb => (hf b hb).1⟩⟩
  done := by
    intro X hP hw hK hc i pins s σ H E I hf st hg
    subst hP hw hK
    obtain ⟨xs, hq, hx⟩ := hg
    obtain ⟨its, rv, p, hz⟩ := I.list hq
    obtain ⟨f0, f1, f2, f3, f4, f5⟩ := hf it (by simp)
    have hl := rv.length
    exact wpAny_pyNext_list_end (I.ok.hd hc) st p.isList (by simp; omega) fun h' eb => ⟨rfl, I.turned (t' := s.toks) (fun b o hb e => eb b o hb e) f0 f1 f3 f4 f5⟩
  self := fun _ _ _ _ _ st h => wpAny_pyIter_listiter st h
theorem turn_range {P : Program} {w : World} {K : PySem.W.Frag} {tg : Expr} (it : Addr) (lo : Int) (n : Nat) : Turn P w K tg (Itr lo n) [it] it (fun i h => IsRangeIter h it (lo + (i : Nat) * 1) ((n : Int) - (i : Nat)) 1) where
  mem := by simp
  obj := fun i h st b hb => by
    have e : b = it := by simpa using hb
    subst e
    exact ⟨_, st, fun v z => by
      have z' : Data.fields _ = Data.cell v := z
      cases z'⟩
  keep := fun i h h' st k => k it (by simp) _ st
  item := by
    intro X hP hw hK hc i pins s σ H E I hf st hg
    subst hP hw hK
    obtain ⟨f0, f1, f2, f3, f4, f5⟩ := hf it (by simp)
    have W := Walks.range (prog := X.prog) (w := X.w) (I.ok.hd hc) it lo 1 n
    refine with_toks (W.item i s _ _ hg st fun v h' tk hv st' kk htk => ?_)
    obtain ⟨t, rfl⟩ := hv
    have I1 : Inv X pins σ H { s with heap := h', toks := tk } := I.turned (fun b o hb e => kk b o (by simpa using hb) e) f0 f1 f3 f4 f5
    refine ⟨_, rfl, go_of (s := { s with heap := h', toks := tk }) (n := "range_iterator") st' rfl rfl (by decide) ⟨.int (lo + i), H, I1, ⟨t, ?_⟩, ⟨rfl, rfl⟩, st', fun b hb => (hf b hb).1⟩⟩
    rw [Int.mul_one]
  done := by
    intro X hP hw hK hc i pins s σ H E I hf st hg
    subst hP hw hK
    obtain ⟨f0, f1, f2, f3, f4, f5⟩ := hf it (by simp)
    exact wpAny_pyNext_range_end (I.ok.hd hc) st (by have : n ≤ i := hg; omega) fun h' eb => ⟨rfl, I.turned (t' := s.toks) (fun b o hb e => eb b o hb e) f0 f1 f3 f4 f5⟩
  self := fun _ _ _ _ _ st h => wpAny_pyIter_rangeiter st h
end L2
namespace L2
open PySem PySem.Spec PyProof.Rows
section
variable {X : Cx} {tg : Expr}
def iList (K : PySem.W.Frag) (tl : TE) : TI := fun σ H R => tl σ H fun x H1 => ∃ a, x = .ref a ∧ (∃ xs, SqL K H1 a xs) ∧ R (Itl K a) H1
theorem pi_list {l : Expr} {tl : TE} (hl : PE X l tl) : PI X tg l (iList X.K tl) := by
  intro pins s σ H R I h
  refine thn (hl pins s σ H _ I h) fun v s1 ⟨x, H1, I1, r1, q1⟩ => ?_
  obtain ⟨a, e, ⟨xs, hq⟩, q⟩ := q1
  subst e
  cases r1
  obtain ⟨its, rv, p, hz⟩ := I1.list hq
  refine wpAny_pyIter_list p.isList ?_
  refine ⟨s1.heap.objs.size, [s1.heap.objs.size], _, _, H1, rfl, I1.kept (t' := s1.toks) fun b o e => Heap.get?_push_of_some _ e, turn_list a _, ⟨_, Heap.get?_push_size _ rfl, rfl, rfl⟩, fun b hb => ?_, q⟩
  have e : b = s1.heap.objs.size := by simpa using hb
  subst e
  exact I1.fpOk (Nat.le_refl _) (I1.hok.fresh (Nat.le_refl _))
theorem range_it {pins : List (Addr × Obj)} {σ : St} {H : Hp} {s : Shared} {R : It → Hp → Prop} {E : Value → Shared → Prop} {lo hi : Int} {t u v : Tok} {tk : Nat} (I : Inv X pins σ H s) (h1 : -(2 ^ 62) ≤ lo) (h2 : lo < 2 ^ 62) (h3 : -(2 ^ 62) ≤ hi) (h4 : hi < 2 ^ 62)
    (q : R (Itr lo (hi - lo).toNat) H) (htk : s.toks ≤ tk := by first | exact Nat.le_refl _ | exact Nat.le_succ _ | assumption | omega) : wpAny (model X.prog X.w) X.A (pyIter (.ref s.heap.objs.size)) (PIE X pins σ tg R) E { s with heap := s.heap.push { cls := .type "range", data := .fields #[.int lo t, .int hi u, .int 1 v] }, toks := tk } := by
  refine wpAny_pyIter_range (IsRange.new ..) (small_one h1 h2 h3 h4) ?_
  have I1 : Inv X pins σ H { s with heap := s.heap.push { cls := .type "range", data := .fields #[.int lo t, .int hi u, .int 1 v] }, toks := tk } := I.kept fun b o e => Heap.get?_push_of_some _ e
  refine ⟨(s.heap.push { cls := .type "range", data := .fields #[.int lo t, .int hi u, .int 1 v] }).objs.size, [(s.heap.push { cls := .type "range", data := .fields #[.int lo t, .int hi u, .int 1 v] }).objs.size], _, _, H, rfl,
    I1.kept (t' := tk) fun b o e => Heap.get?_push_of_some _ e, turn_range _ lo (hi - lo).toNat, ?_, fun b hb => ?_, q⟩
  · have e1 : lo + ((0 : Nat) : Int) * 1 = lo := by simp
    have e2 : (((hi - lo).toNat : Nat) : Int) - ((0 : Nat) : Int) = Builtin.Range.rangeSize lo hi 1 := by rw [rangeSize_one]; split <;> omega
    show IsRangeIter _ _ (lo + ((0 : Nat) : Int) * 1) ((((hi - lo).toNat : Nat) : Int) - ((0 : Nat) : Int)) 1
    rw [e1, e2]
    exact Heap.get?_push_size _ rfl
  · have e : b = (s.heap.push { cls := .type "range", data := .fields #[.int lo t, .int hi u, .int 1 v] }).objs.size := by simpa using hb
    subst e
    exact I1.fpOk (Nat.le_refl _) (I1.hok.fresh (Nat.le_refl _))
def iRng1 (ta : TA) : TI := fun σ H R => ta σ H fun vs H1 => ∃ j : Int, vs = [.int j] ∧ -(2 ^ 62) ≤ j ∧ j < 2 ^ 62 ∧ R (Itr 0 j.toNat) H1
theorem pi_range1 {a : Expr} {ta : TA} {p pos : Pos} (hg : Gl X "range") (hm : X.mg "range" = none) (ha : PA X [a] ta) (hs : starEach [a] X.env = [(false, eval a X.env)] := by rfl) : PI X tg (.Call (.Name "range" p) [a] [] pos) (iRng1 ta) := by
  intro pins s σ H R I h
  refine Call_ (ld_blt I hg hm boot_range (PyProof.Rows.callWith_type1 (thn (ha pos pins s σ H _ I h) fun us s1 ⟨vs, H1, I1, r1, q1⟩ => ?_) hs rfl))
  obtain ⟨j, e, q1, q2, q⟩ := q1
  subst e
  cases r1 with
  | cons r rr =>
    cases rr
    obtain ⟨t, rfl⟩ := r
    exact call_range_1 (range_it I1 (by omega) (by omega) q1 q2 (by simpa using q))
def tFor (wi : TI) (g : TG) (tb : TS) : TS := fun D σ H => wi σ H fun J H1 => ∃ W : Nat → Nat → St → Hp → Prop, (∃ m, W 0 m σ H1) ∧ ∀ i m σ H, W i m σ H →
  (J.stop i H ∧ D.nx σ H) ∨ (J.go i H ∧ ∃ N : St → Hp → Prop, (∀ σ' H', N σ' H' → ∃ m', m' < m ∧ W (i + 1) m' σ' H') ∧ ∀ x H', J.yld i H x H' → g x σ H' fun σ2 H2 => tb { D with nx := N, ct := N, bk := D.nx } σ2 H2)
def pinsAt (fp : List Addr) (h : Heap) : List (Addr × Obj) := fp.filterMap fun b => (h.get? b).map fun o => (b, o)
theorem mem_pinsAt {fp : List Addr} {h : Heap} {b : Addr} {o : Obj} (hb : b ∈ fp) (e : h.get? b = some o) : (b, o) ∈ pinsAt fp h := List.mem_filterMap.mpr ⟨b, hb, by rw [e]; rfl⟩
theorem of_pinsAt {fp : List Addr} {h : Heap} {p : Addr × Obj} (hp : p ∈ pinsAt fp h) : p.1 ∈ fp ∧ h.get? p.1 = some p.2 := by
  obtain ⟨b, hb, e⟩ := List.mem_filterMap.mp hp
  cases q : h.get? b with
  | none => rw [q] at e; cases e
  | some o =>
    rw [q] at e
    have e' : (b, o) = p := Option.some.inj e
    subst e'
    exact ⟨hb, q⟩
theorem Inv.pinned {pins : List (Addr × Obj)} {σ : St} {H : Hp} {s : Shared} {fp : List Addr} (I : Inv X pins σ H s) (hf : ∀ b ∈ fp, FpOk X pins H b) (ho : ∀ b ∈ fp, ∃ o, s.heap.get? b = some o ∧ ∀ v, o.data ≠ .cell v) : Inv X (pins ++ pinsAt fp s.heap) σ H s :=
  I.pins_of fun p hp => (List.mem_append.mp hp).elim (fun z => I.pin p (List.mem_append_right _ z)) fun z => by
    obtain ⟨hb, e⟩ := of_pinsAt z
    obtain ⟨f0, f1, f2, _⟩ := hf p.1 hb
    obtain ⟨o, e', d⟩ := ho p.1 hb
    rw [e] at e'; cases e'
    exact ⟨e, f0, f1, f2, d⟩
theorem Inv.unpinned {pins pl : List (Addr × Obj)} {σ : St} {H : Hp} {s : Shared} (I : Inv X (pins ++ pl) σ H s) : Inv X pins σ H s := I.pins_of fun p hp => I.pin p (List.mem_append_right _ (List.mem_append_left _ hp))
theorem ps_for {iter : Expr} {body : List Stmt} {wi : TI} {g : TG} {tb : TS} {pos : Pos} (hp : PassesOwn (model X.prog X.w) X.A X.env X.xe) (hc : X.calm = true) (hi : PI X tg iter wi) (hg : PG X tg g) (hb : PSs X body tb)
    (hs : ∀ x, foldedSetIterable iter X.env x = pure x := by intro _; rfl) : PS X (.For tg iter body [] pos) (tFor wi g tb) := by
  intro pins s σ H D I h
  refine wpAny_For (thn (hi pins s σ H _ I h) fun v s1 h1 => thn h1 fun itv s2 h2 => ?_) hs
  obtain ⟨it, fp, tn, J, H2, e, I2, T, st2, f2, W, ⟨m0, w0⟩, turn⟩ := h2
  subst e
  have stat : ∀ {H' : Hp}, (∀ b ∈ fp, H' b = none) → ∀ b ∈ fp, FpOk X pins H' b := fun hn b hb => ⟨hn b hb, (f2 b hb).2⟩
  refine codeAny_forLoop_any (fun n s' => ∃ i σ' H', Inv X pins σ' H' s' ∧ tn i s'.heap ∧ (∀ b ∈ fp, H' b = none) ∧ W i n σ' H') ?_ m0 ⟨0, σ, H2, I2, st2, fun b hb => (f2 b hb).1, w0⟩
  rintro n s3 ⟨i, σ3, H3, I3, st3, fr3, w3⟩
  rcases turn i n σ3 H3 w3 with ⟨stop, qn⟩ | ⟨go, N, hN, step⟩
  · refine wpAny_passesOwn hp (thn (T.done X rfl rfl rfl hc i pins s3 σ3 H3 X.xe I3 (stat fr3) st3 stop) fun r s4 ⟨hr, I4⟩ => ?_)
    subst hr
    exact wpAny_execs_nil ⟨σ3, H3, I4, qn⟩
  · refine wpAny_passesOwn hp (thn (T.item X rfl rfl rfl hc i pins s3 σ3 H3 X.xe I3 (stat fr3) st3 go) fun r s4 ⟨u, hr, h4⟩ => ?_)
    subst hr
    refine wpAny_passesOwn hp (thn h4 fun _ s5 ⟨x, H5, I5, r5, y5, st5, fr5⟩ => ?_)
    have I5' := I5.pinned (stat fr5) (T.obj _ _ st5)
    refine wpAny_passesOwn hp (thn (hg _ s5 σ3 H5 x u _ I5' r5 (step x H5 y5)) fun _ s6 ⟨σ6, H6, I6, q6⟩ => ?_)
    refine wpAny_passesOwn hp (thn (hb _ s6 σ6 H6 _ I6 q6) fun f s7 q7 => ?_)
    have again : ∀ {σ7 : St} {H7 : Hp}, Inv X (pins ++ pinsAt fp s5.heap) σ7 H7 s7 → N σ7 H7 → ∃ m, m < n ∧ ∃ i σ' H', Inv X pins σ' H' s7 ∧ tn i s7.heap ∧ (∀ b ∈ fp, H' b = none) ∧ W i m σ' H' := fun {σ7 H7} I7 n7 => by
      obtain ⟨m', hm, w7⟩ := hN σ7 H7 n7
      refine ⟨m', hm, i + 1, σ7, H7, I7.unpinned, T.keep _ _ _ st5 fun b hb o e => (I7.pin (b, o) (List.mem_append_right _ (List.mem_append_right _ (mem_pinsAt hb e)))).1, fun b hb => ?_, w7⟩
      obtain ⟨o, e, d⟩ := T.obj _ _ st5 b hb
      exact (I7.pin (b, o) (List.mem_append_right _ (List.mem_append_right _ (mem_pinsAt hb e)))).2.1
    cases f with
    | next => obtain ⟨σ7, H7, I7, n7⟩ := q7; exact again I7 n7
    | cont => obtain ⟨σ7, H7, I7, n7⟩ := q7; exact again I7 n7
    | brk => obtain ⟨σ7, H7, I7, q7⟩ := q7; exact ⟨σ7, H7, I7.unpinned, q7⟩
    | ret v => obtain ⟨x7, σ7, H7, I7, r7, q7⟩ := q7; exact ⟨x7, σ7, H7, I7.unpinned, r7, q7⟩
end
theorem for_list {K : PySem.W.Frag} {a : Addr} {xs : List V} {g : TG} {tb : TS} {D : Ends} {σ : St} {H : Hp} (Pv : Nat → St → Hp → Prop) (h0 : Pv 0 σ H) (hl : ∀ i σ H, i ≤ xs.length → Pv i σ H → SqL K H a xs)
    (hs : ∀ i x σ H, xs[i]? = some x → Pv i σ H → g x σ H fun σ2 H2 => tb { D with nx := Pv (i + 1), ct := Pv (i + 1), bk := D.nx } σ2 H2) (hd : ∀ σ H, Pv xs.length σ H → D.nx σ H) :
    ∃ W : Nat → Nat → St → Hp → Prop, (∃ m, W 0 m σ H) ∧ ∀ i m σ H, W i m σ H →
      ((Itl K a).stop i H ∧ D.nx σ H) ∨ ((Itl K a).go i H ∧ ∃ N : St → Hp → Prop, (∀ σ' H', N σ' H' → ∃ m', m' < m ∧ W (i + 1) m' σ' H') ∧ ∀ x H', (Itl K a).yld i H x H' → g x σ H' fun σ2 H2 => tb { D with nx := N, ct := N, bk := D.nx } σ2 H2) := by
  refine ⟨fun i m σ H => m = xs.length - i ∧ i ≤ xs.length ∧ Pv i σ H, ⟨xs.length, by simp, Nat.zero_le _, h0⟩, ?_⟩
  rintro i m σ H ⟨rfl, hi, p⟩
  have q := hl i σ H hi p
  by_cases hlt : i < xs.length
  · refine .inr ⟨⟨xs, xs[i], q, by simp [hlt]⟩, Pv (i + 1), fun σ' H' p' => ⟨xs.length - (i + 1), by omega, rfl, hlt, p'⟩, fun x H' y => ?_⟩
    obtain ⟨e, y⟩ := y
    subst e
    exact hs i x σ _ (y xs q) p
  · have e : i = xs.length := by omega
    subst e
    exact .inl ⟨⟨xs, q, Nat.le_refl _⟩, hd σ H p⟩
theorem for_range {lo : Int} {n : Nat} {g : TG} {tb : TS} {D : Ends} {σ : St} {H : Hp} (Pv : Nat → St → Hp → Prop) (h0 : Pv 0 σ H)
    (hs : ∀ i σ H, i < n → Pv i σ H → g (.int (lo + i)) σ H fun σ2 H2 => tb { D with nx := Pv (i + 1), ct := Pv (i + 1), bk := D.nx } σ2 H2) (hd : ∀ σ H, Pv n σ H → D.nx σ H) :
    ∃ W : Nat → Nat → St → Hp → Prop, (∃ m, W 0 m σ H) ∧ ∀ i m σ H, W i m σ H →
      ((Itr lo n).stop i H ∧ D.nx σ H) ∨ ((Itr lo n).go i H ∧ ∃ N : St → Hp → Prop, (∀ σ' H', N σ' H' → ∃ m', m' < m ∧ W (i + 1) m' σ' H') ∧ ∀ x H', (Itr lo n).yld i H x H' → g x σ H' fun σ2 H2 => tb { D with nx := N, ct := N, bk := D.nx } σ2 H2) := by
  refine ⟨fun i m σ H => m = n - i ∧ i ≤ n ∧ Pv i σ H, ⟨n, by simp, Nat.zero_le _, h0⟩, ?_⟩
  rintro i m σ H ⟨rfl, hi, p⟩
  by_cases hlt : i < n
  · refine .inr ⟨hlt, Pv (i + 1), fun σ' H' p' => ⟨n - (i + 1), by omega, rfl, hlt, p'⟩, fun x H' y => ?_⟩
    obtain ⟨e, y⟩ := y
    subst e y
    exact hs i σ _ hlt p
  · have e : i = n := by omega
    subst e
    exact .inl ⟨Nat.le_refl _, hd σ H p⟩
theorem while_by {c : TT} {tb : TS} {D : Ends} {σ : St} {H : Hp} (Pv : St → Hp → Prop) (μ : St → Hp → Nat) (h0 : Pv σ H)
    (hs : ∀ σ H, Pv σ H → c σ H fun b H1 => if b = true then tb { D with nx := fun σ' H' => Pv σ' H' ∧ μ σ' H' < μ σ H, ct := fun σ' H' => Pv σ' H' ∧ μ σ' H' < μ σ H, bk := D.nx } σ H1 else D.nx σ H1)
    (mono : ∀ σ H Q Q', (∀ b H1, Q b H1 → Q' b H1) → c σ H Q → c σ H Q') : tWhile c tb D σ H := by
  refine ⟨fun m σ H => m = μ σ H ∧ Pv σ H, ⟨_, rfl, h0⟩, ?_⟩
  rintro m σ H ⟨rfl, p⟩
  refine mono σ H _ _ (fun b H1 q => ?_) (hs σ H p)
  cases b with
  | true => exact ⟨_, fun σ' H' ⟨p', l⟩ => ⟨_, l, rfl, p'⟩, q⟩
  | false => exact q
end L2
namespace L2
open PySem PySem.Spec PyProof.Rows
abbrev R2 := V → V → Hp → VK → Prop
def OpR (X : Cx) (f : Value → Value → Sem Value) (r : R2) : Prop :=
  ∀ (pins : List (Addr × Obj)) (s : Shared) (σ : St) (H : Hp) (x y : V) (v u : Value) (Q : VK), Inv X pins σ H s → RelV x v → RelV y u → r x y H Q →
    wpAny (model X.prog X.w) X.A (f v u) (EP X pins σ Q) X.xe s
def CallR (X : Cx) (f : Value) (r : List V → Hp → VK → Prop) : Prop :=
  ∀ (pins : List (Addr × Obj)) (s : Shared) (σ : St) (H : Hp) (xs : List V) (us : List Value) (Q : VK), Inv X pins σ H s → Vals xs us → r xs H Q →
    wpAny (model X.prog X.w) X.A (call f us) (EP X pins σ Q) X.xe s
def tOp (r : R2) (ta tb : TE) : TE := fun σ H Q => ta σ H fun x H1 => tb σ H1 fun y H2 => r x y H2 Q
def rI (C : Int → Int → Prop) (g : Int → Int → V) : R2 := fun x y H Q => ∃ i j, x = .int i ∧ y = .int j ∧ C i j ∧ Q (g i j) H
def rI0 (g : Int → Int → V) : R2 := fun x y H Q => ∃ i j, x = .int i ∧ y = .int j ∧ Q (g i j) H
section
variable {X : Cx} {a b c : Expr} {ta tb tc : TE} {pos : Pos}
theorem binT (ha : PE X a ta) (hb : PE X b tb) {pins : List (Addr × Obj)} {s : Shared} {σ : St} {H : Hp} {R : V → V → Hp → Prop} (I : Inv X pins σ H s)
    (h : ta σ H fun x H1 => tb σ H1 fun y H2 => R x y H2) {Q : Value → Shared → Prop} {f : Value → Value → Sem Value}
    (hf : ∀ v u s2 x y H2, Inv X pins σ H2 s2 → RelV x v → RelV y u → R x y H2 → wpAny (model X.prog X.w) X.A (f v u) Q X.xe s2) :
    wpAny (model X.prog X.w) X.A (eval a X.env) (fun v s₁ => wpAny (model X.prog X.w) X.A (eval b X.env) (fun u s₂ => wpAny (model X.prog X.w) X.A (f v u) Q X.xe s₂) X.xe s₁) X.xe s := by
  refine thn (ha pins s σ H _ I h) fun v s1 ⟨x, H1, I1, r1, q1⟩ => ?_
  refine thn (hb pins s1 σ H1 _ I1 q1) fun u s2 ⟨y, H2, I2, r2, q2⟩ => ?_
  exact hf v u s2 x y H2 I2 r1 r2 q2
theorem pe_op {op : Operator} {r : R2} (ho : OpR X (binaryOp op) r) (ha : PE X a ta) (hb : PE X b tb) : PE X (.BinOp a op b pos) (tOp r ta tb) := by
  intro pins s σ H Q I h
  exact wpAny_BinOp (binT ha hb I h fun v u s2 x y H2 I2 rx ry q => ho pins s2 σ H2 x y v u Q I2 rx ry q)
theorem opI {f : Value → Value → Sem Value} {C : Int → Int → Prop} {g : Int → Int → Int}
    (rule : ∀ (i j : Int) (t u : Tok) (s : Shared) (Q : Value → Shared → Prop) (E : Value → Shared → Prop), C i j → Q (.int (g i j) s.toks) { s with toks := s.toks + 1 } → wpAny (model X.prog X.w) X.A (f (.int i t) (.int j u)) Q E s) :
    OpR X f (rI C fun i j => .int (g i j)) := by
  intro pins s σ H x y v u Q I rx ry h
  obtain ⟨i, j, rfl, rfl, hc, q⟩ := h
  obtain ⟨t, rfl⟩ := rx
  obtain ⟨t', rfl⟩ := ry
  exact rule i j t t' s _ _ hc ⟨.int (g i j), H, I.tok _, ⟨_, rfl⟩, q⟩
theorem opI0 {f : Value → Value → Sem Value} {g : Int → Int → Int}
    (rule : ∀ (i j : Int) (t u : Tok) (s : Shared) (Q : Value → Shared → Prop) (E : Value → Shared → Prop), Q (.int (g i j) s.toks) { s with toks := s.toks + 1 } → wpAny (model X.prog X.w) X.A (f (.int i t) (.int j u)) Q E s) :
    OpR X f (rI0 fun i j => .int (g i j)) := by
  intro pins s σ H x y v u Q I rx ry h
  obtain ⟨i, j, rfl, rfl, q⟩ := h
  obtain ⟨t, rfl⟩ := rx
  obtain ⟨t', rfl⟩ := ry
  exact rule i j t t' s _ _ ⟨.int (g i j), H, I.tok _, ⟨_, rfl⟩, q⟩
theorem opB0 {f : Value → Value → Sem Value} {g : Int → Int → Bool}
    (rule : ∀ (i j : Int) (t u : Tok) (s : Shared) (Q : Value → Shared → Prop) (E : Value → Shared → Prop), Q (.bool (g i j)) s → wpAny (model X.prog X.w) X.A (f (.int i t) (.int j u)) Q E s) :
    OpR X f (rI0 fun i j => .bl (g i j)) := by
  intro pins s σ H x y v u Q I rx ry h
  obtain ⟨i, j, rfl, rfl, q⟩ := h
  obtain ⟨t, rfl⟩ := rx
  obtain ⟨t', rfl⟩ := ry
  exact rule i j t t' s _ _ ⟨.bl (g i j), H, I, rfl, q⟩
def CDiv (i j : Int) : Prop := 0 < j ∧ j < 1073741824
def CMul (i j : Int) : Prop := (-(2 ^ 64) < i ∧ i < 2 ^ 64) ∨ (-(2 ^ 64) < j ∧ j < 2 ^ 64)
theorem CMul.ok {i j : Int} (h : CMul i j) : IntMulOk i j := by
  rcases h with ⟨h1, h2⟩ | ⟨h1, h2⟩
  · exact .of_left (intBits_le_64 h1 h2)
  · exact .of_right (intBits_le_64 h1 h2)
theorem op_add : OpR X (binaryOp .Add) (rI0 fun i j => .int (i + j)) := opI0 fun _ _ _ _ _ _ _ q => add_int q
theorem op_sub : OpR X (binaryOp .Sub) (rI0 fun i j => .int (i - j)) := opI0 fun _ _ _ _ _ _ _ q => sub_int q
theorem op_mul : OpR X (binaryOp .Mult) (rI CMul fun i j => .int (i * j)) := opI fun _ _ _ _ _ _ _ hc q => mul_int q hc.ok
theorem op_fdiv : OpR X (binaryOp .FloorDiv) (rI CDiv fun i j => .int (i / j)) := opI fun i j _ _ _ _ _ hc q => by
  have h1 : (0 : Int) < j := hc.1
  have h2 : j < 1073741824 := hc.2
  exact floordiv_int (by omega) (by rw [Int.fdiv_eq_ediv_of_nonneg i (by omega)]; exact q) (.inl (PyProof.noPylong_small (by omega)))
theorem op_mod : OpR X (binaryOp .Mod) (rI (fun _ j => 0 < j) fun i j => .int (i % j)) := opI fun i j _ _ _ _ _ hc q => by
  have h1 : (0 : Int) < j := hc
  exact mod_int' (by omega) (by rw [Int.fmod_eq_emod_of_nonneg i (by omega)]; exact q)
end
def scal : V → V → Bool
  | .non, .non => true | .non, .int _ => true | .int _, .non => true | .non, .bl _ => true | .bl _, .non => true | .non, .str _ => true | .str _, .non => true
  | .int _, .int _ => true | .bl _, .bl _ => true | .str _, .str _ => true | .byt _, .byt _ => true
  | .int _, .str _ => true | .str _, .int _ => true | .bl _, .str _ => true | .str _, .bl _ => true
  | _, _ => false
def rEq : R2 := fun x y H Q => scal x y = true ∧ Q (.bl (decide (x = y))) H
def rNe : R2 := fun x y H Q => scal x y = true ∧ Q (.bl (!decide (x = y))) H
theorem dec_int {i j : Int} : decide (V.int i = V.int j) = (i == j) := by
  rw [Bool.eq_iff_iff]
  simp
theorem dec_bl {i j : Bool} : decide (V.bl i = V.bl j) = (i == j) := by
  rw [Bool.eq_iff_iff]
  simp
theorem dec_str {i j : Str} : decide (V.str i = V.str j) = (i == j) := by
  rw [Bool.eq_iff_iff]
  simp
theorem dec_byt {i j : Array UInt8} : decide (V.byt i = V.byt j) = (i.toList == j.toList) := by
  rw [Bool.eq_iff_iff]
  cases i
  cases j
  simp
section
variable {X : Cx} {a b c : Expr} {ta tb tc : TE} {pos : Pos}
theorem fin_bl {pins : List (Addr × Obj)} {σ : St} {H : Hp} {s : Shared} {Q : VK} {k k' : Bool} (I : Inv X pins σ H s) (q : Q (.bl k) H) (e : k = k') : EP X pins σ Q (.bool k') s := by
  subst e
  exact ⟨.bl k, H, I, rfl, q⟩
theorem op_eq : OpR X (compareOp .Eq) rEq := by
  intro pins s σ H x y v u Q I rx ry h
  obtain ⟨hs, q⟩ := h
  cases x with
  | non =>
    cases rx
    cases y with
    | non => cases ry; exact PySem.EqNone.eq_none_none (fin_bl I q (by simp))
    | bl j => cases ry; exact PySem.EqNone.eq_none_bool (fin_bl I q (by simp))
    | int j => obtain ⟨t', rfl⟩ := ry; exact PySem.EqNone.eq_none_int (fin_bl I q (by simp))
    | str j => obtain ⟨t', rfl⟩ := ry; exact PySem.EqNone.eq_none_str (fin_bl I q (by simp))
    | _ => exact absurd (show false = true from hs) Bool.false_ne_true
  | bl i =>
    cases rx
    cases y with
    | non => cases ry; exact PySem.EqNone.eq_bool_none (fin_bl I q (by simp))
    | bl j => cases ry; exact eq_bool (fin_bl I q dec_bl)
    | str j => obtain ⟨t', rfl⟩ := ry; exact PySem.EqMixed.eq_bool_str (fin_bl I q (by simp))
    | _ => exact absurd (show false = true from hs) Bool.false_ne_true
  | int i =>
    obtain ⟨t, rfl⟩ := rx
    cases y with
    | non => cases ry; exact PySem.EqNone.eq_int_none (fin_bl I q (by simp))
    | int j => obtain ⟨t', rfl⟩ := ry; exact eq_int (fin_bl I q dec_int)
    | str j => obtain ⟨t', rfl⟩ := ry; exact PySem.EqMixed.eq_int_str (fin_bl I q (by simp))
    | _ => exact absurd (show false = true from hs) Bool.false_ne_true
  | str i =>
    obtain ⟨t, rfl⟩ := rx
    cases y with
    | non => cases ry; exact PySem.EqNone.eq_str_none (fin_bl I q (by simp))
    | bl j => cases ry; exact PySem.EqMixed.eq_str_bool (fin_bl I q (by simp))
    | int j => obtain ⟨t', rfl⟩ := ry; exact PySem.EqMixed.eq_str_int (fin_bl I q (by simp))
    | str j => obtain ⟨t', rfl⟩ := ry; exact eq_str (fin_bl I q dec_str)
    | _ => exact absurd (show false = true from hs) Bool.false_ne_true
  | byt i =>
    obtain ⟨t, rfl⟩ := rx
    cases y with
    | byt j => obtain ⟨t', rfl⟩ := ry; exact PySem.W.eq_bytes (fin_bl I q dec_byt)
    | _ => exact absurd (show false = true from hs) Bool.false_ne_true
  | _ => cases y <;> exact absurd (show false = true from hs) Bool.false_ne_true
theorem op_ne : OpR X (compareOp .NotEq) rNe := by
  intro pins s σ H x y v u Q I rx ry h
  obtain ⟨hs, q⟩ := h
  cases x with
  | non =>
    cases rx
    cases y with
    | non => cases ry; exact PySem.EqNone.ne_none_none (fin_bl I q (by simp))
    | bl j => cases ry; exact PySem.EqNone.ne_none_bool (fin_bl I q (by simp))
    | int j => obtain ⟨t', rfl⟩ := ry; exact PySem.EqNone.ne_none_int (fin_bl I q (by simp))
    | str j => obtain ⟨t', rfl⟩ := ry; exact PySem.EqNone.ne_none_str (fin_bl I q (by simp))
    | _ => exact absurd (show false = true from hs) Bool.false_ne_true
  | bl i =>
    cases rx
    cases y with
    | non => cases ry; exact PySem.EqNone.ne_bool_none (fin_bl I q (by simp))
    | bl j => cases ry; exact ne_bool (fin_bl I q (congrArg not dec_bl))
    | str j => obtain ⟨t', rfl⟩ := ry; exact PySem.EqMixed.ne_bool_str (fin_bl I q (by simp))
    | _ => exact absurd (show false = true from hs) Bool.false_ne_true
  | int i =>
    obtain ⟨t, rfl⟩ := rx
    cases y with
    | non => cases ry; exact PySem.EqNone.ne_int_none (fin_bl I q (by simp))
    | int j => obtain ⟨t', rfl⟩ := ry; exact ne_int (fin_bl I q (congrArg not dec_int))
    | str j => obtain ⟨t', rfl⟩ := ry; exact PySem.EqMixed.ne_int_str (fin_bl I q (by simp))
    | _ => exact absurd (show false = true from hs) Bool.false_ne_true
  | str i =>
    obtain ⟨t, rfl⟩ := rx
    cases y with
    | non => cases ry; exact PySem.EqNone.ne_str_none (fin_bl I q (by simp))
    | bl j => cases ry; exact PySem.EqMixed.ne_str_bool (fin_bl I q (by simp))
    | int j => obtain ⟨t', rfl⟩ := ry; exact PySem.EqMixed.ne_str_int (fin_bl I q (by simp))
    | str j => obtain ⟨t', rfl⟩ := ry; exact ne_str (fin_bl I q (congrArg not dec_str))
    | _ => exact absurd (show false = true from hs) Bool.false_ne_true
  | byt i =>
    obtain ⟨t, rfl⟩ := rx
    cases y with
    | byt j => obtain ⟨t', rfl⟩ := ry; exact PySem.W.ne_bytes (fin_bl I q (congrArg not dec_byt))
    | _ => exact absurd (show false = true from hs) Bool.false_ne_true
  | _ => cases y <;> exact absurd (show false = true from hs) Bool.false_ne_true
theorem op_lt : OpR X (compareOp .Lt) (rI0 fun i j => .bl (decide (i < j))) := opB0 fun _ _ _ _ _ _ _ q => lt_int q
theorem op_le : OpR X (compareOp .LtE) (rI0 fun i j => .bl (decide (i ≤ j))) := opB0 fun _ _ _ _ _ _ _ q => le_int q
theorem nomark (b : Expr) {op : CmpOp} (h : op ≠ .In := by decide) (h2 : op ≠ .NotIn := by decide) : behindInMarks op b = false := by
  have e1 : (op == CmpOp.In) = false := by cases op <;> first | rfl | exact absurd rfl h
  have e2 : (op == CmpOp.NotIn) = false := by cases op <;> first | rfl | exact absurd rfl h2
  cases b <;> simp [behindInMarks, e1, e2]
theorem pe_cmpR {op : CmpOp} {r : R2} (ho : OpR X (compareOp op) r) (ha : PE X a ta) (hb : PE X b tb) (hm : behindInMarks op b = false) : PE X (.Compare a [op] [b] pos) (tOp r ta tb) := by
  intro pins s σ H Q I h
  exact wpAny_Compare1 (binT ha hb I h fun v u s2 x y H2 I2 rx ry q => ho pins s2 σ H2 x y v u Q I2 rx ry q) hm
def tTest (t : TE) : TT := fun σ H Q => t σ H fun x H' => ∃ k, x = .bl k ∧ Q k H'
theorem pt_cmpR {op : CmpOp} {r : R2} (ho : OpR X (compareOp op) r) (ha : PE X a ta) (hb : PE X b tb) (hm : behindInMarks op b = false) : PT X (.Compare a [op] [b] pos) (tTest (tOp r ta tb)) := by
  intro pins s σ H Q I h
  refine wpAny_isTrue_Compare1 (thn (ha pins s σ H _ I h) fun v s1 ⟨x, H1, I1, r1, q1⟩ => thn (hb pins s1 σ H1 _ I1 q1) fun u s2 ⟨y, H2, I2, r2, q2⟩ =>
    thn (ho pins s2 σ H2 x y v u _ I2 r1 r2 q2) fun c s3 ⟨z, H3, I3, r3, k, e, q3⟩ => ?_) hm
  subst e
  cases r3
  exact wpAny_truthy_bool ⟨H3, I3, q3⟩
def tChain (r r' : R2) (ta tb tc : TE) : TE := fun σ H Q => ta σ H fun x H1 => tb σ H1 fun y H2 => r x y H2 fun z H3 => ∃ k, z = .bl k ∧
  (if k = true then tc σ H3 fun w' H4 => r' y w' H4 Q else Q (.bl false) H3)
theorem pe_chain {op op' : CmpOp} {r r' : R2} (ho : OpR X (compareOp op) r) (ho' : OpR X (compareOp op') r') (ha : PE X a ta) (hb : PE X b tb) (hc : PE X c tc)
    (hm : lastMarks [op, op'] [b, c] = false := by with_unfolding_all rfl) : PE X (.Compare a [op, op'] [b, c] pos) (tChain r r' ta tb tc) := by
  intro pins s σ H Q I h
  refine Compare_chain (thn (ha pins s σ H _ I h) fun v s1 ⟨x, H1, I1, r1, q1⟩ => chain_link (thn (hb pins s1 σ H1 _ I1 q1) fun u s2 ⟨y, H2, I2, r2, q2⟩ =>
    thn (ho pins s2 σ H2 x y v u _ I2 r1 r2 q2) fun d s3 ⟨z, H3, I3, r3, k, e, q3⟩ => ?_)) hm
  subst e
  cases r3
  refine wpAny_truthy_bool ?_
  cases k with
  | false => exact ite_ff ⟨.bl false, H3, I3, rfl, q3⟩
  | true => exact ite_tt (chain_last (thn (hc pins s3 σ H3 _ I3 q3) fun w' s4 ⟨z', H4, I4, r4, q4⟩ => ho' pins s4 σ H4 y z' u w' Q I4 r2 r4 q4))
theorem pt_chain {op op' : CmpOp} {r r' : R2} (ho : OpR X (compareOp op) r) (ho' : OpR X (compareOp op') r') (ha : PE X a ta) (hb : PE X b tb) (hc : PE X c tc)
    (hm : lastMarks [op, op'] [b, c] = false := by with_unfolding_all rfl) : PT X (.Compare a [op, op'] [b, c] pos) (tTest (tChain r r' ta tb tc)) := by
  intro pins s σ H Q I h
  refine isTrue_chain (thn (ha pins s σ H _ I h) fun v s1 ⟨x, H1, I1, r1, q1⟩ => test_link (thn (hb pins s1 σ H1 _ I1 q1) fun u s2 ⟨y, H2, I2, r2, q2⟩ =>
    thn (ho pins s2 σ H2 x y v u _ I2 r1 r2 q2) fun d s3 ⟨z, H3, I3, r3, k, e, q3⟩ => ?_)) hm
  subst e
  cases r3
  refine wpAny_truthy_bool ?_
  cases k with
  | false =>
    obtain ⟨k', e', q'⟩ := q3
    cases e'
    exact ite_ff ⟨H3, I3, q'⟩
  | true =>
    refine ite_tt (test_last (thn (hc pins s3 σ H3 _ I3 q3) fun w' s4 ⟨z', H4, I4, r4, q4⟩ => thn (ho' pins s4 σ H4 y z' u w' _ I4 r2 r4 q4) fun d' s5 ⟨z2, H5, I5, r5, k2, e2, q5⟩ => ?_))
    subst e2
    cases r5
    exact wpAny_truthy_bool ⟨H5, I5, q5⟩
theorem line63 : (sizeLine : Nat) < 2 ^ 63 := by rw [sizeLine_eq]; decide
theorem vals1 {x : V} {us : List Value} (r : Vals [x] us) : ∃ u, us = [u] ∧ RelV x u := by
  cases r with
  | cons r1 r2 => cases r2; exact ⟨_, rfl, r1⟩
theorem vals2 {x y : V} {us : List Value} (r : Vals [x, y] us) : ∃ u w', us = [u, w'] ∧ RelV x u ∧ RelV y w' := by
  cases r with
  | cons r1 r2 =>
    cases r2 with
    | cons r3 r4 => cases r4; exact ⟨_, _, rfl, r1, r3⟩
theorem call_min2 (hc : X.calm = true) : CallR X (.builtin "min") (fun xs H Q => ∃ i j, xs = [.int i, .int j] ∧ Q (.int (if j < i then j else i)) H) := by
  intro pins s σ H xs us Q I r h
  obtain ⟨i, j, rfl, q⟩ := h
  obtain ⟨u, w', rfl, ⟨t, rfl⟩, ⟨t', rfl⟩⟩ := vals2 r
  refine with_toks (min_two_ints (I.ok.hd hc) fun h' tk k ht => ⟨_, H, I.kept k ht, ?_, q⟩)
  by_cases hj : j < i
  · rw [if_pos hj, if_pos hj]; exact ⟨_, rfl⟩
  · rw [if_neg hj, if_neg hj]; exact ⟨_, rfl⟩
end
end L2
namespace L2
open PySem PySem.Spec PyProof.Rows
structure ObjM (h : Heap) (x dx C : Addr) (mA : Str → Option Value) : Prop where
  obj : h.get? x = some (PySem.W.instObj C dx)
  ns : h.Ns1 dx mA
  ne : dx ≠ x
theorem lookIn_ns {h : Heap} {dx : Addr} {mA : Str → Option Value} (n : h.Ns1 dx mA) : ∃ od, h.get? dx = some od ∧ ∀ name, PySem.W.lookIn name od = some (mA name) := by
  obtain ⟨o, es, ep, ho, hd, hk, _, hm⟩ := n
  refine ⟨o, ho, fun name => ?_⟩
  have e := hm name
  unfold nsFind findBy at e
  rw [← Array.find?_toList] at e
  unfold PySem.W.lookIn
  rw [hd]
  dsimp only
  split
  · rename_i y q
    rw [q] at e
    exact congrArg some e
  · rename_i q
    rw [q] at e
    have a : es.toList.any (·.refKey) = false := by
      rw [List.any_eq_false]
      intro y hy
      obtain ⟨z, t, hkey⟩ := hk y (Array.mem_toList_iff.mp hy)
      simp [DictEntry.refKey, hkey]
    have a' : ¬ es.toList.any (·.refKey) = true := by rw [a]; exact Bool.false_ne_true
    rw [if_neg a']
    exact congrArg some e
theorem ObjM.look {h : Heap} {x dx C : Addr} {mA : Str → Option Value} (I : ObjM h x dx C mA) : ∃ od, PySem.W.InstAt h x (PySem.W.instObj C dx) C (some od) ∧ ∀ name, PySem.W.lookIn name od = some (mA name) :=
  let ⟨od, ho, hl⟩ := lookIn_ns I.ns
  ⟨od, ⟨I.obj, rfl, rfl, ho⟩, hl⟩
section
variable {prog : Program} {w : World} {A : Around} {E : Value → Shared → Prop} {s : Shared} {K : PySem.W.Frag} {x dx C f : Addr} {mA : Str → Option Value} {name : Str} {v : Value}
theorem get_map {expr : Bool} {Q : Value → Shared → Prop} (X : K.In s.heap) (I : ObjM s.heap x dx C mA) (hg : PySem.W.plainGet K C name = true) (hh : PySem.W.hasDictIn K C = true)
    (ha : PySem.W.findIn K (.ref C) name = some none) (hv : mA name = some v) (hv' : PySem.W.handedIn v = true) (h : Q v { s with toks := s.toks + 1 }) :
    wpAny (model prog w) A (getAttr (.ref x) name expr) Q E s := by
  obtain ⟨od, J, hl⟩ := I.look
  exact PySem.W.get_value X J (PySem.W.plainGet_of hg).1 (PySem.W.findObj_own hh ha rfl (by rw [hl, hv])) hv' h
theorem get_meth {pl : Sem Bool} {Q : Value × List Value → Shared → Prop} (X : K.In s.heap) (I : ObjM s.heap x dx C mA) (hg : PySem.W.plainGet K C name = true)
    (hf : PySem.W.findIn K (.ref C) name = some (some (.ref f))) (ht : PySem.W.isFn K (.ref f) = true) (hv : mA name = none) (h : Q (.ref f, [.ref x]) s) :
    wpAny (model prog w) A (getMethod (.ref x) name pl) Q E s := by
  obtain ⟨od, J, hl⟩ := I.look
  exact PySem.W.method_fn X J (PySem.W.plainGet_of hg).1 (PySem.W.plainGet_of hg).2 hf (beq_iff_eq.mp ht) (by show (PySem.W.lookIn name od).map (·.isSome) = some false; rw [hl, hv]; rfl) h
theorem set_map {ns : List Str} {Q : Unit → Shared → Prop} (X : K.In s.heap) (I : ObjM s.heap x dx C mA)
    (hs : PySem.W.findIn K (.ref C) "__setattr__" = some (some (.builtin "object.__setattr__"))) (hp : PySem.W.plainOver K C = true) (ht : PySem.W.takerIn K C name = some none) (hh : PySem.W.hasDictIn K C = true)
    (hw : PySem.Within mA ns) (hsz : ns.length ≤ sizeLine)
    (h : ∀ h', ObjM h' x dx C (fun y => if y = name then some v else mA y) → Heap.SameBut dx s.heap h' → Q () { s with heap := h', toks := s.toks + 2 }) :
    wpAny (model prog w) A (setAttr (.ref x) name v) Q E s := by
  obtain ⟨od, J, hl⟩ := I.look
  refine PySem.W.set_plain X J hs (PySem.W.osa_open (s := { s with toks := s.toks + 1 }) (r := none) X J hp ht fun b => ?_)
  obtain ⟨cd, hc, hd'⟩ := PySem.W.any_some hh
  have hx : s.heap.get? x = some ⟨.ref C, some dx, .plain, #[]⟩ := I.obj
  refine wpAny_bind (wpAny_pure (wpAny_bind (wpAny_bind (wpAny_loadPart hx (wpAny_bind (PySem.W.Looks.here (s := { s with toks := s.toks + 1 }) (PySem.W.looks_clsIn X hc) ?_))))))
  rw [hd']
  refine wpAny_pure (a := some dx) (wpAny_bind (wpAny_pure (wpAny_bind ?_)))
  refine wpAny_nsSet1 (s := { s with toks := s.toks + 1 }) I.ns fun h' hn2 hs2 => ?_
  obtain ⟨oD, esD, epD, hoD, hdD, hcD⟩ := hn2.count (PySem.Within.cons name v hw)
  refine wpAny_bind (wpAny_lookBehind hoD (by rw [hdD]; exact pastItsLine_dict (Nat.le_trans hcD (by rw [List.length_cons]; omega))) ?_)
  exact wpAny_pure (h _ ⟨(hs2.2 _ (Ne.symm I.ne)).trans I.obj, hn2, I.ne⟩ hs2)
theorem make_map {R : Result → Shared → Prop} {vs : List Value} {kw : List (Str × Value)} (X : K.In s.heap) (hm : PySem.W.makesIn K C = true)
    (hi : PySem.W.findIn K (.ref C) "__init__" = some (some (.ref f))) (hf : PySem.W.typeIn K (.ref f) = some (.type "function"))
    (h : codeAny (model prog w) (A.under (.builtin "type.__call__" ⟨.ref C :: vs, kw⟩)) (.call (.ref f) ⟨.ref (s.heap.objs.size + 1) :: vs, kw⟩) (PySem.W.InitBack (s.heap.objs.size + 1) R)
      { s with heap := (s.heap.push PySem.W.emptyDict).push (PySem.W.instObj C s.heap.objs.size) }) :
    codeAny (model prog w) A (.call (.ref C) ⟨vs, kw⟩) R s := by
  obtain ⟨hh, g, d, t, os⟩ := s
  exact PySem.W.make_core (PySem.W.makes_of X hm) (PySem.W.looks_findIn X hi) (fun self => PySem.W.bind_fn X self hf) (.inl rfl) h
end
def putF (f : Str) (v : V) : List (Str × V) → List (Str × V)
  | [] => [(f, v)]
  | (g, x) :: r => if g = f then (g, v) :: r else (g, x) :: putF f v r
theorem lookup_putF (f g : Str) (v : V) : ∀ fs : List (Str × V), (putF f v fs).lookup g = if g = f then some v else fs.lookup g
  | [] => by
    show List.lookup g [(f, v)] = _
    by_cases h : g = f
    · have hb : (g == f) = true := beq_iff_eq.mpr h
      simp only [List.lookup, hb, if_pos h]
    · have hb : (g == f) = false := beq_eq_false_iff_ne.mpr h
      simp only [List.lookup, hb, if_neg h]
  | (k, x) :: r => by
    have ih := lookup_putF f g v r
    rw [show putF f v ((k, x) :: r) = (if k = f then (k, v) :: r else (k, x) :: putF f v r) from rfl]
    by_cases hk : k = f
    · rw [if_pos hk]
      by_cases h : g = k
      · have hb : (g == k) = true := beq_iff_eq.mpr h
        simp only [List.lookup, hb, if_pos (h.trans hk)]
      · have hb : (g == k) = false := beq_eq_false_iff_ne.mpr h
        simp only [List.lookup, hb, if_neg (fun e : g = f => h (e.trans hk.symm))]
    · rw [if_neg hk]
      by_cases h : g = k
      · have hb : (g == k) = true := beq_iff_eq.mpr h
        simp only [List.lookup, hb, if_neg (fun e : g = f => hk (h.symm.trans e))]
      · have hb : (g == k) = false := beq_eq_false_iff_ne.mpr h
        simp only [List.lookup, hb]
        exact ih
theorem keys_putF (f : Str) (v : V) : ∀ fs : List (Str × V), f ∈ (putF f v fs).map (·.1) ∧ ∀ g, g ∈ fs.map (·.1) → g ∈ (putF f v fs).map (·.1)
  | [] => ⟨by simp [putF], fun g h => by simp at h⟩
  | (k, x) :: r => by
    obtain ⟨i1, i2⟩ := keys_putF f v r
    rw [show putF f v ((k, x) :: r) = (if k = f then (k, v) :: r else (k, x) :: putF f v r) from rfl]
    by_cases hk : k = f
    · rw [if_pos hk]
      subst hk
      exact ⟨by simp, fun g h => by simpa using h⟩
    · rw [if_neg hk]
      refine ⟨?_, fun g h => ?_⟩
      · rw [List.map_cons]
        exact List.mem_cons_of_mem _ i1
      · rw [List.map_cons] at h ⊢
        rcases List.mem_cons.mp h with e | e
        · exact List.mem_cons.mpr (.inl e)
        · exact List.mem_cons_of_mem _ (i2 g e)
theorem length_putF (f : Str) (v : V) : ∀ fs : List (Str × V), (putF f v fs).length ≤ fs.length + 1
  | [] => by simp [putF]
  | (k, x) :: r => by
    have ih := length_putF f v r
    rw [show putF f v ((k, x) :: r) = (if k = f then (k, v) :: r else (k, x) :: putF f v r) from rfl]
    by_cases hk : k = f
    · rw [if_pos hk, List.length_cons, List.length_cons]; omega
    · rw [if_neg hk, List.length_cons, List.length_cons]; omega
theorem RelO.some_of {v : V} {o : Option Value} (r : RelO (some v) o) : ∃ u, o = some u ∧ RelV v u := by
  cases o with
  | none => exact (show False from r).elim
  | some u => exact ⟨u, rfl, r⟩
theorem RelO.none_of {o : Option Value} (r : RelO none o) : o = none := by
  cases o with
  | none => rfl
  | some u => exact (show False from r).elim
theorem handed_of {v : V} {u : Value} (r : RelV v u) : PySem.W.handedIn u = true := by
  cases v with
  | non => cases (show u = Value.none from r); rfl
  | bl b => cases (show u = Value.bool b from r); rfl
  | int i => obtain ⟨t, e⟩ := (show ∃ t, u = Value.int i t from r); cases e; rfl
  | str x => obtain ⟨t, e⟩ := (show ∃ t, u = Value.str x t from r); cases e; rfl
  | byt b => obtain ⟨t, e⟩ := (show ∃ t, u = Value.bytes b t from r); cases e; rfl
  | flt b => obtain ⟨t, e⟩ := (show ∃ t, u = Value.float b t from r); cases e; rfl
  | ref a => cases (show u = Value.ref a from r); rfl
  | ty n => cases (show u = Value.type n from r); rfl
section
variable {P : Program} {w : World} {H H' : Hp} {h h' : Heap} {a C dx : Addr} {fs fs' : List (Str × V)}
theorem ins_get (hok : HOk P w H h) (e : H a = some (.ins C dx fs)) : ∃ mA, ObjM h a dx C mA ∧ (∀ f, RelO (fs.lookup f) (mA f)) ∧ PySem.Within mA (fs.map (·.1)) ∧ fs.length ≤ 1000 ∧ H dx = some (.own a) := by
  obtain ⟨d, z, ne, ob, mA, n, r, q⟩ := (show ObjOk P w H h a (.ins C dx fs) from hok a _ e)
  exact ⟨mA, ⟨ob, n, ne⟩, r, q, z, d⟩
end
structure Cls (K : PySem.W.Frag) (C : Addr) : Prop where
  pg : PySem.W.plainGet K C Str.empty = true
  hd : PySem.W.hasDictIn K C = true
  po : PySem.W.plainOver K C = true
  sa : PySem.W.findIn K (.ref C) "__setattr__" = some (some (.builtin "object.__setattr__"))
theorem Cls.get {K : PySem.W.Frag} {C : Addr} (c : Cls K C) (f : Str) : PySem.W.plainGet K C f = true := c.pg
def NoAttr (K : PySem.W.Frag) (C : Addr) (f : Str) : Prop := PySem.W.findIn K (.ref C) f = some none
theorem NoAttr.taker {K : PySem.W.Frag} {C : Addr} {f : Str} (n : NoAttr K C f) : PySem.W.takerIn K C f = some none := by
  unfold PySem.W.takerIn
  rw [show PySem.W.findIn K (.ref C) f = some none from n]
  rfl
structure Con (K : PySem.W.Frag) (C : Addr) (f : Str) (v : V) (u : Value) : Prop where
  at_ : PySem.W.findIn K (.ref C) f = some (some u)
  rel : RelV v u
  get : PySem.W.specialIn K u "__get__" = some none
  cp : PySem.W.copiedNames.contains f = false
structure Meth (K : PySem.W.Frag) (C : Addr) (m : Str) (f : Addr) : Prop where
  at_ : PySem.W.findIn K (.ref C) m = some (some (.ref f))
  fn : PySem.W.isFn K (.ref f) = true
  kp : PySem.W.keepIn K (.ref f) = true
section
variable {X : Cx} {pins : List (Addr × Obj)} {σ : St} {H : Hp} {s : Shared} {a C dx : Addr} {fs : List (Str × V)} {f : Str} {v : V} {A : Around} {E : Value → Shared → Prop}
theorem getattr_ok {b : Bool} {Q : Value → Shared → Prop} (I : Inv X pins σ H s) (e : H a = some (.ins C dx fs)) (c : Cls X.K C) (n : NoAttr X.K C f) (l : fs.lookup f = some v)
    (h : ∀ u s', Inv X pins σ H s' → RelV v u → Q u s') : wpAny (model X.prog X.w) A (getAttr (.ref a) f b) Q E s := by
  obtain ⟨mA, O, r, _, _, _⟩ := ins_get I.hok e
  obtain ⟨u, hu, ru⟩ := RelO.some_of (v := v) (o := mA f) (by rw [← l]; exact r f)
  exact get_map I.kIn O (c.get f) c.hd n hu (handed_of ru) (h u _ (I.tok _) ru)
theorem getmeth_ok {m : Str} {g : Addr} {pl : Sem Bool} {Q : Value × List Value → Shared → Prop} (I : Inv X pins σ H s) (e : H a = some (.ins C dx fs)) (c : Cls X.K C) (k : Meth X.K C m g) (l : fs.lookup m = none)
    (h : Q (.ref g, [.ref a]) s) : wpAny (model X.prog X.w) A (getMethod (.ref a) m pl) Q E s := by
  obtain ⟨mA, O, r, _, _, _⟩ := ins_get I.hok e
  have hn : mA m = none := RelO.none_of (by rw [← l]; exact r m)
  exact get_meth I.kIn O (c.get m) k.at_ k.fn hn h
theorem setattr_ok {y : V} {u : Value} {Q : Unit → Shared → Prop} (I : Inv X pins σ H s) (e : H a = some (.ins C dx fs)) (c : Cls X.K C) (n : NoAttr X.K C f) (hl : fs.length < 1000) (ry : RelV y u)
    (h : ∀ s', Inv X pins σ (upd H a (.ins C dx (putF f y fs))) s' → Q () s') : wpAny (model X.prog X.w) A (setAttr (.ref a) f u) Q E s := by
  obtain ⟨mA, O, r, wi, _, ho⟩ := ins_get I.hok e
  have hz : (fs.map (·.1)).length ≤ sizeLine := by rw [List.length_map, sizeLine_eq]; omega
  refine set_map I.kIn O c.sa c.po n.taker c.hd wi hz fun h' O' sb => h _ ?_
  have hd : ∃ o, h'.get? dx = some o := let ⟨o, _, _, e', _⟩ := O'.ns; ⟨o, e'⟩
  refine I.write (x := a) (e := dx) (by rw [e]; exact True.intro) (.inr ho) (fun b q hb z => (sb.2 b hb).trans z) hd ?_
  refine ⟨by rw [upd_ne O.ne]; exact ho, ?_, O.ne, O'.obj, _, O'.ns, fun g => ?_, fun g hg => ?_⟩
  · have := length_putF f y fs; omega
  · show RelO ((putF f y fs).lookup g) (if g = f then some u else mA g)
    rw [lookup_putF]
    by_cases q : g = f
    · rw [if_pos q, if_pos q]; exact ry
    · rw [if_neg q, if_neg q]; exact r g
  · by_cases q : g = f
    · rw [q]; exact (keys_putF f y fs).1
    · refine (keys_putF f y fs).2 g (wi g fun z => hg ?_)
      show (if g = f then some u else mA g) = none
      rw [if_neg q]; exact z
theorem Inv.made (I : Inv X pins σ H s) : Inv X pins σ (upd (upd H s.heap.objs.size (.own (s.heap.objs.size + 1))) (s.heap.objs.size + 1) (.ins C s.heap.objs.size []))
    { s with heap := (s.heap.push PySem.W.emptyDict).push (PySem.W.instObj C s.heap.objs.size) } := by
  have e1 : (s.heap.push PySem.W.emptyDict).get? s.heap.objs.size = some PySem.W.emptyDict := Heap.get?_push_size s.heap rfl
  have e2 : ((s.heap.push PySem.W.emptyDict).push (PySem.W.instObj C s.heap.objs.size)).get? (s.heap.objs.size + 1) = some (PySem.W.instObj C s.heap.objs.size) := by
    have := Heap.get?_push_size (s.heap.push PySem.W.emptyDict) (o := PySem.W.instObj C s.heap.objs.size) rfl
    rwa [Heap.size_push] at this
  have e3 : (s.heap.push PySem.W.emptyDict).Ns s.heap.objs.size (fun _ => none) := ⟨PySem.W.emptyDict, #[], _, e1, rfl, (fun e he => absurd he (by simp)), fun _ => rfl⟩
  have I1 := I.laid (a := s.heap.objs.size) (o := .own (s.heap.objs.size + 1)) (h' := s.heap.push PySem.W.emptyDict) (t' := s.toks) (fun b u q => Heap.get?_push_of_some _ q) (Nat.le_refl _) ⟨_, e1⟩
  refine I1.laid (a := s.heap.objs.size + 1) (o := .ins C s.heap.objs.size []) (t' := s.toks) (fun b u q => Heap.get?_push_of_some _ q) (Nat.le_of_eq (Heap.size_push _ _)) ?_
  have ne : s.heap.objs.size ≠ s.heap.objs.size + 1 := Nat.ne_of_lt (Nat.lt_succ_self _)
  refine ⟨by rw [upd_ne ne, upd_same], Nat.zero_le _, ne, e2, fun _ => none, (Heap.Ns1.of_empty e3).at fun o q => Heap.get?_push_of_some _ q, fun _ => True.intro, fun y hy => absurd rfl hy⟩
theorem attr_of {prog : Program} {w : World} {env : Env} {e : Expr} {f : Str} {pos : Pos} {s : Shared} {Q : Value → Shared → Prop} (hb : attributeBase e f env (eval e env) = eval e env)
    (h : wpAny (model prog w) A (eval e env) (fun o s₁ => wpAny (model prog w) A (getAttr o f true) Q E s₁) E s) : wpAny (model prog w) A (eval (.Attribute e f pos) env) Q E s :=
  Attribute_any_ h (by rw [arm_eval_Attribute, hb])
end
def tFld (K : PySem.W.Frag) (ta : TE) (f : Str) : TE := fun σ H Q => ta σ H fun x H1 => ∃ a C dx fs v, x = .ref a ∧ H1 a = some (.ins C dx fs) ∧ Cls K C ∧ NoAttr K C f ∧ fs.lookup f = some v ∧ Q v H1
def sFld (K : PySem.W.Frag) (ta tv : TE) (f : Str) : TS := fun D σ H => tv σ H fun y H1 => ta σ H1 fun x H2 => ∃ a C dx fs, x = .ref a ∧ H2 a = some (.ins C dx fs) ∧ Cls K C ∧ NoAttr K C f ∧ fs.length < 1000 ∧
  D.nx σ (upd H2 a (.ins C dx (putF f y fs)))
section
variable {X : Cx} {o e value : Expr} {f : Str} {pos pos' tpos : Pos} {ta tv : TE}
theorem pe_fld (he : PE X e ta) (hb : attributeBase e f X.env (eval e X.env) = eval e X.env) : PE X (.Attribute e f pos) (tFld X.K ta f) := by
  intro pins s σ H Q I h
  refine attr_of hb (thn (he pins s σ H _ I h) fun u s1 ⟨x, H1, I1, rx, a, C, dx, fs, v, ex, ea, c, n, l, q⟩ => ?_)
  subst ex
  obtain rfl : u = Value.ref a := rx
  exact getattr_ok I1 ea c n l fun u' s2 I2 ru => ⟨v, H1, I2, ru, q⟩
theorem ps_fld (ha : PE X o ta) (hv : PE X value tv) (hs : swapsWith value (some (.Attribute o f pos')) pos.line X.env = pure false) : PS X (.Assign [.Attribute o f pos'] value pos) (sFld X.K ta tv f) := by
  intro pins s σ H D I h
  refine plainObj_wpAny_Assign_Attribute (thn (hv pins s σ H _ I h) fun u s1 ⟨y, H1, I1, ry, q⟩ => thn (ha pins s1 σ H1 _ I1 q) fun ov s2 ⟨x, H2, I2, rx, a, C, dx, fs, ex, ea, c, n, l, q2⟩ => ?_) hs
  subst ex
  obtain rfl : ov = Value.ref a := rx
  exact setattr_ok I2 ea c n l ry fun s3 I3 => ⟨σ, _, I3, q2⟩
end
section
variable {X : Cx} {pins : List (Addr × Obj)} {σ : St} {H : Hp} {s : Shared} {A : Around} {E : Value → Shared → Prop} {Q : Value → Shared → Prop} {c : Value} {b : Bool}
inductive TyOf (K : PySem.W.Frag) (H : Hp) : V → Value → Prop where
  | non : TyOf K H .non (.type "NoneType")
  | bl (x : Bool) : TyOf K H (.bl x) (.type "bool")
  | int (i : Int) : TyOf K H (.int i) (.type "int")
  | str (x : Str) : TyOf K H (.str x) (.type "str")
  | flt (x : UInt64) : TyOf K H (.flt x) (.type "float")
  | lst {a : Addr} {xs : List V} (e : H a = some (.lst xs)) : TyOf K H (.ref a) (.type "list")
  | frz {a : Addr} {o : Obj} {xs : List V} (e : H a = some (.frz o (.lst xs))) : TyOf K H (.ref a) (.type "list")
  | tup {a : Addr} {xs : List V} (e : H a = some (.tup xs)) : TyOf K H (.ref a) (.type "tuple")
  | dK {a : Addr} {kvs : List (Key × V)} (e : H a = some (.dK kvs)) : TyOf K H (.ref a) (.type "dict")
  | dT {a : Addr} {kvs : List (List Key × V)} (e : H a = some (.dT kvs)) : TyOf K H (.ref a) (.type "dict")
  | ins {a C dx : Addr} {fs : List (Str × V)} (e : H a = some (.ins C dx fs)) (cl : Cls K C) (ha : PySem.W.findIn K (.ref C) "__class__" = some (some (.builtin "object.__class__")))
      (hn : PySem.W.specialIn K (.builtin "object.__class__") "__get__" = some (some (.builtin "getset_descriptor.__get__"))) (htk : PySem.W.takesIn K (.builtin "object.__class__") = some true)
      (hm : PySem.W.mroIn K C (.type "object") = some true) : TyOf K H (.ref a) (.ref C)
end
end L2
namespace L2
open PySem PySem.Spec PyProof.Rows
structure Room (k : Nat) (A : Around) : Prop where
  hd : A.handled = none
  dp : A.depth + 3 * k + 5 < recursionLimit
  un : A.units + 16 * k + 200 < cLine
theorem Room.mono {j k : Nat} {A : Around} (r : Room k A) (h : j ≤ k) : Room j A := ⟨r.hd, by have := r.dp; omega, by have := r.un; omega⟩
theorem Room.deeper {k : Nat} {A : Around} (r : Room (k + 1) A) (env : Env) : Room k (A.deeper env) :=
  ⟨r.hd, by have := r.dp; show A.depth + 1 + 3 * k + 5 < _; omega, by have := r.un; show A.units + 3 + 16 * k + 200 < _; omega⟩
theorem Room.in1 {k : Nat} {A : Around} (r : Room (k + 1) A) : Room k A.in1 :=
  ⟨r.hd, by have := r.dp; show A.depth + 3 * k + 5 < _; omega, by have := r.un; show A.units + 1 + 16 * k + 200 < _; omega⟩
theorem make_depth {A : Around} {C : Addr} {us : List Value} {kw : List (Str × Value)} : (A.under (.builtin "type.__call__" ⟨.ref C :: us, kw⟩)).depth = A.depth + 1 := by
  first | rfl | simp [Around.under, Code.weight, Code.isCreation, Code.isGuard, Code.isCaller, Code.frames, Code.isFrame, guardIds]
theorem make_units {A : Around} {C : Addr} {us : List Value} {kw : List (Str × Value)} : (A.under (.builtin "type.__call__" ⟨.ref C :: us, kw⟩)).units = A.units + 1 := by
  first | rfl | simp [Around.under, Code.cUnits, Code.frames, Code.isFrame]
theorem Room.make {k : Nat} {A : Around} (r : Room (k + 1) A) (C : Addr) (us : List Value) (kw : List (Str × Value)) : Room k (A.under (.builtin "type.__call__" ⟨.ref C :: us, kw⟩)) :=
  ⟨r.hd, by have := r.dp; rw [make_depth]; omega, by have := r.un; rw [make_units]; omega⟩
theorem Room.depth {k : Nat} {A : Around} (r : Room k A) : A.depth < recursionLimit := by have := r.dp; omega
theorem Room.units {k : Nat} {A : Around} (r : Room k A) : A.units + 64 < cLine := by have := r.un; omega
def tNil : TA := fun _ H Q => Q [] H
def tCons (ta : TE) (tr : TA) : TA := fun σ H Q => ta σ H fun x H1 => tr σ H1 fun xs H2 => Q (x :: xs) H2
section
variable {X : Cx} {e : Expr} {es : List Expr} {te : TE} {t : TA} {pos : Pos}
theorem pa_nil : PA X [] tNil := fun _ _ _ _ H Q I h => Calls.spliced_nil ⟨[], H, I, .nil, h⟩
theorem pa_cons (ha : PE X e te) (hr : PA X es t) (hs : starEach (e :: es) X.env = (false, eval e X.env) :: starEach es X.env := by rfl) : PA X (e :: es) (tCons te t) := by
  intro pos pins s σ H Q I h
  rw [hs]
  show wpAny _ _ (spliced ((false, eval e X.env) :: backTo pos (starEach es X.env))) _ _ s
  refine Calls.spliced_cons (thn (ha pins s σ H _ I h) fun u s1 ⟨x, H1, I1, r1, q1⟩ => ?_)
  exact thn (hr pos pins s1 σ H1 _ I1 q1) fun us s2 ⟨xs, H2, I2, r2, q2⟩ => ⟨x :: xs, H2, I2, .cons r1 r2, q2⟩
def tTup (t : TA) : TE := fun σ H Q => t σ H fun xs H1 => xs.length ≤ sizeLine ∧ ∀ p, H1 p = none → Q (.ref p) (upd H1 p (.tup xs))
def tLst (t : TA) : TE := fun σ H Q => t σ H fun xs H1 => xs.length ≤ sizeLine ∧ ∀ p, H1 p = none → Q (.ref p) (upd H1 p (.lst xs))
theorem pe_tup {x1} (h : PA X es t) : PE X (.Tuple es x1 pos) (tTup t) := by
  intro pins s σ H Q I hq
  refine wpAny_Tuple_spliced (thn (h pos pins s σ H _ I hq) fun us s1 ⟨xs, H1, I1, r, z, q⟩ => ⟨by rw [← r.length]; exact z, ?_⟩)
  have hf : H1 s1.heap.objs.size = none := I1.hok.fresh (Nat.le_refl _)
  refine ⟨.ref s1.heap.objs.size, upd H1 s1.heap.objs.size (.tup xs), I1.laid (t' := s1.toks) (fun b u e => Heap.get?_push_of_some _ e) (Nat.le_refl _) ?_, rfl, q _ hf⟩
  exact ⟨z, us, r, ⟨_, Heap.get?_push_size _ rfl, rfl, _, rfl⟩⟩
theorem pe_lst (h : PA X es t) : PE X (.List es pos) (tLst t) := by
  intro pins s σ H Q I hq
  refine wpAny_List_spliced (thn (h pos pins s σ H _ I hq) fun us s1 ⟨xs, H1, I1, r, z, q⟩ => ⟨by rw [← r.length]; exact z, ?_⟩)
  have hf : H1 s1.heap.objs.size = none := I1.hok.fresh (Nat.le_refl _)
  refine ⟨.ref s1.heap.objs.size, upd H1 s1.heap.objs.size (.lst xs), I1.laid (t' := s1.toks) (fun b u e => Heap.get?_push_of_some _ e) (Nat.le_refl _) ?_, rfl, q _ hf⟩
  exact ⟨z, us, 0, r, Heap.get?_push_size _ rfl⟩
end
abbrev Sp := List V → Hp → VK → XK → Prop
abbrev CXT := List Env → Hp → Shared → XK → Value → Shared → Prop
structure Env0 (P : Program) (w : World) (K : PySem.W.Frag) (mg : Str → Option Value) (base : Heap) (A : Around) (outer : List Env) (s : Shared) (H : Hp) : Prop where
  frames : A.frames = some outer
  mod : Mod K mg base
  bs : ∀ b o, base.get? b = some o → s.heap.get? b = some o ∧ H b = none
  bsz : base.objs.size ≤ s.heap.objs.size
  funs : s.heap.FunFrames base outer
  frf : ∀ b ∈ frs outer, H b = none
  hok : HOk P w H s.heap
  bare : AllBare s.gens
  tok : lowT K ≤ s.toks
def CE (outer : List Env) (P : Program) (w : World) (H : Hp) (s : Shared) (Q : VK) (u : Value) (s' : Shared) : Prop :=
  ∃ v H', s'.os = s.os ∧ AllBare s'.gens ∧ Un (frs outer) [] H H' s.heap s'.heap ∧ HOk P w H' s'.heap ∧ s.toks ≤ s'.toks ∧ RelV v u ∧ Q v H'
def CR (CX : CXT) (outer : List Env) (P : Program) (w : World) (H : Hp) (s : Shared) (Q : VK) (E : XK) (r : Result) (s' : Shared) : Prop :=
  match r with
  | .ok (.ret u) => CE outer P w H s Q u s'
  | .ok _ => False
  | .error e => CX outer H s E e s'
structure FnOk (P : Program) (w : World) (K : PySem.W.Frag) (mg : Str → Option Value) (base : Heap) (CX : CXT) (k : Nat) (f : Addr) (fd : FuncData) (ps : List Str) (sp : Sp) : Prop where
  len : ∀ vs H Q E, sp vs H Q E → vs.length = ps.length
  run : ∀ (A : Around) (outer : List Env) (s : Shared) (H : Hp) (args : Args) (us : List Value) (vs : List V) (Q : VK) (E : XK), Room k A → Env0 P w K mg base A outer s H → BindsTo s fd args (ps.zip us) → Vals vs us → sp vs H Q E →
    codeAny (model P w) A (.call (.ref f) args) (CR CX outer P w H s Q E) s
theorem FnOk.mono {P : Program} {w : World} {K : PySem.W.Frag} {mg : Str → Option Value} {base : Heap} {CX : CXT} {j k : Nat} {f : Addr} {fd : FuncData} {ps : List Str} {sp : Sp} (F : FnOk P w K mg base CX j f fd ps sp) (h : j ≤ k) :
    FnOk P w K mg base CX k f fd ps sp := ⟨F.len, fun A outer s H args us vs Q E hr => F.run A outer s H args us vs Q E (hr.mono h)⟩
theorem FnOk.imp {P : Program} {w : World} {K : PySem.W.Frag} {mg : Str → Option Value} {base : Heap} {CX : CXT} {k : Nat} {f : Addr} {fd : FuncData} {ps : List Str} {sp sp' : Sp} (F : FnOk P w K mg base CX k f fd ps sp)
    (h : ∀ vs H Q E, sp' vs H Q E → sp vs H Q E) : FnOk P w K mg base CX k f fd ps sp' :=
  ⟨fun vs H Q E q => F.len vs H Q E (h _ _ _ _ q), fun A outer s H args us vs Q E hr he hb hv hs => F.run A outer s H args us vs Q E hr he hb hv (h _ _ _ _ hs)⟩
theorem Env0.make {P : Program} {w : World} {K : PySem.W.Frag} {mg : Str → Option Value} {base : Heap} {A : Around} {outer : List Env} {s : Shared} {H : Hp} (e : Env0 P w K mg base A outer s H) (C : Addr) (us : List Value) (kw : List (Str × Value)) :
    Env0 P w K mg base (A.under (.builtin "type.__call__" ⟨.ref C :: us, kw⟩)) outer s H := ⟨by first | exact e.frames | (simpa [Around.under, Code.envs, Code.isFrame, pushEnvs] using e.frames), e.mod, e.bs, e.bsz, e.funs, e.frf, e.hok, e.bare, e.tok⟩
theorem Env0.in1 {P : Program} {w : World} {K : PySem.W.Frag} {mg : Str → Option Value} {base : Heap} {A : Around} {outer : List Env} {s : Shared} {H : Hp} (e : Env0 P w K mg base A outer s H) :
    Env0 P w K mg base A.in1 outer s H := ⟨e.frames, e.mod, e.bs, e.bsz, e.funs, e.frf, e.hok, e.bare, e.tok⟩
section
variable {X : Cx} {pins : List (Addr × Obj)} {σ : St} {H : Hp} {s s' : Shared}
theorem Inv.env0 (I : Inv X pins σ H s) : Env0 X.prog X.w X.K X.mg X.base X.A X.stack s H :=
  ⟨I.ok.frames, I.ok.mod, I.bs, Nat.le_trans I.ok.bsz I.sz, I.stack, I.stkFree, I.hok, I.bare, Nat.le_trans I.ok.low I.tk⟩
theorem Inv.after {Q : VK} {u : Value} (I : Inv X pins σ H s) (h : CE X.stack X.prog X.w H s Q u s') : EP X pins σ Q u s' := by
  obtain ⟨v, H', os, bare, un, hok, ht, r, q⟩ := h
  obtain ⟨hh, g, d, t, os'⟩ := s'
  obtain rfl : os' = s.os := os
  exact ⟨v, H', I.call (h' := hh) (g' := g) (d' := d) (t' := t) (ch := []) un hok bare (fun b z => absurd z (by simp)), r, q⟩
end
def tCall (sp : Sp) (dvs : List V) (E : XK) (t : TA) : TE := fun σ H Q => t σ H fun vs H1 => sp (vs ++ dvs) H1 Q E
def tMeth (C : Addr) (m : Str) (sp : Sp) (dvs : List V) (E : XK) (ta : TE) (t : TA) : TE := fun σ H Q => ta σ H fun x H1 => ∃ a dx fs, x = .ref a ∧ H1 a = some (.ins C dx fs) ∧ fs.lookup m = none ∧
  t σ H1 fun vs H2 => sp (x :: (vs ++ dvs)) H2 Q E
def tMake (C : Addr) (sp : Sp) (dvs : List V) (E : XK) (t : TA) : TE := fun σ H Q => t σ H fun vs H1 => ∀ x dx, H1 x = none → H1 dx = none → dx ≠ x →
  sp (.ref x :: (vs ++ dvs)) (upd (upd H1 dx (.own x)) x (.ins C dx [])) (fun v H2 => v = .non ∧ Q (.ref x) H2) E
def Binds (K : PySem.W.Frag) (fd : FuncData) (ps : List Str) (ds : List Value) : Prop :=
  ∀ (s : Shared) (us : List Value), K.In s.heap → (us ++ ds).length = ps.length → BindsTo s fd ⟨us, []⟩ (ps.zip (us ++ ds))
theorem Binds.all {K : PySem.W.Frag} {fd : FuncData} {ps : List Str} (h : ∀ us : List Value, us.length = ps.length → bindArgs fd ⟨us, []⟩ = pure (ps.zip us)) : Binds K fd ps [] := fun s us _ hl => by
  rw [List.append_nil] at hl ⊢
  exact .of_eq (h us hl)
def Passes (CX : CXT) (X : Cx) (E : XK) : Prop := ∀ (pins : List (Addr × Obj)) (σ : St) (H : Hp) (s : Shared) (e : Value) (s' : Shared), Inv X pins σ H s → CX X.stack H s E e s' → X.xe e s'
section
variable {X : Cx} {CX : CXT} {k : Nat} {f C : Addr} {fd : FuncData} {ps : List Str} {sp : Sp} {dvs : List V} {ds : List Value} {E : XK} {x m : Str} {p pos apos : Pos} {e o : Expr} {es : List Expr} {ta : TE} {t : TA}
theorem run_fn {pins : List (Addr × Obj)} {σ : St} {H : Hp} {s : Shared} {Q : VK} {us : List Value} {vs : List V} (F : FnOk X.prog X.w X.K X.mg X.base CX k f fd ps sp) (hr : Room k X.A) (hb : Binds X.K fd ps ds) (hd : Vals dvs ds) (hx : Passes CX X E)
    (I : Inv X pins σ H s) (r : Vals vs us) (h : sp (vs ++ dvs) H Q E) : wpAny (model X.prog X.w) X.A (call (.ref f) us) (EP X pins σ Q) X.xe s := by
  have r2 : Vals (vs ++ dvs) (us ++ ds) := r.append hd
  have hl : (us ++ ds).length = ps.length := by rw [← r2.length]; exact F.len _ _ _ _ h
  refine wpAny_call (codeAny_mono (F.run X.A X.stack s H ⟨us, []⟩ (us ++ ds) (vs ++ dvs) Q E hr I.env0 (hb s us I.kIn hl) r2 h) fun r s' hq => ?_)
  cases r with
  | error e => exact hx pins σ H s e s' I hq
  | ok fl =>
    cases fl with
    | ret u => exact I.after hq
    | next => exact False.elim hq
    | brk => exact False.elim hq
    | cont => exact False.elim hq
theorem pe_call (F : FnOk X.prog X.w X.K X.mg X.base CX k f fd ps sp) (hr : Room k X.A) (hg : Gl X x) (hm : X.mg x = some (.ref f)) (hk : PySem.W.keepIn X.K (.ref f) = true) (hb : Binds X.K fd ps ds) (hd : Vals dvs ds) (hx : Passes CX X E)
    (ha : PA X (e :: es) t) (hdb : (x == ("__debug__" : Str)) = false := by decide) (he : starEach (e :: es) X.env = (false, eval e X.env) :: starEach es X.env := by rfl) (hpl : (backTo pos (starEach es X.env)).any (·.1) = false := by rfl) :
    PE X (.Call (.Name x p) (e :: es) [] pos) (tCall sp dvs E t) := by
  intro pins s σ H Q I h
  refine wpAny_Call_Name_kw (ld_glob I hg hm ?_ hdb)
  refine PySem.W.callWith_K (h₀ := X.base) I.ok.mod.kin hk (thn (ha pos pins s σ H _ I h) fun us s1 ⟨vs, H1, I1, r, q⟩ => ⟨I1.kIn, ?_⟩) he hpl
  exact run_fn F hr hb hd hx I1 r q
theorem pe_meth {pl : Sem Bool} (he : PE X o ta) (c : Cls X.K C) (hm : Meth X.K C m f) (F : FnOk X.prog X.w X.K X.mg X.base CX k f fd ps sp) (hr : Room k X.A) (hb : Binds X.K fd ps ds) (hd : Vals dvs ds) (hx : Passes CX X E) (ha : PA X (e :: es) t)
    (hst : starEach (e :: es) X.env = (false, eval e X.env) :: starEach es X.env := by rfl) (hpl : (backTo pos (starEach es X.env)).any (·.1) = false := by rfl)
    (ht : eval (.Call (.Attribute o m apos) (e :: es) [] pos) X.env = (do
      let ov ← eval o X.env
      standAt apos.atName
      let (f, first) ← holding [ov] (getMethod ov m pl)
      callWith pos f first (backTo pos (starEach (e :: es) X.env)) (backToKw pos (keywordEach [] X.env))) := by rfl) :
    PE X (.Call (.Attribute o m apos) (e :: es) [] pos) (tMeth C m sp dvs E ta t) := by
  intro pins s σ H Q I h
  refine PySem.W.methodCall_KW (pl := pl) (thn (he pins s σ H _ I h) fun u s1 ⟨x, H1, I1, rx, a, dx, fs, ex, ea, l, q⟩ => ?_) ht
  subst ex
  obtain rfl : u = Value.ref a := rx
  refine getmeth_ok I1 ea c hm l ?_
  refine PySem.W.callWith_K (first := [.ref a]) (h₀ := X.base) I.ok.mod.kin hm.kp (thn (ha pos pins s1 σ H1 _ I1 q) fun us s2 ⟨vs, H2, I2, r, q2⟩ => ⟨I2.kIn, ?_⟩) hst hpl
  exact run_fn (us := .ref a :: us) (vs := .ref a :: vs) F hr hb hd hx I2 (.cons rfl r) q2
theorem pe_meth0 {pl : Sem Bool} (he : PE X o ta) (c : Cls X.K C) (hm : Meth X.K C m f) (F : FnOk X.prog X.w X.K X.mg X.base CX k f fd ps sp) (hr : Room k X.A) (hb : Binds X.K fd ps ds) (hd : Vals dvs ds) (hx : Passes CX X E)
    (ht : eval (.Call (.Attribute o m apos) [] [] pos) X.env = (do
      let ov ← eval o X.env
      standAt apos.atName
      let (f, first) ← holding [ov] (getMethod ov m pl)
      callWith pos f first (backTo pos (starEach [] X.env)) (backToKw pos (keywordEach [] X.env))) := by rfl) :
    PE X (.Call (.Attribute o m apos) [] [] pos) (tMeth C m sp dvs E ta tNil) := by
  intro pins s σ H Q I h
  refine PySem.W.methodCall_KW (pl := pl) (thn (he pins s σ H _ I h) fun u s1 ⟨x, H1, I1, rx, a, dx, fs, ex, ea, l, q⟩ => ?_) ht
  subst ex
  obtain rfl : u = Value.ref a := rx
  refine getmeth_ok I1 ea c hm l ?_
  exact PySem.W.callWith_K0 (first := [.ref a]) I1.kIn hm.kp (run_fn (us := [.ref a]) (vs := [.ref a]) F hr hb hd hx I1 (.cons rfl .nil) q)
structure Mk (K : PySem.W.Frag) (C f : Addr) : Prop where
  makes : PySem.W.makesIn K C = true
  init : PySem.W.findIn K (.ref C) "__init__" = some (some (.ref f))
  fn : PySem.W.isFn K (.ref f) = true
  kp : PySem.W.keepIn K (.ref C) = true
theorem run_make {pins : List (Addr × Obj)} {σ : St} {H : Hp} {s : Shared} {Q : VK} {us : List Value} {vs : List V} (M : Mk X.K C f) (F : FnOk X.prog X.w X.K X.mg X.base CX k f fd ps sp) (hr : Room (k + 1) X.A) (hb : Binds X.K fd ps ds) (hd : Vals dvs ds)
    (hx : Passes CX X E) (I : Inv X pins σ H s) (r : Vals vs us)
    (h : ∀ x dx, H x = none → H dx = none → dx ≠ x → sp (.ref x :: (vs ++ dvs)) (upd (upd H dx (.own x)) x (.ins C dx [])) (fun v H2 => v = .non ∧ Q (.ref x) H2) E) :
    wpAny (model X.prog X.w) X.A (call (.ref C) us) (EP X pins σ Q) X.xe s := by
  have hq := h (s.heap.objs.size + 1) s.heap.objs.size (I.hok.fresh (Nat.le_succ _)) (I.hok.fresh (Nat.le_refl _)) (Nat.ne_of_lt (Nat.lt_succ_self _))
  have I2 := Inv.made (C := C) I
  have r2 : Vals (V.ref (s.heap.objs.size + 1) :: (vs ++ dvs)) (Value.ref (s.heap.objs.size + 1) :: (us ++ ds)) := .cons rfl (r.append hd)
  have hl : (Value.ref (s.heap.objs.size + 1) :: us ++ ds).length = ps.length := by
    have e := r2.length
    rw [F.len _ _ _ _ hq] at e
    exact e.symm
  refine wpAny_call (make_map (f := f) I.kIn M.makes M.init (beq_iff_eq.mp M.fn) (codeAny_mono (F.run _ X.stack _ _ ⟨Value.ref (s.heap.objs.size + 1) :: us, []⟩ (Value.ref (s.heap.objs.size + 1) :: (us ++ ds)) _ _ E (hr.make C us [])
    (I2.env0.make C us []) (hb _ (Value.ref (s.heap.objs.size + 1) :: us) I2.kIn hl) r2 hq) fun r s' hq' => ?_))
  cases r with
  | error e => exact hx pins σ _ _ e s' I2 hq'
  | ok fl =>
    cases fl with
    | ret u =>
      obtain ⟨v, H', I3, rv, ev, q3⟩ := I2.after hq'
      subst ev
      exact ⟨rv, ⟨V.ref (s.heap.objs.size + 1), H', I3, rfl, q3⟩⟩
    | next => exact False.elim hq'
    | brk => exact False.elim hq'
    | cont => exact False.elim hq'
theorem pe_make (M : Mk X.K C f) (F : FnOk X.prog X.w X.K X.mg X.base CX k f fd ps sp) (hr : Room (k + 1) X.A) (hg : Gl X x) (hm : X.mg x = some (.ref C)) (hb : Binds X.K fd ps ds) (hd : Vals dvs ds) (hx : Passes CX X E)
    (ha : PA X (e :: es) t) (hdb : (x == ("__debug__" : Str)) = false := by decide) (he : starEach (e :: es) X.env = (false, eval e X.env) :: starEach es X.env := by rfl) (hpl : (backTo pos (starEach es X.env)).any (·.1) = false := by rfl) :
    PE X (.Call (.Name x p) (e :: es) [] pos) (tMake C sp dvs E t) := by
  intro pins s σ H Q I h
  refine wpAny_Call_Name_kw (ld_glob I hg hm ?_ hdb)
  refine PySem.W.callWith_K (h₀ := X.base) I.ok.mod.kin M.kp (thn (ha pos pins s σ H _ I h) fun us s1 ⟨vs, H1, I1, r, q⟩ => ⟨I1.kIn, ?_⟩) he hpl
  exact run_make M F hr hb hd hx I1 r q
end
section
variable {X : Cx} {CX : CXT} {k : Nat} {f C : Addr} {fd : FuncData} {ps ks : List Str} {sp : Sp} {E : XK} {x m : Str} {p pos apos kpos : Pos} {e o : Expr} {es : List Expr} {kws : List Keyword} {te ta : TE} {t tk : TA} {nm : Option Str}
structure KBinds (K : PySem.W.Frag) (fd : FuncData) (ps ks : List Str) (g : List Value → List Value → List Value) (gV : List V → List V → List V) : Prop where
  to : ∀ (s : Shared) (us ws : List Value), K.In s.heap → (g us ws).length = ps.length → BindsTo s fd ⟨us, ks.zip ws⟩ (ps.zip (g us ws))
  rel : ∀ {vs : List V} {us : List Value} {zs : List V} {ws : List Value}, Vals vs us → Vals zs ws → Vals (gV vs zs) (g us ws)
variable {g : List Value → List Value → List Value} {gV : List V → List V → List V}
end
structure FnScope (N P : List Str) (sc : Scope) : Prop where
  kind : sc.kind = .function
  co : sc.isCoroutine = false
  gen : sc.isGenerator = false
  nd : N.Nodup
  pre : N.take P.length = P
  par : ∀ x ∈ P, sc.names.lookup x = some .local ∨ sc.names.lookup x = some .cell
  nofree : ∀ y ∈ sc.names, y.2 ≠ .free
theorem bindL_out {kindOf : Str → Option NameKind} {x : Str} : ∀ {binds : List (Str × Value)} {m : Str → Option Value}, (∀ v, (x, v) ∉ binds) → bindL kindOf binds m x = m x
  | [], _, _ => rfl
  | (n, v) :: r, m, h => by
    unfold bindL
    rw [bindL_out fun w hw => h w (List.mem_cons_of_mem _ hw)]
    split
    · have : x ≠ n := by rintro rfl; exact h v List.mem_cons_self
      simp [this]
    · rfl
theorem bindC_out {kindOf : Str → Option NameKind} {x : Str} : ∀ {binds : List (Str × Value)} {m : Str → Option Value}, (∀ v, (x, v) ∉ binds) → bindC kindOf binds m x = m x
  | [], _, _ => rfl
  | (n, v) :: r, m, h => by
    unfold bindC
    rw [bindC_out fun w hw => h w (List.mem_cons_of_mem _ hw)]
    split
    · rfl
    · have : x ≠ n := by rintro rfl; exact h v List.mem_cons_self
      simp [this]
theorem bindL_get {kindOf : Str → Option NameKind} {x : Str} {v : Value} : ∀ {P : List Str} {vs : List Value} {i : Nat} {m : Str → Option Value}, P.Nodup → P[i]? = some x → vs[i]? = some v → kindOf x = some .local →
    bindL kindOf (P.zip vs) m x = some v
  | [], _, _, _, _, h, _, _ => by simp at h
  | _ :: _, [], _, _, _, _, h, _ => by simp at h
  | p :: P, w :: vs, 0, m, nd, h1, h2, hk => by
    simp at h1 h2; subst h1; subst h2
    show bindL kindOf ((p, w) :: P.zip vs) m p = _
    unfold bindL
    rw [bindL_out fun v hv => (List.nodup_cons.mp nd).1 (List.of_mem_zip hv).1, if_pos hk]
    simp
  | p :: P, w :: vs, i + 1, m, nd, h1, h2, hk => by
    show bindL kindOf ((p, w) :: P.zip vs) m x = _
    unfold bindL
    exact bindL_get (i := i) (List.nodup_cons.mp nd).2 (by simpa using h1) (by simpa using h2) hk
theorem bindC_get {kindOf : Str → Option NameKind} {x : Str} {v : Value} : ∀ {P : List Str} {vs : List Value} {i : Nat} {m : Str → Option Value}, P.Nodup → P[i]? = some x → vs[i]? = some v → kindOf x ≠ some .local →
    bindC kindOf (P.zip vs) m x = some v
  | [], _, _, _, _, h, _, _ => by simp at h
  | _ :: _, [], _, _, _, _, h, _ => by simp at h
  | p :: P, w :: vs, 0, m, nd, h1, h2, hk => by
    simp at h1 h2; subst h1; subst h2
    show bindC kindOf ((p, w) :: P.zip vs) m p = _
    unfold bindC
    rw [bindC_out fun v hv => (List.nodup_cons.mp nd).1 (List.of_mem_zip hv).1, if_neg hk]
    simp
  | p :: P, w :: vs, i + 1, m, nd, h1, h2, hk => by
    show bindC kindOf ((p, w) :: P.zip vs) m x = _
    unfold bindC
    exact bindC_get (i := i) (List.nodup_cons.mp nd).2 (by simpa using h1) (by simpa using h2) hk
def start (N : List Str) (vs : List V) : St := vs.map some ++ List.replicate (N.length - vs.length) none
def cxOf (CX : CXT) (P : Program) (w : World) (K : PySem.W.Frag) (mg : Str → Option Value) (base : Heap) (N : List Str) (qual : Str) (scope : Scope) (f : Addr) (cd : Value) (A : Around) (outer : List Env) (s : Shared) (H : Hp) (E : XK) : Cx where
  prog := P
  w := w
  K := K
  mg := mg
  base := base
  A := A.deeper (envOfC qual scope s.heap.objs.size f cd)
  N := N
  s₀ := s
  H₀ := H
  env := envOfC qual scope s.heap.objs.size f cd
  outer := outer
  stack := envOfC qual scope s.heap.objs.size f cd :: outer
  ex := []
  calm := true
  fn := fun _ => true
  pn := []
  xe := fun e s' => wpAny (model P w) (A.deeper (envOfC qual scope s.heap.objs.size f cd)) (leaving (envOfC qual scope s.heap.objs.size f cd) e) (fun _ s'' => CX outer H s E e s'') (fun e' s'' => CX outer H s E e' s'') s'
theorem cell_has {sc : Scope} {n : Nat} {x : Str} (h : sc.names.lookup x = some .cell) : ∃ c, (cellsFrom n sc.names []).lookup x = some c := by
  have q := PySem.W.cellsFrom_some sc.names n [] (.inl h)
  exact Option.isSome_iff_exists.mp q
theorem inv_start {CX : CXT} {P : Program} {w : World} {K : PySem.W.Frag} {mg : Str → Option Value} {base : Heap} {N ps : List Str} {qual : Str} {scope : Scope} {f : Addr} {cd : Value} {A : Around} {outer : List Env} {s s1 : Shared} {H : Hp} {E : XK} {us : List Value} {vs : List V}
    (S : FnScope N ps scope) (hd : A.handled = none) (e0 : Env0 P w K mg base A outer s H) (hl : vs.length = ps.length) (r : Vals vs us)
    (x : InCallC s s.heap.objs.size (bindL (envOfC qual scope s.heap.objs.size f cd).kindOf (ps.zip us) fun _ => none) (cellsFrom (s.heap.objs.size + 1) scope.names []) (bindC (envOfC qual scope s.heap.objs.size f cd).kindOf (ps.zip us) fun _ => none) s1) (ht : s.toks ≤ s1.toks) :
    Inv (cxOf CX P w K mg base N qual scope f cd A outer s H E) [] (start N vs) H s1 := by
  have hpl : ps.length ≤ N.length := by have := congrArg List.length S.pre; rw [List.length_take] at this; omega
  obtain ⟨h1, tk, rfl, hk⟩ := x.done
  have noA : ∀ b : Addr, b ∉ (cxOf CX P w K mg base N qual scope f cd A outer s H E).ex := fun b z => absurd (show b ∈ ([] : List Addr) from z) (by simp)
  refine ⟨⟨e0.mod, S.kind, rfl, rfl, Nat.le_refl _, fun y z c h1 h2 => ?_, fun y hy => ?_, fun y c _ h => ?_, fun _ => hd, Around.frames_deeper e0.frames, .inr ⟨rfl, rfl⟩, fun b z => absurd z (noA b), e0.bs, e0.bsz, fun b _ _ => noA b, fun b z => absurd z (noA b), e0.funs, e0.frf, e0.tok⟩,
    rfl, e0.bare, Un.kept hk, ⟨_, x.toInCall.ns, fun i y v h1 h2 h3 => ?_⟩, fun y c h => ⟨_, x.cell y c h⟩, e0.hok.fresh (Nat.le_refl _), fun y c h => ?_, fun p hp => absurd (show p ∈ ([] : List (Addr × Obj)) from hp) (by simp), e0.hok.kept hk, ?_, ht⟩
  · exact name_of_addr x.apart (PySem.mem_of_lookup h1) (PySem.mem_of_lookup h2)
  · have hy : scope.names.lookup y = some .cell ∨ scope.names.lookup y = some .free := hy
    rcases hy with hy | hy
    · exact cell_has hy
    · exact absurd rfl (S.nofree _ (PySem.mem_of_lookup hy))
  · exact Nat.le_of_lt (x.above y c (PySem.mem_of_lookup h))
  · have hi : i < vs.length := by
      unfold start at h2
      by_cases hi : i < vs.length
      · exact hi
      · rw [List.getElem?_append_right (by simpa using hi)] at h2
        rw [List.getElem?_replicate] at h2
        split at h2 <;> cases h2
    have ha : vs[i]? = some v := by
      unfold start at h2
      rw [List.getElem?_append_left (by simpa using hi), List.getElem?_map] at h2
      cases e : vs[i]? with
      | none => rw [e] at h2; cases h2
      | some a => rw [e] at h2; cases h2; rfl
    obtain ⟨u, hu, rv⟩ := r.get ha
    have hp : ps[i]? = some y := by
      rw [← S.pre, List.getElem?_take_of_lt (by omega)]; exact h1
    have ndP : ps.Nodup := by rw [← S.pre]; exact S.nd.sublist (List.take_sublist _ _)
    refine ⟨u, rv, ?_⟩
    rcases S.par y (List.mem_of_getElem? hp) with k | k
    · exact .inl ⟨k, bindL_get ndP hp hu k⟩
    · obtain ⟨c, e⟩ := cell_has (n := s.heap.objs.size + 1) k
      refine .inr ⟨.inl k, c, e, ?_⟩
      have q := x.cell y c e
      rw [bindC_get ndP hp hu (by show scope.names.lookup y ≠ _; rw [k]; decide)] at q
      exact q
  · exact e0.hok.fresh (Nat.le_of_lt (x.above y c (PySem.mem_of_lookup h)))
  · unfold start
    show _ = N.length
    rw [List.length_append, List.length_map, List.length_replicate]
    omega
theorem fn_of {CX : CXT} {P : Program} {w : World} {K : PySem.W.Frag} {mg : Str → Option Value} {base : Heap} {k : Nat} {f : Addr} {name qual : Str} {params : Arguments} {body : List Stmt} {scope : Scope} {dV kV doc pm cdv ct oc : Value} {an od : Option Addr}
    {osl : Array (Option Value)} {N ps : List Str} {sp : Sp} (lk : K.lookup f = some ⟨oc, od, .func (PySem.W.fnOf name qual params body scope dV kV doc pm an cdv ct), osl⟩) (hcd : PySem.W.codeIn K cdv qual = true) (S : FnScope N ps scope)
    (len : ∀ vs H Q E, sp vs H Q E → vs.length = ps.length)
    (hbody : ∀ (A : Around) (outer : List Env) (s : Shared) (H : Hp) (vs : List V) (Q : VK) (E : XK), Room k (A.deeper (envOfC qual scope s.heap.objs.size f cdv)) → sp vs H Q E →
      ∃ t, PSs (cxOf CX P w K mg base N qual scope f cdv A outer s H E) body t ∧ t { nx := fun _ H' => Q .non H', rt := Q } (start N vs) H) :
    FnOk P w K mg base CX (k + 1) f (PySem.W.fnOf name qual params body scope dV kV doc pm an cdv ct) ps sp := by
  refine ⟨len, fun A outer s H args us vs Q E hr e0 hb r hsp => ?_⟩
  have hl := len _ _ _ _ hsp
  have KX : K.In s.heap := e0.mod.kin.keeps fun b o e => (e0.bs b o e).1
  have lim : s.heap.NoLimit := e0.mod.nolimit.keeps fun b o e => (e0.bs b o e).1
  have hkind : ∀ y ∈ ps.zip us, scope.names.lookup y.1 = some .local ∨ (scope.names.lookup y.1 = some .cell ∧ ((cellsFrom (s.heap.objs.size + 1) scope.names []).lookup y.1).isSome = true) := fun ⟨n, v⟩ hy => by
    rcases S.par n (List.of_mem_zip hy).1 with q | q
    · exact .inl q
    · exact .inr ⟨q, PySem.W.cellsFrom_some _ _ _ (.inl q)⟩
  refine codeAny_call_function hr.depth (KX _ _ lk) rfl S.co S.gen rfl (PySem.W.codeRec_of KX hcd) (hb _ _ _ _ ?_)
  refine with_toks (wpAny_newFunctionEnv_cells S.kind hkind fun env he s1 x ht1 => ?_)
  subst he
  refine ⟨lim.keeps x.toInCall.keep, codeAny_func ?_⟩
  obtain ⟨t, ht, hq⟩ := hbody A outer s H vs Q E (hr.deeper _) hsp
  have I : Inv (cxOf CX P w K mg base N qual scope f cdv A outer s H E) [] (start N vs) H s1 := inv_start S hr.hd e0 hl r x ht1
  refine wpAny_mono (ht [] s1 (start N vs) H _ I hq) (fun fl s' hs => ?_) fun e s' hs => hs
  have fin : ∀ {σ' : St} {H' : Hp} {v : V} {u : Value}, Inv (cxOf CX P w K mg base N qual scope f cdv A outer s H E) [] σ' H' s' → RelV v u → Q v H' → CE outer P w H s Q u s' :=
    fun {σ' H' v u} J rv q => ⟨v, H', J.os, J.bare, J.base, J.hok, J.tk, rv, q⟩
  cases fl with
  | ret u =>
    obtain ⟨v, σ', H', J, rv, q⟩ := hs
    exact fin J rv q
  | next =>
    obtain ⟨σ', H', J, q⟩ := hs
    exact fin (v := V.non) (u := Value.none) J rfl q
  | brk =>
    obtain ⟨_, _, _, q⟩ := hs
    exact False.elim q
  | cont =>
    obtain ⟨_, _, _, q⟩ := hs
    exact False.elim q
end L2
namespace L2
open PySem PySem.Spec PyProof.Rows
section
variable {X : Cx} {x : Str} {p pos : Pos} {e : Expr} {es : List Expr} {t : TA} {id T : String} {r : List V → Hp → VK → Prop}
def tCB (r : List V → Hp → VK → Prop) (t : TA) : TE := fun σ H Q => t σ H fun vs H1 => r vs H1 Q
theorem pe_callB (hc : CallR X (.builtin id) r) (hg : Gl X x) (hm : X.mg x = none) (hv : bootBuiltins x = some (.builtin id)) (ha : PA X (e :: es) t) (hn : x ≠ "__name__" := by decide) (hdb : (x == ("__debug__" : Str)) = false := by decide)
    (he : starEach (e :: es) X.env = (false, eval e X.env) :: starEach es X.env := by rfl) (hpl : (backTo pos (starEach es X.env)).any (·.1) = false := by rfl) : PE X (.Call (.Name x p) (e :: es) [] pos) (tCB r t) := by
  intro pins s σ H Q I h
  refine wpAny_Call_Name_kw (ld_blt I hg hm hv ?_ hn hdb)
  exact PyProof.Rows.callWith_builtin1 (thn (ha pos pins s σ H _ I h) fun us s1 ⟨vs, H1, I1, r1, q1⟩ => hc pins s1 σ H1 vs us Q I1 r1 q1) he hpl
theorem pe_callTy (hc : CallR X (.type T) r) (hg : Gl X x) (hm : X.mg x = none) (hv : bootBuiltins x = some (.type T)) (ha : PA X (e :: es) t) (hn : x ≠ "__name__" := by decide) (hdb : (x == ("__debug__" : Str)) = false := by decide)
    (he : starEach (e :: es) X.env = (false, eval e X.env) :: starEach es X.env := by rfl) (hpl : (backTo pos (starEach es X.env)).any (·.1) = false := by rfl) : PE X (.Call (.Name x p) (e :: es) [] pos) (tCB r t) := by
  intro pins s σ H Q I h
  refine wpAny_Call_Name_kw (ld_blt I hg hm hv ?_ hn hdb)
  exact PyProof.Rows.callWith_type1 (thn (ha pos pins s σ H _ I h) fun us s1 ⟨vs, H1, I1, r1, q1⟩ => hc pins s1 σ H1 vs us Q I1 r1 q1) he hpl
end
end L2
namespace L2
open PySem PySem.Spec PyProof.Rows
section
variable {κ : Type} [DecidableEq κ]
def valV (kvs : List (κ × V)) (k : κ) : Option V := (kvs.find? fun kv => decide (kv.1 = k)).map (·.2)
def putK (kvs : List (κ × V)) (k : κ) (v : V) : List (κ × V) :=
  if (kvs.any fun kv => decide (kv.1 = k)) = true then kvs.map (fun kv => if kv.1 = k then (kv.1, v) else kv) else kvs ++ [(k, v)]
def dropK (kvs : List (κ × V)) (k : κ) : List (κ × V) := kvs.filter fun kv => decide (kv.1 ≠ k)
theorem valV_pos {p : κ × V} {r : List (κ × V)} {k : κ} (e : p.1 = k) : valV (p :: r) k = some p.2 := by simp [valV, List.find?_cons, e]
theorem valV_neg {p : κ × V} {r : List (κ × V)} {k : κ} (e : ¬ p.1 = k) : valV (p :: r) k = valV r k := by simp [valV, List.find?_cons, e]
theorem valV_any (k : κ) : ∀ kvs : List (κ × V), (kvs.any fun kv => decide (kv.1 = k)) = (valV kvs k).isSome
  | [] => rfl
  | p :: r => by
    rw [List.any_cons]
    by_cases e : p.1 = k
    · simp only [valV_pos e, decide_eq_true e, Bool.true_or, Option.isSome_some]
    · rw [valV_neg e, decide_eq_false e, Bool.false_or]; exact valV_any k r
theorem valV_map (k j : κ) (y : V) : ∀ kvs : List (κ × V), valV (kvs.map fun kv => if kv.1 = k then (kv.1, y) else kv) j = (valV kvs j).map fun x => if j = k then y else x
  | [] => rfl
  | p :: r => by
    have ih := valV_map k j y r
    rw [List.map_cons]
    by_cases h : p.1 = k
    · rw [if_pos h]
      by_cases e : p.1 = j
      · rw [valV_pos (p := (p.1, y)) e, valV_pos e, Option.map_some, if_pos (e.symm.trans h)]
      · rw [valV_neg (p := (p.1, y)) e, valV_neg e, ih]
    · rw [if_neg h]
      by_cases e : p.1 = j
      · rw [valV_pos (p := p) e, valV_pos e, Option.map_some, if_neg (fun z => h (e.trans z))]
      · rw [valV_neg (p := p) e, valV_neg e, ih]
theorem valV_snoc (k j : κ) (y : V) : ∀ kvs : List (κ × V), valV kvs k = none → valV (kvs ++ [(k, y)]) j = if j = k then some y else valV kvs j
  | [], _ => by
    by_cases e : k = j
    · rw [if_pos e.symm]; exact valV_pos (p := (k, y)) e
    · rw [if_neg (fun z => e z.symm)]; exact valV_neg (p := (k, y)) e
  | p :: r, hn => by
    rw [List.cons_append]
    have hk : ¬ p.1 = k := fun z => by rw [valV_pos z] at hn; cases hn
    rw [valV_neg hk] at hn
    have ih := valV_snoc k j y r hn
    by_cases e : p.1 = j
    · rw [valV_pos e, valV_pos e, if_neg (fun z => hk (e.trans z))]
    · rw [valV_neg e, valV_neg e, ih]
theorem valV_put (kvs : List (κ × V)) (k j : κ) (y : V) : valV (putK kvs k y) j = if j = k then some y else valV kvs j := by
  unfold putK
  by_cases a : (kvs.any fun kv => decide (kv.1 = k)) = true
  · rw [if_pos a, valV_map]
    rw [valV_any] at a
    by_cases e : j = k
    · obtain ⟨x, hx⟩ := Option.isSome_iff_exists.mp a
      rw [if_pos e, e, hx, Option.map_some, if_pos rfl]
    · rw [if_neg e]
      cases valV kvs j with
      | none => rfl
      | some x => rw [Option.map_some, if_neg e]
  · rw [if_neg a]
    refine valV_snoc k j y kvs ?_
    rw [valV_any] at a
    cases q : valV kvs k with
    | none => rfl
    | some x => rw [q] at a; exact (a rfl).elim
theorem length_putK (kvs : List (κ × V)) (k : κ) (v : V) : (putK kvs k v).length ≤ kvs.length + 1 := by
  unfold putK
  split
  · rw [List.length_map]; omega
  · rw [List.length_append, List.length_cons, List.length_nil]; omega
theorem putK_new {kvs : List (κ × V)} {k : κ} (v : V) (h : valV kvs k = none) : putK kvs k v = kvs ++ [(k, v)] := by
  unfold putK
  rw [valV_any, h]
  exact if_neg (by decide)
theorem RelO.isSome_eq {o : Option V} {u : Option Value} (r : RelO o u) : o.isSome = u.isSome := by
  cases o with
  | none => cases u with
    | none => rfl
    | some _ => exact (show False from r).elim
  | some _ => cases u with
    | none => exact (show False from r).elim
    | some _ => rfl
theorem RelO.getD {o : Option V} {u : Option Value} {d : V} {d' : Value} (r : RelO o u) (rd : RelV d d') : RelV (o.getD d) (u.getD d') := by
  cases o with
  | none => cases u with
    | none => exact rd
    | some _ => exact (show False from r).elim
  | some _ => cases u with
    | none => exact (show False from r).elim
    | some _ => exact r
theorem KV.val {kvs : List (κ × V)} {vs : List (κ × Value)} (r : KV kvs vs) (k : κ) : RelO (valV kvs k) (valueAt vs k) := by
  unfold KV at r
  induction r with
  | nil => exact True.intro
  | @cons p q ps qs h t ih =>
    obtain ⟨h1, h2⟩ := h
    by_cases e : p.1 = k
    · have e' : q.1 = k := h1.symm.trans e
      have b : valueAt (q :: qs) k = some q.2 := by simp [valueAt, List.find?_cons, e']
      rw [valV_pos e, b]; exact h2
    · have e' : ¬ q.1 = k := fun z => e (h1.trans z)
      have b : valueAt (q :: qs) k = valueAt qs k := by simp [valueAt, List.find?_cons, e']
      rw [valV_neg e, b]; exact ih
theorem KV.any {kvs : List (κ × V)} {vs : List (κ × Value)} (r : KV kvs vs) (k : κ) : (kvs.any fun kv => decide (kv.1 = k)) = vs.any fun kv => decide (kv.1 = k) := by
  unfold KV at r
  induction r with
  | nil => rfl
  | cons h t ih => rw [List.any_cons, List.any_cons, ih, h.1]
theorem KV.repl {kvs : List (κ × V)} {vs : List (κ × Value)} (r : KV kvs vs) (k : κ) {y : V} {u : Value} (ry : RelV y u) :
    KV (kvs.map fun kv => if kv.1 = k then (kv.1, y) else kv) (vs.map fun kv => if kv.1 = k then (kv.1, u) else kv) := by
  unfold KV at r ⊢
  induction r with
  | nil => exact .nil
  | @cons p q ps qs h t ih =>
    rw [List.map_cons, List.map_cons]
    refine .cons ?_ ih
    obtain ⟨h1, h2⟩ := h
    by_cases e : p.1 = k
    · rw [if_pos e, if_pos (h1.symm.trans e)]; exact ⟨h1, ry⟩
    · rw [if_neg e, if_neg (fun z => e (h1.trans z))]; exact ⟨h1, h2⟩
theorem KV.put {kvs : List (κ × V)} {vs : List (κ × Value)} (r : KV kvs vs) (k : κ) {y : V} {u : Value} (ry : RelV y u) : KV (putK kvs k y) (stored vs k u) := by
  unfold putK stored
  rw [r.any k]
  by_cases e : (vs.any fun kv => decide (kv.1 = k)) = true
  · rw [if_pos e, if_pos e]; exact r.repl k ry
  · rw [if_neg e, if_neg e]; exact Paired.snoc r ⟨rfl, ry⟩
theorem KV.drop {kvs : List (κ × V)} {vs : List (κ × Value)} (r : KV kvs vs) (k : κ) : KV (dropK kvs k) (without vs k) := by
  unfold KV at r ⊢
  unfold dropK without
  induction r with
  | nil => exact .nil
  | @cons p q ps qs h t ih =>
    obtain ⟨h1, h2⟩ := h
    rw [List.filter_cons, List.filter_cons]
    by_cases e : p.1 = k
    · have a : ¬ decide (p.1 ≠ k) = true := by simp [e]
      have b : ¬ decide (q.1 ≠ k) = true := by simp [h1.symm.trans e]
      rw [if_neg a, if_neg b]; exact ih
    · have e' : ¬ q.1 = k := fun z => e (h1.trans z)
      have a : decide (p.1 ≠ k) = true := by simp [e]
      have b : decide (q.1 ≠ k) = true := by simp [e']
      rw [if_pos a, if_pos b]; exact .cons ⟨h1, h2⟩ ih
theorem KV.keys {kvs : List (κ × V)} {vs : List (κ × Value)} (r : KV kvs vs) : kvs.map (·.1) = vs.map (·.1) := by
  unfold KV at r
  induction r with
  | nil => rfl
  | cons h t ih => rw [List.map_cons, List.map_cons, ih, h.1]
theorem KV.length {kvs : List (κ × V)} {vs : List (κ × Value)} (r : KV kvs vs) : kvs.length = vs.length := Paired.length r
end
theorem kV_is {P : Program} {w : World} {k : Key} {u : Value} (r : RelV (kV k) u) : (mixKind P w).is k u = true := by
  cases k with
  | inl i => obtain ⟨t, e⟩ := (show ∃ t, u = Value.int i t from r); subst e; exact mixKind_int P w i t
  | inr x => obtain ⟨t, e⟩ := (show ∃ t, u = Value.str x t from r); subst e; exact mixKind_str P w x t
theorem items_are {P : Program} {w : World} : ∀ {ks : List Key} {us : List Value}, Vals (ks.map kV) us → ItemsAre (mixKind P w) ks us
  | [], _, r => by rw [List.map_nil] at r; cases r; exact .nil
  | k :: ks, _, r => by
    rw [List.map_cons] at r
    cases r with
    | cons h t => exact .cons (kV_is h) (items_are t)
abbrev KT (H : Hp) : List (List Key × V) → List (List Key × Addr × Value) → Prop := Paired fun p q => p.1 = q.1 ∧ H q.2.1 = some (.tup (p.1.map kV)) ∧ RelV p.2 q.2.2
theorem KT.val {H : Hp} {kvs : List (List Key × V)} {xs : List (List Key × Addr × Value)} (r : KT H kvs xs) (k : List Key) : RelO (valV kvs k) ((atKey xs k).map (·.2)) := by
  induction r with
  | nil => exact True.intro
  | @cons p q ps qs h t ih =>
    obtain ⟨h1, _, h2⟩ := h
    by_cases e : p.1 = k
    · have e' : q.1 = k := h1.symm.trans e
      have b : atKey (q :: qs) k = some q.2 := by simp [atKey, List.find?_cons, e']
      rw [valV_pos e, b]; exact h2
    · have e' : ¬ q.1 = k := fun z => e (h1.trans z)
      have b : atKey (q :: qs) k = atKey qs k := by simp [atKey, List.find?_cons, e']
      rw [valV_neg e, b]; exact ih
theorem KT.repl {H : Hp} {kvs : List (List Key × V)} {xs : List (List Key × Addr × Value)} (r : KT H kvs xs) (k : List Key) {y : V} {u : Value} (ry : RelV y u) :
    KT H (kvs.map fun kv => if kv.1 = k then (kv.1, y) else kv) (xs.map (putAt k u)) := by
  induction r with
  | nil => exact .nil
  | @cons p q ps qs h t ih =>
    rw [List.map_cons, List.map_cons]
    refine .cons ?_ ih
    obtain ⟨h1, h2, h3⟩ := h
    unfold putAt
    by_cases e : p.1 = k
    · rw [if_pos e, if_pos (h1.symm.trans e)]; exact ⟨h1, h2, ry⟩
    · rw [if_neg e, if_neg (fun z => e (h1.trans z))]; exact ⟨h1, h2, h3⟩
theorem KT.put {H : Hp} {kvs : List (List Key × V)} {xs : List (List Key × Addr × Value)} (r : KT H kvs xs) (k : List Key) {b : Addr} {y : V} {u : Value} (hb : H b = some (.tup (k.map kV))) (ry : RelV y u) :
    KT H (putK kvs k y) (storedH xs k b u) := by
  have e : (kvs.any fun kv => decide (kv.1 = k)) = (atKey xs k).isSome := by
    rw [valV_any, (r.val k).isSome_eq, Option.isSome_map]
  unfold putK storedH
  rw [e]
  by_cases q : (atKey xs k).isSome = true
  · rw [if_pos q, if_pos q]; exact r.repl k ry
  · rw [if_neg q, if_neg q]; exact Paired.snoc r ⟨rfl, hb, ry⟩
theorem KT.keeps {H H' : Hp} {kvs : List (List Key × V)} {xs : List (List Key × Addr × Value)} (r : KT H kvs xs) (ht : ∀ b ys, H b = some (.tup ys) → H' b = some (.tup ys)) : KT H' kvs xs :=
  Paired.mapP r fun _ _ z => ⟨z.1, ht _ _ z.2.1, z.2.2⟩
section
variable {P : Program} {w : World} {H : Hp} {h : Heap} {a : Addr}
theorem rd_of {u : HO} (ok : HOk P w H h) (e : Rd H a u) : ObjOk P w H h a u := e.ok ok
theorem dk_rd {kvs : List (Key × V)} (ok : HOk P w H h) (e : Rd H a (.dK kvs)) : kvs.length ≤ sizeLine ∧ (a == sysModules) = false ∧ ∃ vs, KV kvs vs ∧ h.DictOf (mixKind P w) a vs :=
  show ObjOk P w H h a (.dK kvs) from rd_of ok e
theorem dk_of {kvs : List (Key × V)} (ok : HOk P w H h) (e : H a = some (.dK kvs)) : kvs.length ≤ sizeLine ∧ (a == sysModules) = false ∧ ∃ vs, KV kvs vs ∧ h.DictOf (mixKind P w) a vs := dk_rd ok (.inl e)
theorem key_of {ks : List Key} (ok : HOk P w H h) (e : H a = some (.tup (ks.map kV))) : (tupleKind (mixKind P w)).is h ks a := by
  obtain ⟨_, its, r, o, h1, h2, n, h3⟩ := (show ObjOk P w H h a (.tup (ks.map kV)) from ok a _ e)
  exact ⟨o, its.toArray, n, h1, h2, h3, by simpa using items_are r⟩
theorem dt_rd {kvs : List (List Key × V)} (ok : HOk P w H h) (e : Rd H a (.dT kvs)) : kvs.length ≤ sizeLine ∧ (a == sysModules) = false ∧
    ∃ xs, KT H kvs xs ∧ h.DictOfH (tupleKind (mixKind P w)) a xs := by
  obtain ⟨z, y, xs, r, o, es, ep, h1, h2, h3, h4, h5⟩ := (show ObjOk P w H h a (.dT kvs) from rd_of ok e)
  refine ⟨z, y, xs, r, o, es, ep, h1, h2, h3, h4, fun x hx => ?_, h5⟩
  have all : ∀ {l : List (List Key × V)} {m : List (List Key × Addr × Value)}, KT H l m → ∀ x ∈ m, (tupleKind (mixKind P w)).is h x.1 x.2.1 := by
    intro l m q
    induction q with
    | nil => intro x hx; exact nomatch hx
    | @cons p q ps qs hq t ih =>
      intro x hx
      rcases List.mem_cons.mp hx with e | hx
      · subst e
        exact key_of ok (by rw [← hq.1]; exact hq.2.1)
      · exact ih x hx
  exact all r x hx
theorem dt_of {kvs : List (List Key × V)} (ok : HOk P w H h) (e : H a = some (.dT kvs)) : kvs.length ≤ sizeLine ∧ (a == sysModules) = false ∧
    ∃ xs, KT H kvs xs ∧ h.DictOfH (tupleKind (mixKind P w)) a xs := dt_rd ok (.inl e)
end
def DGet (H : Hp) (a : Addr) (y : V) (r : Option V) : Prop :=
  (∃ kvs k, Rd H a (.dK kvs) ∧ y = kV k ∧ r = valV kvs k) ∨ ∃ kvs k b, Rd H a (.dT kvs) ∧ y = .ref b ∧ H b = some (.tup (k.map kV)) ∧ r = valV kvs k
def DPut (H : Hp) (a : Addr) (y v : V) (H' : Hp) : Prop :=
  (∃ kvs k, H a = some (.dK kvs) ∧ y = kV k ∧ kvs.length < sizeLine ∧ H' = upd H a (.dK (putK kvs k v))) ∨
  ∃ kvs k b, H a = some (.dT kvs) ∧ y = .ref b ∧ H b = some (.tup (k.map kV)) ∧ kvs.length < sizeLine ∧ H' = upd H a (.dT (putK kvs k v))
theorem DGet.k {H : Hp} {a : Addr} {kvs : List (Key × V)} {k : Key} (e : H a = some (.dK kvs)) : DGet H a (kV k) (valV kvs k) := .inl ⟨kvs, k, .inl e, rfl, rfl⟩
theorem DGet.t {H : Hp} {a b : Addr} {kvs : List (List Key × V)} {k : List Key} (e : H a = some (.dT kvs)) (eb : H b = some (.tup (k.map kV))) : DGet H a (.ref b) (valV kvs k) := .inr ⟨kvs, k, b, .inl e, rfl, eb, rfl⟩
theorem DPut.k {H : Hp} {a : Addr} {kvs : List (Key × V)} {k : Key} {v : V} (e : H a = some (.dK kvs)) (hl : kvs.length < sizeLine) : DPut H a (kV k) v (upd H a (.dK (putK kvs k v))) := .inl ⟨kvs, k, e, rfl, hl, rfl⟩
theorem DPut.t {H : Hp} {a b : Addr} {kvs : List (List Key × V)} {k : List Key} {v : V} (e : H a = some (.dT kvs)) (eb : H b = some (.tup (k.map kV))) (hl : kvs.length < sizeLine) :
    DPut H a (.ref b) v (upd H a (.dT (putK kvs k v))) := .inr ⟨kvs, k, b, e, rfl, eb, hl, rfl⟩
section
variable {X : Cx} {pins : List (Addr × Obj)} {σ : St} {H : Hp} {s : Shared} {a : Addr} {y v : V} {u r : Value} {o : Option V} {A : Around} {E : Value → Shared → Prop}
theorem Inv.big (I : Inv X pins σ H s) : sysModules < s.heap.objs.size := by
  have h : mainGlobals < s.heap.objs.size := (I.mod.glob.keeps I.bk).lt
  exact Nat.lt_trans (by decide) h
theorem d_getItem {Q : Value → Shared → Prop} (hu : A.units + 1 < cLine) (I : Inv X pins σ H s) (g : DGet H a y (some v)) (ry : RelV y u) (h : ∀ w' s', Inv X pins σ H s' → RelV v w' → Q w' s') :
    wpAny (model X.prog X.w) A (getItem (.ref a) u) Q E s := by
  rcases g with ⟨kvs, k, e, ey, l⟩ | ⟨kvs, k, b, e, ey, eb, l⟩
  · subst ey
    obtain ⟨z, hd, vs, rel, dd⟩ := dk_rd I.hok e
    obtain ⟨w', hw, rw'⟩ := RelO.some_of (v := v) (o := valueAt vs k) (by rw [l]; exact rel.val k)
    exact wpAny_getItem_of (kV_is ry) dd.mapOf hw (h w' _ (I.tok _) rw')
  · subst ey
    cases (show u = Value.ref b from ry)
    obtain ⟨z, hd, xs, rel, dd⟩ := dt_rd I.hok e
    obtain ⟨w', hw, rw'⟩ := RelO.some_of (v := v) (o := (atKey xs k).map (·.2)) (by rw [l]; exact rel.val k)
    obtain ⟨p, hp, hp2⟩ := Option.map_eq_some_iff.mp hw
    refine wpAny_getItem_heap (tupleKind_room_in1 hu) (key_of I.hok eb) dd hp ?_
    rw [hp2]
    exact h w' _ (I.tok _) rw'
theorem d_notIn {Q : Value → Shared → Prop} (hu : A.units + 1 < cLine) (I : Inv X pins σ H s) (g : DGet H a y o) (ry : RelV y u) (h : ∀ s', Inv X pins σ H s' → Q (.bool (!o.isSome)) s') :
    wpAny (model X.prog X.w) A (compareOp .NotIn u (.ref a)) Q E s := by
  rcases g with ⟨kvs, k, e, ey, l⟩ | ⟨kvs, k, b, e, ey, eb, l⟩
  · subst ey
    obtain ⟨z, hd, vs, rel, dd⟩ := dk_rd I.hok e
    refine wpAny_notIn_of (kV_is ry) hd dd.mapOf ?_
    rw [← (rel.val k).isSome_eq, ← l]
    exact h _ (I.tok _)
  · subst ey
    cases (show u = Value.ref b from ry)
    obtain ⟨z, hd, xs, rel, dd⟩ := dt_rd I.hok e
    refine wpAny_notIn_heap (tupleKind_room_in1 hu) (key_of I.hok eb) hd dd ?_
    have q := (rel.val k).isSome_eq
    rw [Option.isSome_map] at q
    rw [← q, ← l]
    exact h _ (I.tok _)
theorem d_write {h' : Heap} {t' : Nat} {ob : HO} (I : Inv X pins σ H s) (mu : Mut (H a)) (hs : Heap.SameBut a s.heap h') (he : ∃ q, h'.get? a = some q) (new : ObjOk X.prog X.w (upd H a ob) h' a ob) (ht : s.toks ≤ t' := by first | exact Nat.le_refl _ | exact Nat.le_succ _ | assumption | omega) :
    Inv X pins σ (upd H a ob) { s with heap := h', toks := t' } :=
  I.write (x := a) (e := a) mu (.inl rfl) (fun b q hb z => (hs.2 b hb).trans z) he new
theorem dk_new {P : Program} {w : World} {H' : Hp} {h' : Heap} {kvs : List (Key × V)} {vs : List (Key × Value)} (z : kvs.length ≤ sizeLine) (hd : (a == sysModules) = false) (rel : KV kvs vs) (dd : h'.DictOf (mixKind P w) a vs) :
    ObjOk P w H' h' a (.dK kvs) := ⟨z, hd, vs, rel, dd⟩
theorem d_setItem {H' : Hp} {Q : Unit → Shared → Prop} (hu : A.units + 1 < cLine) (I : Inv X pins σ H s) (g : DPut H a y v H') (ry : RelV y u) (rv : RelV v r) (h : ∀ s', Inv X pins σ H' s' → Q () s') :
    wpAny (model X.prog X.w) A (setItem (.ref a) u r) Q E s := by
  rcases g with ⟨kvs, k, e, ey, l, eH⟩ | ⟨kvs, k, b, e, ey, eb, l, eH⟩
  · subst ey eH
    obtain ⟨z, hd, vs, rel, dd⟩ := dk_of I.hok e
    have hz : vs.length ≤ sizeLine := by rw [← rel.length]; exact z
    have hl : (putK kvs k v).length ≤ sizeLine := by have := length_putK kvs k v; omega
    refine wpAny_setItem_pairs (hsz := hz) (kV_is ry) dd fun h' dd' hs => h _ ?_
    have he : ∃ q, h'.get? a = some q := let ⟨q, _, _, hq, _⟩ := dd'; ⟨q, hq⟩
    exact d_write I (by rw [e]; exact True.intro) hs he (dk_new hl hd (rel.put k rv) dd')
  · subst ey eH
    cases (show u = Value.ref b from ry)
    obtain ⟨z, hd, xs, rel, dd⟩ := dt_of I.hok e
    have hz : xs.length ≤ sizeLine := by rw [← Paired.length rel]; exact z
    have hl : (putK kvs k v).length ≤ sizeLine := by have := length_putK kvs k v; omega
    refine wpAny_setItem_heap (hsz := hz) (tupleKind_room_in1 hu) (key_of I.hok eb) dd fun h' dd' hs => h _ ?_
    obtain ⟨q, es, ep, hq, h2, h3, h4, _, h5⟩ := dd'
    refine d_write I (by rw [e]; exact True.intro) hs ⟨q, hq⟩ ⟨hl, hd, _, (rel.put k eb rv).keeps fun c ys ec => ?_, q, es, ep, hq, h2, h3, h4, h5⟩
    rw [upd_ne (ne_of ec e (fun z => nomatch z))]
    exact ec
end
section
variable {X : Cx} {pins : List (Addr × Obj)} {σ : St} {H : Hp} {s : Shared} {a : Addr} {kvs : List (Key × V)} {k : Key} {u : Value} {A : Around} {E : Value → Shared → Prop}
end
def NoSl (i : Expr) : Prop := ∀ ov iv, subscripted i false ov iv = operate [ov, iv] (getItem ov iv)
theorem subD_of {prog : Program} {w : World} {A : Around} {E : Value → Shared → Prop} {s : Shared} {env : Env} {value slice : Expr} {pos : Pos} {T id : String} {Q : Value → Shared → Prop}
    (hl : typeLookup (.type T) "__getitem__" = pure (some (.builtin id))) (hs : NoSl slice)
    (h : wpAny (model prog w) A (eval value env) (fun o s₁ => wpAny (model prog w) A (eval slice env) (fun i s₂ => s₂.TypeIs o T ∧ wpAny (model prog w) A (getItem o i) Q E s₂) E s₁) E s) :
    wpAny (model prog w) A (eval (.Subscript value slice pos) env) Q E s := by
  refine Subscript_ (wpAny_mono h (fun o s₁ h₁ => wpAny_mono h₁ (fun i s₂ h₂ => ?_) fun _ _ x => x) fun _ _ x => x)
  obtain ⟨hT, h₂⟩ := h₂
  unfold subscriptTail
  refine wpAny_bind ?_
  rw [getitemInPython_of_ne hT.not_modules]
  refine wpAny_bind (wpAny_specialOf hT hl ?_)
  have fin : wpAny (model prog w) A (subscripted slice false o i) (fun r s₃ => wpAny (model prog w) A (letTemporaryGo value o r >>= fun _ => pure r) Q E s₃) E s₂ := by
    rw [hs o i]
    exact wpAny_operating (wpAny_mono h₂ (fun r s₃ h₃ => wpAny_bind (wpAny_letTemporaryGo (wpAny_pure h₃))) fun _ _ x => x)
  first
    | exact wpAny_pure (wpAny_bind fin)
    | exact wpAny_bind (wpAny_pure (wpAny_bind fin))
    | exact wpAny_bind fin
theorem dict_typeIs {X : Cx} {pins : List (Addr × Obj)} {σ : St} {H : Hp} {s : Shared} {a : Addr} {y : V} {o : Option V} (I : Inv X pins σ H s) (g : DGet H a y o) : s.TypeIs (.ref a) "dict" := by
  rcases g with ⟨kvs, k, e, _, _⟩ | ⟨kvs, k, b, e, _, _, _⟩
  · obtain ⟨_, _, vs, _, dd⟩ := dk_rd I.hok e
    exact dd.typeIs
  · obtain ⟨_, _, xs, _, dd⟩ := dt_rd I.hok e
    exact dd.typeIs
def tDGet (td ty : TE) : TE := fun σ H Q => td σ H fun x H1 => ty σ H1 fun y H2 => ∃ a v, x = .ref a ∧ DGet H2 a y (some v) ∧ Q v H2
def tDNotIn (ty td : TE) : TE := fun σ H Q => ty σ H fun y H1 => td σ H1 fun x H2 => ∃ a o, x = .ref a ∧ DGet H2 a y o ∧ Q (.bl (!o.isSome)) H2
def sDPut (td ty tv : TE) : TS := fun D σ H => tv σ H fun v H1 => td σ H1 fun x H2 => ty σ H2 fun y H3 => ∃ a H4, x = .ref a ∧ DPut H3 a y v H4 ∧ D.nx σ H4
section
variable {X : Cx} {o i e value : Expr} {pos pos' tpos : Pos} {td ty tv : TE}
theorem pe_dget (hu : X.A.units + 1 < cLine) (ho : PE X o td) (hi : PE X i ty) (hs : NoSl i) : PE X (.Subscript o i pos) (tDGet td ty) := by
  intro pins s σ H Q I h
  refine subD_of PySem.F.slot_dict_getitem.lookup hs (thn (ho pins s σ H _ I h) fun u s1 ⟨x, H1, I1, rx, q1⟩ => thn (hi pins s1 σ H1 _ I1 q1) fun iv s2 ⟨y, H2, I2, ry, a, v, ex, g, q2⟩ => ?_)
  subst ex
  obtain rfl : u = Value.ref a := rx
  exact ⟨dict_typeIs I2 g, d_getItem hu I2 g ry fun w' s3 I3 rw' => ⟨v, H2, I3, rw', q2⟩⟩
theorem pc_dnotin (hu : X.A.units + 1 < cLine) (hi : PE X i ty) (ho : PE X o td) : PC X .NotIn i o (tDNotIn ty td) := by
  intro pins s σ H Q I h
  refine thn (hi pins s σ H _ I h) fun iv s1 ⟨y, H1, I1, ry, q1⟩ => thn (ho pins s1 σ H1 _ I1 q1) fun u s2 ⟨x, H2, I2, rx, a, ov, ex, g, q2⟩ => ?_
  subst ex
  obtain rfl : u = Value.ref a := rx
  exact d_notIn hu I2 g ry fun s3 I3 => ⟨.bl (!ov.isSome), H2, I3, rfl, q2⟩
theorem ps_dput (hu : X.A.units + 1 < cLine) (ho : PE X o td) (hi : PE X i ty) (hv : PE X value tv) (hs : swapsWith value (some (.Subscript o i pos')) pos.line X.env = pure false) :
    PS X (.Assign [.Subscript o i pos'] value pos) (sDPut td ty tv) := by
  intro pins s σ H D I h
  refine wpAny_Assign_Subscript (thn (hv pins s σ H _ I h) fun r s1 ⟨v, H1, I1, rv, q1⟩ => thn (ho pins s1 σ H1 _ I1 q1) fun u s2 ⟨x, H2, I2, rx, q2⟩ => thn (hi pins s2 σ H2 _ I2 q2) fun iv s3 ⟨y, H3, I3, ry, a, H4, ex, g, q3⟩ => ?_) hs
  subst ex
  obtain rfl : u = Value.ref a := rx
  exact d_setItem hu I3 g ry rv fun s4 I4 => ⟨σ, H4, I4, q3⟩
end
theorem dt_empty {P : Program} {w : World} {H : Hp} (h : Heap) (hb : sysModules < h.objs.size) : ObjOk P w H (h.push { cls := .type "dict", data := .dict #[] }) h.objs.size (.dT []) :=
  ⟨Nat.zero_le _, beq_eq_false_iff_ne.mpr (Ne.symm (Nat.ne_of_lt hb)), [], .nil, _, #[], 0, Heap.get?_push_size _ rfl, ⟨rfl, rfl, rfl⟩, rfl, rfl, List.nodup_nil⟩
def tDNewT : TE := fun _ H Q => ∀ p, H p = none → Q (.ref p) (upd H p (.dT []))
section
variable {X : Cx} {pos : Pos}
theorem pe_dnewT : PE X (.Dict [] [] pos) tDNewT := fun pins s σ H Q I h =>
  wpAny_Dict_empty ⟨.ref s.heap.objs.size, _, I.laid (a := s.heap.objs.size) (o := .dT []) (t' := s.toks) (fun _ _ q => Heap.get?_push_of_some _ q) (Nat.le_refl _) (dt_empty s.heap I.big), rfl, h _ (I.hok.fresh (Nat.le_refl _))⟩
end
def mergeK (kvs more : List (Key × V)) : List (Key × V) := more.foldl (fun acc kv => putK acc kv.1 kv.2) kvs
theorem KV.merge : ∀ {more : List (Key × V)} {rs : List (Key × Value)} {kvs : List (Key × V)} {vs : List (Key × Value)}, KV more rs → KV kvs vs → KV (mergeK kvs more) (merged vs rs) := by
  intro more rs kvs vs r
  unfold KV at r
  induction r generalizing kvs vs with
  | nil => intro q; exact q
  | @cons p q ps qs h t ih =>
    intro r0
    have e : KV (putK kvs p.1 p.2) (stored vs q.1 q.2) := by
      have := r0.put p.1 h.2
      rw [← h.1]; exact this
    exact ih e
structure M1 (X : Cx) (o : Expr) (m : Str) (apos : Pos) (e : Expr) (cpos : Pos) : Prop where
  base : attributeBase o m X.env (eval o X.env) = eval o X.env
  few : ((backTo cpos (starEach [e] X.env)).all (fun x => !x.1) && (backToKw cpos (keywordEach [] X.env)).all (fun x => x.1.isSome)
    && decide (([e] : List Expr).length + ([] : List Keyword).length + (if ([] : List Keyword).isEmpty then 0 else 1) < 30)) = true
  line : (apos.endLine == cpos.line) = true
  trees : backTo cpos (starEach [e] X.env) = [(false, eval e X.env)]
structure M2 (X : Cx) (o : Expr) (m : Str) (apos : Pos) (e f : Expr) (cpos : Pos) : Prop where
  base : attributeBase o m X.env (eval o X.env) = eval o X.env
  few : ((backTo cpos (starEach [e, f] X.env)).all (fun x => !x.1) && (backToKw cpos (keywordEach [] X.env)).all (fun x => x.1.isSome)
    && decide (([e, f] : List Expr).length + ([] : List Keyword).length + (if ([] : List Keyword).isEmpty then 0 else 1) < 30)) = true
  line : (apos.endLine == cpos.line) = true
  trees : backTo cpos (starEach [e, f] X.env) = [(false, eval e X.env), (false, eval f X.env)]
section
variable {X : Cx} {pins : List (Addr × Obj)} {σ : St} {H : Hp} {s : Shared} {a : Addr} {y d : V} {u r : Value} {o : Option V} {A : Around} {E : Value → Shared → Prop}
end
section
variable {X : Cx} {o e f : Expr} {apos cpos : Pos} {td ty tx : TE}
end
section
variable {X : Cx} {pins : List (Addr × Obj)} {σ : St} {H : Hp} {s : Shared} {a : Addr} {kvs : List (Key × V)} {A : Around} {E : Value → Shared → Prop}
end
section
variable {X : Cx} {pins : List (Addr × Obj)} {σ : St} {H : Hp} {s : Shared} {a : Addr} {y : V} {u : Value} {A : Around} {E : Value → Shared → Prop}
end
end L2
namespace HT
open PySem PyProof.Rows
section
open PySem.SeqAt
open PySem.AutoSeq1 (wpAny_loadPart')
open PySem.MeetsSeq PySem.MeetsSeq2 PySem.MeetsSeq3
end
section
variable {prog : Program} {w : World} {A : Around} {E : Value → Shared → Prop} {s : Shared}
end
end HT
namespace L2
open PySem PySem.Spec PyProof.Rows
abbrev TO := St → Hp → (Option Int → Hp → Prop) → Prop
section
variable {X : Cx} {e : Expr} {te : TE} {lo hi : Option Expr} {tl th : TO} {pos p2 : Pos}
end
end L2
namespace L2
open PySem PySem.Spec PyProof.Rows
def ixN (n : Nat) (i : Int) : Option Nat := if 0 ≤ i then (if i < n then some i.toNat else none) else if -(n : Int) ≤ i then some (i + n).toNat else none
def atI {α : Type} (xs : List α) (i : Int) : Option α := (ixN xs.length i).bind fun j => xs[j]?
theorem ixN_seq {n : Nat} {i : Int} {j : Nat} (h : ixN n i = some j) : seqIndex? i n = some j ∧ j < n ∧ -(n : Int) ≤ i ∧ i < n := by
  unfold ixN at h
  by_cases h0 : 0 ≤ i
  · rw [if_pos h0] at h
    by_cases h1 : i < n
    · rw [if_pos h1] at h
      have e : i.toNat = j := Option.some.inj h
      exact ⟨by rw [seqIndex_of h0 h1, e], by omega, by omega, h1⟩
    · rw [if_neg h1] at h; cases h
  · rw [if_neg h0] at h
    by_cases h1 : -(n : Int) ≤ i
    · rw [if_pos h1] at h
      have e : (i + n).toNat = j := Option.some.inj h
      exact ⟨by rw [seqIndex_neg (by omega) h1, e], by omega, h1, by omega⟩
    · rw [if_neg h1] at h; cases h
theorem atI_get {α : Type} {xs : List α} {i : Int} {v : α} (h : atI xs i = some v) : ∃ j, seqIndex? i xs.length = some j ∧ xs[j]? = some v ∧ j < xs.length ∧ -(xs.length : Int) ≤ i ∧ i < xs.length := by
  unfold atI at h
  cases e : ixN xs.length i with
  | none => rw [e] at h; cases h
  | some j =>
    rw [e] at h
    obtain ⟨h1, h2, h3, h4⟩ := ixN_seq e
    exact ⟨j, h1, h, h2, h3, h4⟩
theorem atI_nat {α : Type} {xs : List α} {j : Nat} {v : α} (h : xs[j]? = some v) : atI xs (j : Int) = some v := by
  have hj : j < xs.length := (List.getElem?_eq_some_iff.mp h).1
  have e : ixN xs.length (j : Int) = some j := by
    unfold ixN
    rw [if_pos (by omega), if_pos (by omega)]; simp
  unfold atI; rw [e]; exact h
def PlainIx (b : Expr) : Prop := ∀ o i, subscripted b false o i = operate [o, i] (getItem o i)
def IxR (X : Cx) (r : R2) : Prop :=
  ∀ (value slice : Expr) (pins : List (Addr × Obj)) (s : Shared) (σ : St) (H : Hp) (x y : V) (v u : Value) (Q : VK), Inv X pins σ H s → RelV x v → RelV y u → r x y H Q →
    subscripted slice false v u = operate [v, u] (getItem v u) → wpAny (model X.prog X.w) X.A (subscriptTail value slice v u) (EP X pins σ Q) X.xe s
def MtR (X : Cx) (id : String) (r : V → List V → Hp → VK → Prop) : Prop :=
  ∀ (pins : List (Addr × Obj)) (s : Shared) (σ : St) (H : Hp) (x : V) (xs : List V) (v : Value) (us : List Value) (Q : VK), Inv X pins σ H s → RelV x v → Vals xs us → r x xs H Q →
    wpAny (model X.prog X.w) X.A (call (.builtin id) (v :: us)) (EP X pins σ Q) X.xe s
section
variable {X : Cx} {a b : Expr} {ta tb : TE} {pos : Pos}
theorem pe_ix {r : R2} (hr : IxR X r) (ha : PE X a ta) (hb : PE X b tb) (hs : PlainIx b) : PE X (.Subscript a b pos) (tOp r ta tb) := by
  intro pins s σ H Q I h
  exact Subscript_ (binT ha hb I h fun v u s2 x y H2 I2 rx ry q => hr a b pins s2 σ H2 x y v u Q I2 rx ry q (hs _ _))
def rIxL (K : PySem.W.Frag) : R2 := fun x y H Q => ∃ p xs i v, x = .ref p ∧ y = .int i ∧ SqL K H p xs ∧ atI xs i = some v ∧ Q v H
def rIxT (K : PySem.W.Frag) : R2 := fun x y H Q => ∃ p xs i v, x = .ref p ∧ y = .int i ∧ SqT K H p xs ∧ atI xs i = some v ∧ Q v H
def rIxS : R2 := fun x y H Q => ∃ z i c, x = .str z ∧ y = .int i ∧ z.length ≤ sizeLine ∧ atI z.cps.toList i = some c ∧ Q (.str ⟨#[c]⟩) H
theorem ix_list : IxR X (rIxL X.K) := by
  intro value slice pins s σ H x y v u Q I rx ry h hs
  obtain ⟨p, xs, i, z, rfl, rfl, hq, he, q⟩ := h
  cases rx
  obtain ⟨t, rfl⟩ := ry
  obtain ⟨its, r, pl, hz⟩ := I.list hq
  obtain ⟨j, h1, h2, h3, h4, h5⟩ := atI_get he
  obtain ⟨w, ew, rw'⟩ := r.get h2
  have hl := r.length
  have hn := line63
  have fin : EP X pins σ Q w s := ⟨z, H, I, rw', q⟩
  by_cases h0 : 0 ≤ i
  · have hj : i.toNat = j := by
      rw [seqIndex_of h0 h5] at h1
      exact Option.some.inj h1
    exact item_listR pl.isList h0 (by omega) (by rw [hj]; simpa using ew) fin hs
  · have hj : (i + (its.toArray.size : Int)).toNat = j := by
      rw [seqIndex_neg (by omega) h4] at h1
      rw [List.size_toArray, ← hl]
      exact Option.some.inj h1
    exact subscriptTail_builtinR (x := w) pl.isList.typeIs slot_list_getitem.lookup
      (wpAny_getItem_list_neg (Q := fun r s' => r = w ∧ EP X pins σ Q r s') pl.isList (by omega) (by rw [List.size_toArray] <;> omega) (by omega) (by rw [hj]; simpa using ew) ⟨rfl, fin⟩) hs
theorem ix_tup : IxR X (rIxT X.K) := by
  intro value slice pins s σ H x y v u Q I rx ry h hs
  obtain ⟨p, xs, i, z, rfl, rfl, hq, he, q⟩ := h
  cases rx
  obtain ⟨t, rfl⟩ := ry
  obtain ⟨its, r, pl, hz⟩ := I.tuple hq
  obtain ⟨j, h1, h2, h3, h4, h5⟩ := atI_get he
  obtain ⟨w, ew, rw'⟩ := r.get h2
  have hl := r.length
  have hn := line63
  have fin : EP X pins σ Q w s := ⟨z, H, I, rw', q⟩
  exact subscriptTail_builtinR (x := w) pl.typeIs slot_tuple_getitem.lookup
    (getItem_tuple (j := j) (Q := fun r s' => r = w ∧ EP X pins σ Q r s') pl (by omega) (by omega) (by rw [List.size_toArray, ← hl]; exact h1) (by simpa using ew) ⟨rfl, fin⟩) hs
theorem ix_str : IxR X rIxS := by
  intro value slice pins s σ H x y v u Q I rx ry h hs
  obtain ⟨z, i, c, rfl, rfl, hz, he, q⟩ := h
  obtain ⟨t, rfl⟩ := rx
  obtain ⟨t', rfl⟩ := ry
  obtain ⟨j, h1, h2, h3, h4, h5⟩ := atI_get he
  have hl : z.cps.toList.length = z.length := by simp [Str.length]
  rw [hl] at h1 h4 h5
  have hn := line63
  exact tail_any (typeIs_str s z t) slot_str_getitem.lookup (getItem_str (c := c) (by
    have e1 : decide (i < -(2 ^ 63 : Int)) = false := decide_eq_false (by omega)
    have e2 : decide (i ≥ 2 ^ 63) = false := decide_eq_false (by omega)
    rw [e1, e2, Bool.or_false]) (by rw [h1]; simpa using h2) ⟨.str ⟨#[c]⟩, H, I.tok _, ⟨_, rfl⟩, q⟩) hs
theorem Inv.lst {pins : List (Addr × Obj)} {σ : St} {H : Hp} {s : Shared} {p : Addr} {xs : List V} (I : Inv X pins σ H s) (h : H p = some (.lst xs)) :
    ∃ (its : List Value) (n : Nat), Vals xs its ∧ s.heap.get? p = some { cls := .type "list", data := .seq its.toArray n } ∧ xs.length ≤ sizeLine := by
  obtain ⟨z, its, n, r, e⟩ := I.hok p _ h
  exact ⟨its, n, r, e, z⟩
def flatV : V → Bool
  | .non => true
  | .bl _ => true
  | .int _ => true
  | .str _ => true
  | _ => false
def eqV : V → V → Bool
  | .non, .non => true
  | .bl a, .bl b => a == b
  | .bl a, .int b => (if a then 1 else 0) == b
  | .int a, .bl b => a == (if b then 1 else 0)
  | .int a, .int b => a == b
  | .str a, .str b => a == b
  | _, _ => false
theorem eqAt_V {A : Around} {s : Shared} {y x : V} {u v : Value} (ry : RelV y u) (rx : RelV x v) (fy : flatV y = true) (fx : flatV x = true) : SeqAt.EqAt A s u v (eqV y x) := by
  cases y with
  | non =>
    cases ry
    cases x with
    | non => cases rx; exact SeqAt.EqAt.same _
    | bl b => cases rx; exact SeqAt.EqAt.none_bool b
    | int b => obtain ⟨t, rfl⟩ := rx; exact SeqAt.EqAt.none_int b t
    | str b => obtain ⟨t, rfl⟩ := rx; exact SeqAt.EqAt.none_str b t
    | _ => exact absurd (show false = true from fx) Bool.false_ne_true
  | bl a =>
    cases ry
    cases x with
    | non => cases rx; exact SeqAt.EqAt.bool_none a
    | bl b => cases rx; exact SeqAt.EqAt.bool_bool a b
    | int b => obtain ⟨t, rfl⟩ := rx; exact SeqAt.EqAt.bool_int a b t
    | str b => obtain ⟨t, rfl⟩ := rx; exact SeqAt.EqAt.bool_str a b t
    | _ => exact absurd (show false = true from fx) Bool.false_ne_true
  | int a =>
    obtain ⟨t', rfl⟩ := ry
    cases x with
    | non => cases rx; exact SeqAt.EqAt.int_none a t'
    | bl b => cases rx; exact SeqAt.EqAt.int_bool a t' b
    | int b => obtain ⟨t, rfl⟩ := rx; exact SeqAt.EqAt.int_int a t' b t
    | str b => obtain ⟨t, rfl⟩ := rx; exact SeqAt.EqAt.int_str a t' b t
    | _ => exact absurd (show false = true from fx) Bool.false_ne_true
  | str a =>
    obtain ⟨t', rfl⟩ := ry
    cases x with
    | non => cases rx; exact SeqAt.EqAt.str_none a t'
    | bl b => cases rx; exact SeqAt.EqAt.str_bool a t' b
    | int b => obtain ⟨t, rfl⟩ := rx; exact SeqAt.EqAt.str_int a t' b t
    | str b => obtain ⟨t, rfl⟩ := rx; exact SeqAt.EqAt.str_str a t' b t
    | _ => exact absurd (show false = true from fx) Bool.false_ne_true
  | _ => exact absurd (show false = true from fy) Bool.false_ne_true
def eqU (x : V) (u : Value) : Bool := match u with
  | .none => eqV .non x
  | .bool b => eqV (.bl b) x
  | .int i _ => eqV (.int i) x
  | .str z _ => eqV (.str z) x
  | _ => false
theorem eqU_of {x y : V} {u : Value} (r : RelV y u) (f : flatV y = true) : eqU x u = eqV y x := by
  cases y with
  | non => cases r; rfl
  | bl b => cases r; rfl
  | int i => obtain ⟨t, rfl⟩ := r; rfl
  | str z => obtain ⟨t, rfl⟩ := r; rfl
  | _ => exact absurd (show false = true from f) Bool.false_ne_true
theorem any_eqU {x : V} : ∀ {xs : List V} {us : List Value}, Vals xs us → xs.all flatV = true → us.any (eqU x) = xs.any fun y => eqV y x
  | _, _, .nil, _ => rfl
  | y :: xs, u :: us, .cons r t, f => by
    rw [List.all_cons, Bool.and_eq_true] at f
    rw [List.any_cons, List.any_cons, eqU_of r f.1, any_eqU t f.2]
theorem mem_eqAt {A : Around} {s : Shared} {x : V} {v : Value} (rx : RelV x v) (fx : flatV x = true) : ∀ {xs : List V} {us : List Value}, Vals xs us → xs.all flatV = true → ∀ u ∈ us, SeqAt.EqAt A s u v (eqU x u)
  | _, _, .nil, _ => fun u hu => by cases hu
  | y :: xs, u :: us, .cons r t, f => fun u' hu => by
    rw [List.all_cons, Bool.and_eq_true] at f
    rcases List.mem_cons.mp hu with rfl | hu
    · rw [eqU_of r f.1]; exact eqAt_V r rx f.1 fx
    · exact mem_eqAt rx fx t f.2 u' hu
def inV (x : V) (xs : List V) : Bool := xs.any fun y => eqV y x
def rIn (K : PySem.W.Frag) (neg : Bool) : R2 := fun x y H Q => ∃ p xs, y = .ref p ∧ (SqL K H p xs ∨ SqT K H p xs) ∧ flatV x = true ∧ xs.all flatV = true ∧ Q (.bl (if neg then !inV x xs else inV x xs)) H
theorem op_in_seq : OpR X (compareOp .In) (rIn X.K false) := by
  intro pins s σ H x y v u Q I rx ry h
  obtain ⟨p, xs, rfl, hq, fx, fs, q⟩ := h
  cases ry
  rcases hq with hq | hq
  · obtain ⟨its, r, pl, hz⟩ := I.list hq
    refine SeqAt.in_listAt (eqU x) pl.isList (fun w hw => mem_eqAt rx fx r fs w (by simpa using hw)) ⟨.bl _, H, I, rfl, ?_⟩
    rw [show its.toArray.any (eqU x) = its.any (eqU x) by simp, any_eqU r fs]
    exact q
  · obtain ⟨its, r, pl, hz⟩ := I.tuple hq
    refine SeqAt.in_tupleAt (eqU x) pl (fun w hw => mem_eqAt rx fx r fs w (by simpa using hw)) ⟨.bl _, H, I, rfl, ?_⟩
    rw [show its.toArray.any (eqU x) = its.any (eqU x) by simp, any_eqU r fs]
    exact q
theorem op_notIn_seq : OpR X (compareOp .NotIn) (rIn X.K true) := by
  intro pins s σ H x y v u Q I rx ry h
  obtain ⟨p, xs, rfl, hq, fx, fs, q⟩ := h
  cases ry
  rcases hq with hq | hq
  · obtain ⟨its, r, pl, hz⟩ := I.list hq
    refine SeqAt.notIn_listAt (eqU x) pl.isList (fun w hw => mem_eqAt rx fx r fs w (by simpa using hw)) ⟨.bl _, H, I, rfl, ?_⟩
    rw [show its.toArray.any (eqU x) = its.any (eqU x) by simp, any_eqU r fs]
    exact q
  · obtain ⟨its, r, pl, hz⟩ := I.tuple hq
    refine SeqAt.notIn_tupleAt (eqU x) pl (fun w hw => mem_eqAt rx fx r fs w (by simpa using hw)) ⟨.bl _, H, I, rfl, ?_⟩
    rw [show its.toArray.any (eqU x) = its.any (eqU x) by simp, any_eqU r fs]
    exact q
theorem call_len_seq : CallR X (.builtin "len") (fun xs H Q => ∃ p ys, xs = [.ref p] ∧ (SqL X.K H p ys ∨ SqT X.K H p ys) ∧ Q (.int ys.length) H) := by
  intro pins s σ H xs us Q I r h
  obtain ⟨p, ys, rfl, hq, q⟩ := h
  obtain ⟨u, rfl, rx⟩ := vals1 r
  cases rx
  have hn := line63
  rcases hq with hq | hq
  · obtain ⟨its, r', pl, hz⟩ := I.list hq
    have hlen := r'.length
    exact Calls.call_len_list pl.isList (by simp only [List.size_toArray] <;> omega) ⟨.int ys.length, H, I.tok _, ⟨s.toks + 1, by rw [List.size_toArray, hlen]⟩, q⟩
  · obtain ⟨its, r', pl, hz⟩ := I.tuple hq
    have hlen := r'.length
    exact len_tuple pl (by simp only [List.size_toArray] <;> omega) ⟨.int ys.length, H, I.tok _, ⟨s.toks + 1, by rw [List.size_toArray, hlen]⟩, q⟩
def tyV (K : PySem.W.Frag) (T : String) (x : V) (H : Hp) : Prop := match x with
  | .str _ => T = "str"
  | .int _ => T = "int"
  | .ref p => (T = "list" ∧ ∃ xs, SqL K H p xs) ∨ (T = "tuple" ∧ ∃ o, K.lookup p = some o ∧ o.cls = .type "tuple" ∧ o.dict = none) ∨
      (T = "dict" ∧ ((∃ kvs, H p = some (.dK kvs)) ∨ ∃ kvs, H p = some (.dT kvs))) ∨ (T = "set" ∧ ∃ S n, H p = some (.set S n))
  | _ => False
theorem tyV_is {pins : List (Addr × Obj)} {σ : St} {H : Hp} {s : Shared} {T : String} {x : V} {v : Value} (I : Inv X pins σ H s) (r : RelV x v) (ty : tyV X.K T x H) :
    s.TypeIs v T ∧ ∀ a, v = .ref a → ∃ ob, s.heap.get? a = some ob ∧ ob.dict = none := by
  cases x with
  | str z =>
    obtain ⟨t, rfl⟩ := r
    cases (show T = "str" from ty)
    exact ⟨typeIs_str s z t, fun _ e => nomatch e⟩
  | int i =>
    obtain ⟨t, rfl⟩ := r
    cases (show T = "int" from ty)
    exact ⟨typeIs_int s i t, fun _ e => nomatch e⟩
  | ref p =>
    cases r
    rcases ty with ⟨rfl, xs, hq⟩ | ⟨rfl, o, hk, hc, hd⟩ | ⟨rfl, hk⟩ | ⟨rfl, S, n, hk⟩
    · obtain ⟨its, _, pl, _⟩ := I.list hq
      refine ⟨pl.isList.typeIs, fun a e => ?_⟩
      cases e
      obtain ⟨o, n, e, c, hd, _⟩ := pl
      exact ⟨o, e, hd⟩
    · refine ⟨⟨o, I.kIn p o hk, hc⟩, fun a e => ?_⟩
      cases e
      exact ⟨o, I.kIn _ o hk, hd⟩
    · have z : ∃ o, s.heap.get? p = some o ∧ o.ExactDict := by
        rcases hk with ⟨kvs, hk⟩ | ⟨kvs, hk⟩
        · obtain ⟨_, _, _, _, o, _, _, e, ex, _⟩ := I.hok p _ hk
          exact ⟨o, e, ex⟩
        · obtain ⟨_, _, _, _, o, _, _, e, ex, _⟩ := I.hok p _ hk
          exact ⟨o, e, ex⟩
      obtain ⟨o, e, ex⟩ := z
      refine ⟨⟨o, e, ex.1⟩, fun a e2 => ?_⟩
      cases e2
      exact ⟨o, e, ex.2.1⟩
    · obtain ⟨o, _, _, _, e, ex, _⟩ := I.hok p _ hk
      refine ⟨⟨o, e, ex.1⟩, fun a e2 => ?_⟩
      cases e2
      exact ⟨o, e, ex.2.1⟩
  | _ => exact False.elim ty
def tBM (K : PySem.W.Frag) (T : String) (r : V → List V → Hp → VK → Prop) (to : TE) (t : TA) : TE := fun σ H Q => to σ H fun x H1 => tyV K T x H1 ∧ t σ H1 fun xs H2 => r x xs H2 Q
variable {o e : Expr} {es : List Expr} {to : TE} {t : TA} {name : Str} {apos cpos : Pos} {T id : String} {r : V → List V → Hp → VK → Prop}
theorem pe_bm (pa : PlainAttrs T) (slot : Slot T name id) (hty : typeOf (.builtin id) = pure (.type "method_descriptor")) (hm : MtR X id r) (ho : PE X o to) (ha : PA X (e :: es) t)
    (hbase : attributeBase o name X.env (eval o X.env) = eval o X.env := by rfl)
    (hfew : ((backTo cpos (starEach (e :: es) X.env)).all (fun x => !x.1) && (backToKw cpos (keywordEach [] X.env)).all (fun x => x.1.isSome)
      && decide ((e :: es).length + ([] : List Keyword).length + (if ([] : List Keyword).isEmpty then 0 else 1) < 30)) = true := by rfl)
    (hline : (apos.endLine == cpos.line) = true := by rfl) (hs : starEach (e :: es) X.env = (false, eval e X.env) :: starEach es X.env := by rfl) (hplain : (backTo cpos (starEach es X.env)).any (·.1) = false := by rfl) :
    PE X (.Call (.Attribute o name apos) (e :: es) [] cpos) (tBM X.K T r to t) := by
  intro pins s σ H Q I h
  refine wpAny_Call_method_late hbase hfew hline rfl (thn (ho pins s σ H _ I h) fun v s1 ⟨x, H1, I1, r1, ty, q1⟩ => ?_)
  obtain ⟨h1, h2⟩ := tyV_is I1 r1 ty
  refine ⟨T, id, pa, slot, hty, h1, h2, ?_⟩
  have hA := ha cpos pins s1 σ H1 _ I1 q1
  rw [hs] at hA ⊢
  refine Calls.callWith_builtin (by show (false || (backTo cpos (starEach es X.env)).any (·.1)) = false; rw [hplain] <;> rfl) (Calls.evalArgs_plain ?_)
  exact thn hA fun us s2 ⟨vs, H2, I2, r2, q2⟩ => hm pins s2 σ H2 x vs v us Q I2 r1 r2 q2
end
end L2
namespace L2
open PySem PySem.Spec PyProof.Rows
def MtM (X : Cx) (id : String) (r : V → List V → Hp → VK → Prop) : Prop :=
  ∀ (pins : List (Addr × Obj)) (s : Shared) (σ : St) (H : Hp) (x : V) (xs : List V) (v : Value) (us : List Value) (Q : VK), Inv X pins σ H s → RelV x v → Vals xs us → r x xs H Q →
    wpAny (model X.prog X.w) X.A (call (.builtin id) (v :: us)) (EP X pins σ Q) X.xe s
theorem Vals.one : ∀ {x : V} {us : List Value}, Vals [x] us → ∃ u, us = [u] ∧ RelV x u
  | _, _, .cons r .nil => ⟨_, rfl, r⟩
theorem Vals.two : ∀ {x y : V} {us : List Value}, Vals [x, y] us → ∃ u v, us = [u, v] ∧ RelV x u ∧ RelV y v
  | _, _, _, .cons r (.cons q .nil) => ⟨_, _, rfl, r, q⟩
theorem Vals.zero : ∀ {us : List Value}, Vals [] us → us = []
  | _, .nil => rfl
theorem Vals.reverse {xs : List V} {us : List Value} (h : Vals xs us) : Vals xs.reverse us.reverse := by
  induction h with
  | nil => exact .nil
  | cons r t ih => rw [List.reverse_cons, List.reverse_cons]; exact Vals.append ih (.cons r .nil)
section
variable {X : Cx} {pins : List (Addr × Obj)} {σ : St} {H : Hp} {s : Shared} {l b : Addr} {xs ys zs : List V}
theorem Inv.lset {its its' : List Value} {n : Nat} {f : Array Value → Array Value} {t' : Nat} (I : Inv X pins σ H s) (hH : H l = some (.lst xs))
    (e : s.heap.get? l = some { cls := .type "list", data := .seq its.toArray n }) (hf : f its.toArray = its'.toArray) (hv : Vals ys its') (hz : ys.length ≤ sizeLine) (ht : s.toks ≤ t' := by first | exact Nat.le_refl _ | exact Nat.le_succ _ | assumption | omega) :
    Inv X pins σ (upd H l (.lst ys)) { s with heap := s.heap.update l (Obj.mapSeq f), toks := t' } := by
  have q := PySem.IsL.update e f
  rw [hf] at q
  refine I.write (x := l) (e := l) (by rw [hH]; exact trivial) (.inl rfl) (fun b' u hb hu => (Heap.get?_update_other s.heap (Obj.mapSeq f) (Ne.symm hb)).trans hu) ⟨_, q⟩ ?_
  exact ⟨hz, its', _, hv, q⟩
theorem Inv.fresh (I : Inv X pins σ H s) : H s.heap.objs.size = none := I.hok.fresh (Nat.le_refl _)
theorem Inv.lstM (I : Inv X pins σ H s) (hH : H l = some (.lst xs)) : xs.length ≤ sizeLine ∧ ∃ (its : List Value) (n : Nat), Vals xs its ∧ xs.length = its.length ∧ s.heap.get? l = some { cls := .type "list", data := .seq its.toArray n } := by
  obtain ⟨z, its, n, r, e⟩ := I.hok l _ hH
  exact ⟨z, its, n, r, r.length, e⟩
theorem notLongL {n : Nat} (h : n ≤ sizeLine) : Builtin.List.listTooLong n = false := by
  unfold Builtin.List.listTooLong
  exact decide_eq_false (by omega)
end
section
variable {X : Cx}
def rAppend : V → List V → Hp → VK → Prop := fun x vs H Q => ∃ l xs y, x = .ref l ∧ vs = [y] ∧ H l = some (.lst xs) ∧ xs.length < sizeLine ∧ Q .non (upd H l (.lst (xs ++ [y])))
theorem mt_append : MtM X "list.append" rAppend := by
  intro pins s σ H x vs v us Q I rx rv h
  obtain ⟨l, xs, y, rfl, rfl, hH, hz, q⟩ := h
  cases rx
  obtain ⟨u, rfl, ru⟩ := rv.one
  obtain ⟨z, its, n, r, hl, e⟩ := I.lstM hH
  refine call_meets F.slot_list_append ⟨_, e, rfl⟩ F.entry_list_append (F.args_list_append_2 _ _) (PySem.list_append l its.toArray n u (by rw [List.size_toArray]; omega)) ⟨e, ?_⟩
  refine ⟨.non, _, I.lset (its' := its ++ [u]) hH e (by simp) (r.append (.cons ru .nil)) ?_, rfl, q⟩
  rw [List.length_append, List.length_singleton]
  omega
def rExtend : V → List V → Hp → VK → Prop := fun x vs H Q => ∃ l b xs zs, x = .ref l ∧ vs = [.ref b] ∧ H l = some (.lst xs) ∧ H b = some (.lst zs) ∧ xs.length + zs.length ≤ sizeLine ∧ Q .non (upd H l (.lst (xs ++ zs)))
theorem mt_extend : MtM X "list.extend" rExtend := by
  intro pins s σ H x vs v us Q I rx rv h
  obtain ⟨l, b, xs, zs, rfl, rfl, hH, hB, hz, q⟩ := h
  cases rx
  obtain ⟨u, rfl, ru⟩ := rv.one
  cases ru
  obtain ⟨z, its, n, r, hl, e⟩ := I.lstM hH
  obtain ⟨z2, its2, n2, r2, hl2, e2⟩ := I.lstM hB
  have hsz : its.toArray.size + its2.toArray.size ≤ sizeLine := by rw [List.size_toArray, List.size_toArray]; omega
  have hlong : ¬ (!its.toArray.isEmpty && Builtin.List.listTooLong (its.toArray.size + its2.toArray.size)) = true := by
    rw [notLongL hsz, Bool.and_false]
    exact Bool.false_ne_true
  refine call_meets F.slot_list_extend ⟨_, e, rfl⟩ F.entry_list_extend (F.args_list_extend_2 _ _)
    (AutoSeq1.list_extend_list_list_0 l its.toArray n b its2.toArray n2 hlong (by rw [List.size_toArray]; omega) (by omega)) ⟨e, e2, ?_⟩
  refine ⟨.non, _, I.lset (its' := its ++ its2) hH e (by simp) (r.append r2) ?_, rfl, q⟩
  rw [List.length_append]
  omega
end
section
variable {prog : Program} {w : World} {A : Around} {E : Value → Shared → Prop} {s : Shared}
end
section
variable {X : Cx}
end
end L2
namespace Att
open PySem PySem.W PySem.Calls PyProof.Rows
theorem ints_of_wellAll {P : Params} {h : Heap} : ∀ (ns : List Int) (vs : List Value), WellAll P h vs (ns.map WData.int) → IntsAre vs ns := by
  intro ns
  induction ns with
  | nil =>
    intro vs w
    rw [List.map_nil] at w
    cases w
    exact .nil
  | cons n ns ih =>
    intro vs w
    rw [List.map_cons] at w
    cases w with
    | cons a b =>
      cases a
      exact .cons _ _ (ih _ b)
theorem script_of {l : OpenLaw} {n : Nat} (hn : l.most = some n) {P : Params} {h : Heap} {args : List WData} {vals : List Value}
    (hpre : l.row.toRowW.claim.pre args = true) (hwl : WellAll P h vals args) :
    ∃ a vs ns, vals = [Value.ref a] ∧ args = [WData.list (ns.map WData.int)] ∧ h.get? a = some { cls := .type "list", data := .seq vs.toArray } ∧ IntsAre vs ns ∧ ns.length ≤ n := by
  have hsh : WShape.hasAll [] args [.list .int] = true := (pre_splitW hpre).1
  have hc : l.pre.holds [] { args := args } = true := (pre_splitW hpre).2
  obtain ⟨d, r, rfl, h1, h2⟩ := hasAllW_cons hsh
  obtain rfl := hasAllW_nil h2
  obtain ⟨xs, rfl, h3⟩ := hasW_list h1
  obtain ⟨ns, rfl⟩ := items_int h3
  have hlen : ns.length ≤ n := by
    unfold OpenLaw.pre at hc
    have h4 : (WTm.not (.lt (.lit (.int (n : Int))) (.len (.arg 0)))).holds [] { args := [.list (ns.map .int)] } = true := by
      have h4 := (holds_andW hc).1
      rw [hn] at h4
      exact h4
    have h5 := condW_of h4 (w_not (w_lt w_lit (w_len_list (w_arg rfl))))
    rw [List.length_map] at h5
    refine Nat.le_of_not_lt fun q => ?_
    have q' : (n : Int) < ((ns.length : Nat) : Int) := by omega
    first
      | (rw [decide_eq_true q'] at h5; exact absurd h5 (by decide))
      | (simp at h5; omega)
  cases hwl with
  | cons w1 w2 =>
    cases w2
    cases w1 with
    | list ho hall => exact ⟨_, _, ns, rfl, rfl, ho, ints_of_wellAll ns _ hall, hlen⟩
theorem post_true (l : OpenLaw) (args : List WData) : l.row.toRowW.claim.post args (.bool true) args = true :=
  postW_of (r := l.row.toRowW) (X := (true == true))
    (show WShape.has [] (.bool true) .bool = true by first | rfl | decide | simp [WShape.has, WShape.arms, WShape.armsAll])
    (show (WTm.eq .res (.lit (.bool true))).value [] { args := args, res := some (.bool true), after := args } = some (.bool (true == true)) from w_eq_bool (w_res rfl) w_lit) rfl
section
variable {prog : Program} {w : World} {A : Around} {E : Value → Shared → Prop} {s : Shared} {K : Frag}
end
end Att
namespace L2
open PySem PySem.Spec PyProof.Rows
theorem vals_ints : ∀ {vs : List Value} {ns : List Int}, IntsAre vs ns → Vals (ns.map V.int) vs
  | _, _, .nil => .nil
  | _, _, .cons n t h => .cons ⟨t, rfl⟩ (vals_ints h)
def Only (H : Hp) : Prop := ∀ b, H b = none ∨ ∃ o xs, H b = some (.frz o (.lst xs))
theorem law_call {P : Program} {w : World} {K : PySem.W.Frag} {mg mb : Str → Option Value} {CX : CXT} {k : Nat} {fa a : Addr} {fd : FuncData} {x : Str} {sp : Sp} {s₁ : Shared} {vs : List Value} {ns : List Int}
    (KX : K.In s₁.heap) (hns : s₁.heap.Ns mainGlobals mg) (hb : s₁.heap.Ns builtinsNs mb) (hbb : ∀ x : Str, x ≠ "__name__" → mb x = bootBuiltins x) (hlim : s₁.heap.NoLimit) (hg : s₁.gens = #[]) (htk : lowT K ≤ s₁.toks)
    (ha : s₁.heap.get? a = some { cls := .type "list", data := .seq vs.toArray }) (hi : IntsAre vs ns) (hl : ns.length ≤ sizeLine) (hr : Room k callerA)
    (F : ∀ base : Heap, K.In base → base.Ns mainGlobals mg → FnOk P w K mg base CX k fa fd [x] sp) (hbind : ∀ (s : Shared) (u : Value), BindsTo s fd ⟨[u], []⟩ [(x, u)])
    (hsp : ∀ H : Hp, Only H → SqL K H a (ns.map V.int) → sp [.ref a] H (fun v _ => v = .bl true) fun _ _ _ => False)
    (hCX : ∀ H e s', CX [] H s₁ (fun _ _ _ => False) e s' → False) :
    codeAny (model P w) callerA (.call (.ref fa) ⟨[.ref a], []⟩) (fun r s' => r = .ok (.ret (.bool true)) ∧ OldK s₁.heap s'.heap ∧ s'.os = s₁.os ∧ AllBare s'.gens) s₁ := by
  have rv := vals_ints hi
  have lenV := hi.length
  have core : ∀ H : Hp, Only H → SqL K H a (ns.map V.int) → HOk P w H s₁.heap → (∀ b, H b ≠ none → b = a) → (H a ≠ none → K.lookup a = none) →
      codeAny (model P w) callerA (.call (.ref fa) ⟨[.ref a], []⟩) (fun r s' => r = .ok (.ret (.bool true)) ∧ OldK s₁.heap s'.heap ∧ s'.os = s₁.os ∧ AllBare s'.gens) s₁ := by
    intro H hO hS hok hA hK
    have base_of : ∀ {b : Addr} {o : Obj}, s₁.heap.get? b = some o → H b = none → (hidT s₁.heap H).get? b = some o := fun e n => hidT_get e n
    have noA : ∀ {b : Addr} {o : Obj} {es : Array DictEntry} {ep : Nat}, s₁.heap.get? b = some o → o.data = .dict es ep → H b = none := fun {b o es ep} e d => by
      cases q : H b with
      | none => rfl
      | some u =>
        have e' : b = a := hA b (by rw [q]; simp)
        subst e'
        rw [ha] at e; cases e
        have d' : Data.seq vs.toArray _ = Data.dict es ep := d
        cases d'
    have nsK : ∀ {b : Addr} {m : Str → Option Value}, s₁.heap.Ns b m → (hidT s₁.heap H).Ns b m := fun {b m} ⟨o, es, ep, e, d, r⟩ => ⟨o, es, ep, base_of e (noA e d), d, r⟩
    have hKb : K.In (hidT s₁.heap H) := fun b o e => base_of (KX b o e) (by
      cases q : H b with
      | none => rfl
      | some u =>
        have e' : b = a := hA b (by rw [q]; simp)
        subst e'
        rw [hK (by rw [q]; simp)] at e; cases e)
    have hM : Mod K mg (hidT s₁.heap H) := ⟨hKb, nsK hns, ⟨mb, nsK hb, hbb⟩, let ⟨mc, h1, h2⟩ := hlim; ⟨mc, nsK h1, h2⟩⟩
    have e0 : Env0 P w K mg (hidT s₁.heap H) callerA [] s₁ H := ⟨rfl, hM, fun b o e => of_hidT e, Nat.le_of_eq (hidT_size _ _), trivial, fun b hb => absurd (show b ∈ ([] : List Addr) from hb) (by simp), hok, .of_eq hg, htk⟩
    refine codeAny_mono ((F _ hKb (nsK hns)).run callerA [] s₁ H ⟨[.ref a], []⟩ [.ref a] [.ref a] _ _ hr e0 (hbind s₁ (.ref a)) (.cons rfl .nil) (hsp H hO hS)) fun r s' h => ?_
    cases r with
    | error e => exact (hCX H e s' h).elim
    | ok fl =>
      cases fl with
      | next => exact False.elim h
      | brk => exact False.elim h
      | cont => exact False.elim h
      | ret u =>
        obtain ⟨v, H', os, bare, un, hok', _, r', q⟩ := h
        have q' : v = .bl true := q
        subst q'
        obtain rfl : u = Value.bool true := r'
        refine ⟨rfl, OldK.of_keep fun b o e => ?_, os, bare⟩
        cases q : H b with
        | none => exact un.keep b o e q (by intro z; exact absurd (show b ∈ ([] : List Addr) from z) (by simp)) (by simp)
        | some u =>
          rcases hO b with z | ⟨ob, xs, z⟩
          · rw [q] at z; cases z
          · have z2 := un.frzs b ob _ z
            obtain ⟨e1, _⟩ := hok b _ z
            obtain ⟨e2, _⟩ := hok' b _ z2
            rw [e] at e1; cases e1
            exact e2
  cases hk : K.lookup a with
  | some o =>
    have e := KX a o hk
    rw [ha] at e
    cases e
    refine core (fun _ => none) (fun _ => .inl rfl) (.inr ⟨_, vs.toArray, _, hk, rfl, rfl, rfl, by rw [List.size_toArray, lenV]; exact hl, by simpa using rv⟩) (fun b u z => by have z' : (none : Option HO) = some u := z; cases z') (fun b z => absurd rfl z) fun z => absurd rfl z
  | none =>
    refine core (fun b => if b = a then some (.frz { cls := .type "list", data := .seq vs.toArray } (.lst (ns.map V.int))) else none) (fun b => ?_) (.inl (.inr ⟨{ cls := .type "list", data := .seq vs.toArray }, if_pos rfl⟩)) (fun b u z => ?_) (fun b z => ?_) fun _ => hk
    · by_cases hb : b = a
      · exact .inr ⟨_, _, if_pos hb⟩
      · exact .inl (if_neg hb)
    · by_cases hb : b = a
      · have z' := (if_pos hb).symm.trans z
        cases z'
        subst hb
        exact ⟨ha, by rw [List.length_map]; exact hl, vs, _, rv, ha⟩
      · have z' := (if_neg hb).symm.trans z
        cases z'
    · by_cases hb : b = a
      · exact hb
      · exact absurd (if_neg hb) z
end L2
namespace L2
open PySem PySem.Spec PyProof.Rows
end L2
namespace L2
open PySem PySem.Spec PyProof.Rows
def inClass (s : Stmt) (j : Nat) : Stmt := match s with
  | .ClassDef _ _ _ body _ _ _ _ _ _ _ => body.getD j (.Pass ⟨0, 0, 0, 0⟩)
  | _ => .Pass ⟨0, 0, 0, 0⟩
def defArgs (s : Stmt) : Arguments := match s with
  | .FunctionDef _ a _ _ _ _ _ _ _ _ => a
  | _ => { posonlyargs := [], args := [], vararg := none, kwonlyargs := [], kw_defaults := [], kwarg := none, defaults := [] }
def defBody (s : Stmt) : List Stmt := match s with
  | .FunctionDef _ _ b _ _ _ _ _ _ _ => b
  | _ => []
def defScope (s : Stmt) : Scope := match s with
  | .FunctionDef _ _ _ _ _ _ sc _ _ _ => sc
  | _ => { kind := .function, names := [], isGenerator := false, isCoroutine := false }
abbrev CX0 : CXT := fun _ _ _ _ _ _ => False
abbrev E0 : XK := fun _ _ _ => False
theorem pass0 {X : Cx} : Passes CX0 X E0 := fun _ _ _ _ _ _ _ h => h.elim
structure Fun (K : PySem.W.Frag) (x qual : Str) (st : Stmt) (f : Addr) (fd : FuncData) : Prop where
  ex : ∃ (oc : Value) (od : Option Addr) (kV doc pm : Value) (an : Option Addr) (cdv ct : Value) (osl : Array (Option Value)),
    fd = PySem.W.fnOf x qual (defArgs st) (defBody st) (defScope st) .none kV doc pm an cdv ct ∧ K.lookup f = some ⟨oc, od, .func fd, osl⟩ ∧ PySem.W.codeIn K cdv qual = true
  kp : PySem.W.keepIn K (.ref f) = true
section
variable {P : Program} {w : World} {K : PySem.W.Frag} {mg : Str → Option Value} {base : Heap}
theorem Fun.ok {x qual : Str} {st : Stmt} {f : Addr} {fd : FuncData} {N ps : List Str} {k : Nat} {sp : Sp} (F : Fun K x qual st f fd) (S : FnScope N ps (defScope st)) (len : ∀ vs H Q E, sp vs H Q E → vs.length = ps.length)
    (hbody : ∀ (cdv : Value) (A : Around) (outer : List Env) (s : Shared) (H : Hp) (vs : List V) (Q : VK) (E : XK), Room k (A.deeper (envOfC qual (defScope st) s.heap.objs.size f cdv)) → sp vs H Q E →
      ∃ t, PSs (cxOf CX0 P w K mg base N qual (defScope st) f cdv A outer s H E).nox (defBody st) t ∧ t { nx := fun _ H' => Q .non H', rt := Q } (start N vs) H) : FnOk P w K mg base CX0 (k + 1) f fd ps sp := by
  obtain ⟨oc, od, kV, doc, pm, an, cdv, ct, osl, rfl, lk, hcd⟩ := F.ex
  refine fn_of lk hcd S len fun A outer s H vs Q E hr hsp => ?_
  obtain ⟨t, h, q⟩ := hbody cdv A outer s H vs Q E hr hsp
  exact ⟨t, h.nox, q⟩
theorem Fun.binds {x qual : Str} {st : Stmt} {f : Addr} {fd : FuncData} {ps : List Str} (F : Fun K x qual st f fd)
    (h : ∀ (kV doc pm : Value) (an : Option Addr) (cdv ct : Value) (us : List Value), us.length = ps.length → bindArgs (PySem.W.fnOf x qual (defArgs st) (defBody st) (defScope st) .none kV doc pm an cdv ct) ⟨us, []⟩ = pure (ps.zip us)) : Binds K fd ps [] := by
  obtain ⟨oc, od, kV, doc, pm, an, cdv, ct, osl, rfl, lk, hcd⟩ := F.ex
  exact .all (h kV doc pm an cdv ct)
theorem fun_mk {x qual : Str} {st : Stmt} {f : Addr} {oc : Value} {od an : Option Addr} {osl : Array (Option Value)} {kV doc pm cdv ct : Value} (l : K.lookup f = some ⟨oc, od, .func (PySem.W.fnOf x qual (defArgs st) (defBody st) (defScope st) .none kV doc pm an cdv ct), osl⟩)
    (c : PySem.W.codeIn K cdv qual = true) (k : PySem.W.keepIn K (.ref f) = true) : Fun K x qual st f (PySem.W.fnOf x qual (defArgs st) (defBody st) (defScope st) .none kV doc pm an cdv ct) := ⟨⟨oc, od, kV, doc, pm, an, cdv, ct, osl, rfl, l, c⟩, k⟩
end
theorem hu_of {A : Around} {k : Nat} (hr : Room k A) : A.units + 1 < cLine := Nat.lt_of_le_of_lt (Nat.add_le_add_left (by decide : 1 ≤ 64) _) hr.units
theorem small1000 {n : Nat} (h : n ≤ 1000) : n < sizeLine := Nat.lt_of_le_of_lt h (by decide)
section
variable {X : Cx}
theorem pv (i : Nat) {x : Str} {pos : Pos} (hN : X.N[i]? = some x := by rfl) (hv : Vis X.env.scope x := by first | exact Or.inl rfl | exact Or.inr (Or.inl rfl) | exact Or.inr (Or.inr rfl)) (hd : (x == ("__debug__" : Str)) = false := by decide)
    (hcd : (x == ("__classdict__" : Str)) = false := by decide) : PE X (.Name x pos) (tVar i) := pe_var hN hv hd hcd
end
theorem iteF {A B : Prop} (h : B) : if false = true then A else B := by
  rw [if_neg Bool.false_ne_true]
  exact h
theorem iteT {A B : Prop} (h : A) : if true = true then A else B := by
  rw [if_pos rfl]
  exact h
theorem ite2 {c A B : Prop} [Decidable c] (h1 : c → A) (h2 : ¬ c → B) : if c then A else B := by
  by_cases h : c
  · rw [if_pos h]
    exact h1 h
  · rw [if_neg h]
    exact h2 h
theorem iteNS {c A B : Prop} [Decidable c] (hc : c) (h : B) : if (!decide c) = true then A else B := by
  rw [decide_eq_true hc]
  exact iteF h
def Same (H H' : Hp) : Prop := ∀ b o, H b = some o → H' b = some o
theorem Same.refl (H : Hp) : Same H H := fun _ _ h => h
theorem Same.trans {H H1 H2 : Hp} (a : Same H H1) (b : Same H1 H2) : Same H H2 := fun c o h => b c o (a c o h)
theorem Same.free {H H' : Hp} (e : Same H H') {l : Addr} (h : H' l = Option.none) : H l = Option.none := by
  cases q : H l with
  | none => rfl
  | some o =>
    rw [e l o q] at h
    cases h
theorem Same.seq {K : PySem.W.Frag} {H H' : Hp} {a : Addr} {xs : List V} (e : Same H H') (h : SqL K H a xs) : SqL K H' a xs := by
  rcases h with (h | ⟨o, h⟩) | h
  · exact .inl (.inl (e _ _ h))
  · exact .inl (.inr ⟨o, e _ _ h⟩)
  · exact .inr h
end L2
namespace L2
open PySem PySem.Spec PyProof.Rows
section
variable {X : Cx}
end
section
variable {κ : Type} [DecidableEq κ]
end
end L2
namespace L2
open PySem PySem.Spec PyProof.Rows
def cxComp (X : Cx) (N : List Str) (scope : Scope) (cl : List (Str × Addr)) (C : Addr) (s : Shared) (H : Hp) (fp : List Addr) : Cx where
  prog := X.prog
  w := X.w
  K := X.K
  mg := X.mg
  base := X.base
  A := X.A
  N := N
  s₀ := s
  H₀ := H
  env := compEnvC scope cl C X.env
  outer := X.stack
  stack := X.stack
  ex := fp
  fn := fun _ => false
  calm := X.calm
  pn := []
  xe := fun _ _ => False
def FvOk (X : Cx) (scope : Scope) : List (Str × Nat) → Prop
  | [] => True
  | p :: r => (X.N[p.2]? = some p.1 ∧ X.env.kindOf p.1 = some .cell ∧ (relabel scope X.env).names.lookup p.1 = some .cell) ∧ FvOk X scope r
theorem FvOk.mem {X : Cx} {scope : Scope} : ∀ {l : List (Str × Nat)}, FvOk X scope l → ∀ p ∈ l, X.N[p.2]? = some p.1 ∧ X.env.kindOf p.1 = some .cell ∧ (relabel scope X.env).names.lookup p.1 = some .cell
  | [], _, _, h => by cases h
  | q :: r, h, p, hp => by
    rcases List.mem_cons.mp hp with e | hp
    · subst e; exact h.1
    · exact FvOk.mem h.2 p hp
def ClOk (X : Cx) : List (Str × Addr) → Prop
  | [] => True
  | p :: r => X.env.cells.lookup p.1 = some p.2 ∧ ClOk X r
theorem ClOk.look {X : Cx} : ∀ {l : List (Str × Addr)}, ClOk X l → ∀ y c, l.lookup y = some c → X.env.cells.lookup y = some c
  | [], _, _, _, h => by cases h
  | (n, d) :: r, h, y, c, e => by
    rw [List.lookup_cons] at e
    cases q : y == n with
    | true =>
      rw [q] at e
      have e' : d = c := Option.some.inj e
      subst e'
      have : y = n := beq_iff_eq.mp q
      subst this
      exact h.1
    | false => rw [q] at e; exact ClOk.look h.2 y c e
def compσ (σ : St) (fvs : List (Str × Nat)) : St := none :: fvs.map fun p => (σ[p.2]?).getD none
section
variable {X : Cx} {pins : List (Addr × Obj)} {σ : St} {H : Hp} {s : Shared} {x : Str} {fvs : List (Str × Nat)} {scope : Scope} {cl : List (Str × Addr)} {fp : List Addr}
theorem comp_ok {C : Addr} (I : Inv X pins σ H s) (hf : ∀ b ∈ fp, FpOk X pins H b) (ho : ∀ b ∈ fp, ∃ o, s.heap.get? b = some o) (hC : s.heap.objs.size ≤ C)
    (hkind : scope.kind = .function) (hcl : ∀ y c, cl.lookup y = some c → X.env.cells.lookup y = some c)
    (hhas : ∀ y, ((relabel scope X.env).names.lookup y = some .cell ∨ (relabel scope X.env).names.lookup y = some .free) → ∃ c, cl.lookup y = some c) :
    (cxComp X (x :: fvs.map (·.1)) scope cl C s H fp).Ok where
  mod := I.ok.mod
  kind := hkind
  glob := I.ok.glob
  blt := I.ok.blt
  above := hC
  inj := fun y z c h1 h2 => I.ok.inj y z c (hcl y c h1) (hcl z c h2)
  has := fun y hy => hhas y hy
  cab := fun y c h => nomatch h
  hd := I.ok.hd
  frames := I.ok.frames
  stk := .inl rfl
  exf := fun b hb => by
    obtain ⟨o, e⟩ := ho b hb
    refine ⟨fun z => ?_, fun y c h => (hf b hb).2.2.2.2.1 y c (hcl y c h)⟩
    exact absurd (Nat.lt_of_lt_of_le (Heap.lt_size e) hC) (by rw [show b = C from z]; exact Nat.lt_irrefl _)
  bs := I.bs
  bsz := Nat.le_trans I.ok.bsz I.sz
  noex := fun b o e hb => by
    rcases (hf b hb).2.2.2.1 with z | z
    · exact I.ok.noex b o e z
    · exact absurd (Nat.lt_of_lt_of_le (Heap.lt_size (I.ok.bs b o e).1) z) (Nat.lt_irrefl _)
  exfs := fun b hb z => by
    rcases List.mem_cons.mp (I.stkSub b z) with e | e
    · exact (hf b hb).2.1 e
    · exact (hf b hb).2.2.1 e
  funs := I.stack
  frf := I.stkFree
  low := Nat.le_trans I.ok.low I.tk
theorem comp_start {C : Addr} {h₁ : Heap} {tk : Nat} (I : Inv X pins σ H s) (hf : ∀ b ∈ fp, FpOk X pins H b) (ho : ∀ b ∈ fp, ∃ o, s.heap.get? b = some o) (hC : s.heap.objs.size < C)
    (hkind : scope.kind = .function) (hcl : ∀ y c, cl.lookup y = some c → X.env.cells.lookup y = some c)
    (hhas : ∀ y, ((relabel scope X.env).names.lookup y = some .cell ∨ (relabel scope X.env).names.lookup y = some .free) → ∃ c, cl.lookup y = some c)
    (hfv : FvOk X scope fvs) (old : ∀ b o, s.heap.get? b = some o → h₁.get? b = some o) (hD : h₁.get? s.heap.objs.size = some { cls := .type "list", data := .seq #[] 0 })
    (hN : h₁.Ns C fun _ => none) (htk : s.toks ≤ tk := by first | exact Nat.le_refl _ | exact Nat.le_succ _ | assumption | omega) :
    Inv (cxComp X (x :: fvs.map (·.1)) scope cl C s H fp) [] (compσ σ fvs) (upd H s.heap.objs.size (.lst [])) { s with heap := h₁, toks := tk } where
  ok := comp_ok I hf ho (Nat.le_of_lt hC) hkind hcl hhas
  tk := htk
  os := rfl
  bare := I.bare
  base := Un.laid old (Nat.le_refl _) (I.hok.fresh (Nat.le_refl _))
  loc := by
    refine ⟨_, hN, fun i y v h1 h2 _ => ?_⟩
    cases i with
    | zero => cases h2
    | succ i =>
      have h1' : (fvs.map (·.1))[i]? = some y := h1
      have h2' : (fvs.map fun p => (σ[p.2]?).getD none)[i]? = some (some v) := h2
      rw [List.getElem?_map] at h1' h2'
      cases q : fvs[i]? with
      | none => rw [q] at h1'; cases h1'
      | some p =>
        rw [q] at h1' h2'
        have e1 : p.1 = y := Option.some.inj h1'
        have e2 : (σ[p.2]?).getD none = some v := Option.some.inj h2'
        subst e1
        obtain ⟨f1, f2, f3⟩ := hfv.mem p (List.mem_of_getElem? q)
        have e3 : σ[p.2]? = some (some v) := by
          cases z : σ[p.2]? with
          | none => rw [z] at e2; cases e2
          | some o => rw [z] at e2; exact congrArg some e2
        obtain ⟨m, hn, hl⟩ := I.loc
        obtain ⟨u, ru, lk⟩ := hl p.2 p.1 v f1 e3 (.inr (.inl f2))
        refine ⟨u, ru, ?_⟩
        rcases lk with ⟨k, _⟩ | ⟨k, c, ec, o, e, d⟩
        · rw [f2] at k; cases k
        · obtain ⟨c', e'⟩ := hhas p.1 (.inl f3)
          have q : c' = c := Option.some.inj ((hcl _ _ e').symm.trans ec)
          subst q
          exact .inr ⟨.inl f3, c', e', o, old c' o e, d⟩
  cell := fun y c h => by
    obtain ⟨v, o, e, d⟩ := I.cell y c (hcl y c h)
    exact ⟨v, o, old c o e, d⟩
  free := by
    show upd H s.heap.objs.size (.lst []) C = none
    rw [upd_ne (Nat.ne_of_gt hC)]
    exact I.hok.fresh (Nat.le_of_lt hC)
  freeC := fun y c h => by
    obtain ⟨v, q⟩ := I.cell y c (hcl y c h)
    rw [upd_ne (Nat.ne_of_lt q.lt)]
    exact I.freeC y c (hcl y c h)
  pin := fun p hp => absurd (show p ∈ ([] : List (Addr × Obj)) from hp) (by simp)
  hok := I.hok.laid old (Nat.le_refl _) ⟨Nat.zero_le _, [], 0, .nil, hD⟩
  len := by show (compσ σ fvs).length = (x :: fvs.map (·.1)).length; simp [compσ]
def tComp (wi : TI) (fvs : List (Str × Nat)) (te : TE) : TE := fun σ H Q => wi σ H fun J H1 => ∀ D, H1 D = none → ∃ W : Nat → Nat → List V → Hp → Prop, (∃ m, W 0 m [] (upd H1 D (.lst []))) ∧ ∀ i m ys H2, W i m ys H2 →
  H2 D = some (.lst ys) ∧ ((J.stop i H2 ∧ Q (.ref D) H2) ∨ (J.go i H2 ∧ ys.length < sizeLine ∧ ∀ x H3, J.yld i H2 x H3 → te ((compσ σ fvs).set 0 (some x)) H3 fun v H4 => H4 D = some (.lst ys) ∧ ∃ m', m' < m ∧ W (i + 1) m' (ys ++ [v]) (upd H4 D (.lst (ys ++ [v])))))
theorem then_pure {α β : Type} {M : Model} {A : Around} {a : α} {P : α → Shared → Prop} {E E' : Value → Shared → Prop} {t : Sem β} {Q : β → Shared → Prop} (h : wpAny M A (pure a) P E s) (k : P a s → wpAny M A t Q E' s) : wpAny M A t Q E' s :=
  fun Γ p hΓ => k (h Γ p hΓ) Γ p hΓ
theorem pe_comp {px : Pos} {iter elt : Expr} {pos : Pos} {wi : TI} {te : TE} (hc : X.calm = true) (hclos : closureFor scope X.env = pure cl) (hkind : scope.kind = .function)
    (hcell : ∀ y ∈ scope.names, y.2 ≠ .cell) (hnames : ∀ y ∈ scope.names, y.2 = .local → scope.names.lookup y.1 = some .local) (hx : scope.names.lookup x = some .local)
    (hcl : ClOk X cl) (hhas : ((relabel scope X.env).names.all fun p => (p.2 != .cell && p.2 != .free) || (cl.lookup p.1).isSome) = true) (hfv : FvOk X scope fvs)
    (hnd : (x :: fvs.map (·.1)).Nodup)
    (hi : PI X (.Name x px) iter wi) (he : ∀ (C : Addr) (s : Shared) (H : Hp) (fp : List Addr), PE (cxComp X (x :: fvs.map (·.1)) scope cl C s H fp) elt te)
    (hs : ∀ v, foldedSetIterable iter X.env v = pure v := by intro _; rfl) : PE X (.ListComp elt [⟨.Name x px, iter, [], 0⟩] scope pos) (tComp wi fvs te) := by
  intro pins s σ H Q I h
  have hcl' := hcl.look
  have hhas' : ∀ y, ((relabel scope X.env).names.lookup y = some .cell ∨ (relabel scope X.env).names.lookup y = some .free) → ∃ c, cl.lookup y = some c := fun y hy => by
    have aux : ∀ k, (k = NameKind.cell ∨ k = .free) → (relabel scope X.env).names.lookup y = some k → ∃ c, cl.lookup y = some c := fun k hk e => by
      have hm := List.all_eq_true.mp hhas _ (PySem.mem_of_lookup e)
      have : (cl.lookup y).isSome = true := by
        rcases hk with rfl | rfl <;> simpa using hm
      exact Option.isSome_iff_exists.mp this
    rcases hy with e | e
    · exact aux _ (.inl rfl) e
    · exact aux _ (.inr rfl) e
  rw [eval_ListComp]
  refine wpAny_comprehension_free (use := none) rfl hs hclos hkind hnames (wpAny_mono (hi pins s σ H _ I h) (fun v s1 h1 => wpAny_mono h1 (fun itv s2 h2 => ?_) fun _ _ e => e) fun _ _ e => e)
  obtain ⟨it, fp, tn, J, H2, e, I2, T, st2, f2, h2⟩ := h2
  subst e
  refine wpAny_newObj_type (wpAny_newFunctionEnv hcell (by intro y hy; simp at hy) (fun h₁ hns hsb => ?_) hkind)
  dsimp only at hns hsb ⊢
  generalize hH2 : s2.heap.push { cls := .type "list", dict := none, data := .seq ([] : List Value).toArray } = Hp2 at hns hsb ⊢
  have hCsz : Hp2.objs.size = s2.heap.objs.size + 1 := by rw [← hH2, Heap.size_push]
  have hlt : s2.heap.objs.size < Hp2.objs.size := by rw [hCsz]; exact Nat.lt_succ_self _
  have old : ∀ b o, s2.heap.get? b = some o → h₁.get? b = some o := fun b o e =>
    hsb.extBut b o (Nat.ne_of_lt (Nat.lt_trans (Heap.lt_size e) hlt)) (Heap.get?_push_of_some _ (hH2 ▸ Heap.get?_push_of_some _ e))
  have hD : h₁.get? s2.heap.objs.size = some { cls := .type "list", data := .seq #[] 0 } :=
    hsb.extBut _ _ (Nat.ne_of_lt hlt) (Heap.get?_push_of_some _ (hH2 ▸ Heap.get?_push_size _ rfl))
  have hfp : ∀ b ∈ fp, ∃ o, s2.heap.get? b = some o := fun b hb => let ⟨o, e, _⟩ := T.obj 0 _ st2 b hb; ⟨o, e⟩
  have st1 : tn 0 h₁ := T.keep 0 _ _ st2 fun b _ o e => old b o e
  have J0 := comp_start (x := x) (tk := s2.toks + ([] : List (Str × Value)).length) I2 f2 hfp hlt hkind hcl' hhas' hfv old hD (by simpa using hns)
  have freshD : H2 s2.heap.objs.size = none := I2.hok.fresh (Nat.le_refl _)
  obtain ⟨W, ⟨m0, w0⟩, turn⟩ := h2 s2.heap.objs.size freshD
  generalize hXC : cxComp X (x :: fvs.map (·.1)) scope cl Hp2.objs.size s2 H2 fp = XC at J0
  have fpC : ∀ {H' : Hp}, (∀ b ∈ fp, H' b = none) → ∀ b ∈ fp, FpOk XC [] H' b := fun {H'} hn b hb => by
    subst hXC
    obtain ⟨o, eo⟩ := hfp b hb
    refine ⟨hn b hb, Nat.ne_of_lt (Nat.lt_trans (Heap.lt_size eo) hlt), fun z => ?_, .inl hb, fun y c e => (f2 b hb).2.2.2.2.1 y c (hcl' y c e), fun p hp => absurd (show p ∈ ([] : List (Addr × Obj)) from hp) (by simp)⟩
    rcases List.mem_cons.mp (I2.stkSub b z) with e | e
    · exact (f2 b hb).2.1 e
    · exact (f2 b hb).2.2.1 e
  have fpU : ∀ b ∈ fp, upd H2 s2.heap.objs.size (.lst []) b = none := fun b hb => by
    obtain ⟨o, eo⟩ := hfp b hb
    rw [upd_ne (Nat.ne_of_lt (Heap.lt_size eo))]
    exact (f2 b hb).1
  have loop : codeAny (model X.prog X.w) X.A (.compLoop (.ListComp elt [⟨.Name x px, iter, [], 0⟩] scope pos) 0 (.ref it) (.ref s2.heap.objs.size) (compEnvC scope cl Hp2.objs.size X.env))
      (compPost (model X.prog X.w) X.A X.xe none (EP X pins σ Q) (.ref s2.heap.objs.size) Hp2.objs.size) { s2 with heap := h₁, toks := s2.toks + ([] : List (Str × Value)).length } := by
    refine codeAny_compLoop_list (fun n s' => ∃ i ys H', Inv XC [] (compσ σ fvs) H' s' ∧ tn i s'.heap ∧ (∀ b ∈ fp, H' b = none) ∧ W i n ys H') ?_ m0 ⟨0, [], _, J0, st1, fpU, w0⟩
    rintro n s3 ⟨i, ys, H3, I3, st3, fr3, w3⟩
    obtain ⟨hD3, alt⟩ := turn i n ys H3 w3
    have hprog : XC.prog = X.prog := by subst hXC; rfl
    have hw : XC.w = X.w := by subst hXC; rfl
    have hK : XC.K = X.K := by subst hXC; rfl
    have hA : XC.A = X.A := by subst hXC; rfl
    have hcalm : XC.calm = true := by subst hXC; exact hc
    have hN : XC.N = x :: fvs.map (·.1) := by subst hXC; rfl
    have henv : XC.env = compEnvC scope cl Hp2.objs.size X.env := by subst hXC; rfl
    have hxl : (relabel scope X.env).names.lookup x = some .local := lookup_relabel_local hx
    rcases alt with ⟨stop, q⟩ | ⟨go, hlen, step⟩
    · have q1 := T.done XC hprog hw hK hcalm i [] s3 _ H3 (fun _ _ => False) I3 (fpC fr3) st3 stop
      rw [hA] at q1
      refine wpAny_mono q1 (fun r s4 ⟨hr, I4⟩ => ?_) fun _ _ z => z.elim
      subst hr
      show compPost _ _ _ none _ _ _ (.ok .next) s4
      obtain ⟨m, hm, _⟩ := I4.loc
      rw [henv] at hm
      refine ⟨m, hm, fun h' hs' => ?_⟩
      refine ⟨.ref s2.heap.objs.size, H3, ?_, rfl, q⟩
      have ub := I4.base
      have e1 : XC.fs = frs X.stack := by subst hXC; rfl
      have e2 : XC.ex = fp := by subst hXC; rfl
      have e3 : XC.H₀ = H2 := by subst hXC; rfl
      have e4 : XC.s₀ = s2 := by subst hXC; rfl
      have tk4 : s2.toks ≤ s4.toks := by have z := I4.tk; rw [e4] at z; exact z
      have fC : H3 Hp2.objs.size = none := by have := I4.free; rw [henv] at this; exact this
      rw [e1, e2, e3, e4] at ub
      have ne : ∀ b o, s2.heap.get? b = some o → b ≠ Hp2.objs.size := fun b o e => Nat.ne_of_lt (Nat.lt_trans (Heap.lt_size e) hlt)
      have hok4 : HOk X.prog X.w H3 s4.heap := by have := I4.hok; rw [hprog, hw] at this; exact this
      refine I2.call' (s' := { s4 with heap := h' }) (ch := fp) (by show s4.os = s2.os; have := I4.os; rw [e4] at this; exact this) ?_ ?_ I4.bare fun b hb => ⟨(f2 b hb).2.2.2.1, (f2 b hb).2.1, (f2 b hb).2.2.2.2.1, (f2 b hb).2.2.2.2.2⟩
      · exact ⟨fun b o e n h1 h2 => (hs'.2 b (ne b o e)).trans (ub.keep b o e n h1 h2), fun b o e n h1 h2 => let ⟨sl, z⟩ := ub.slot b o e n h1 h2; ⟨sl, (hs'.2 b (ne b o e)).trans z⟩, ub.free,
          fun b o e h1 => let ⟨o', z⟩ := ub.there b o e h1; ⟨o', (hs'.2 b (ne b o e)).trans z⟩, ub.tups, ub.frzs, ub.tbls⟩
      · exact fun a o e => (hok4 a o e).stay (fun b u hb q => (hs'.2 b (fun z => by
          subst z
          rcases hb with rfl | hb
          · rw [fC] at e; cases e
          · rw [fC] at hb; cases hb)).trans q) (fun _ q => q) fun _ _ q => q
    · have q1 := T.item XC hprog hw hK hcalm i [] s3 _ H3 (fun _ _ => False) I3 (fpC fr3) st3 go
      rw [hA] at q1
      refine wpAny_mono q1 (fun r s4 ⟨u, hr, h4⟩ => ?_) fun _ _ z => z.elim
      subst hr
      dsimp only
      refine then_pure (a := ()) h4 fun ⟨y, H5, I5, r5, y5, st5, fr5⟩ => ?_
      have I5' := I5.pinned (fpC fr5) (T.obj _ _ st5)
      have q2 := pg_name (X := XC) (i := 0) (x := x) (pos := px) (by rw [hN]; exact hnd) (by rw [hN]; rfl) (.inl (by rw [henv]; exact hxl)) (.inr (by rw [henv]; exact hxl)) _ s4 _ H5 y u (fun σ6 H6 => σ6 = (compσ σ fvs).set 0 (some y) ∧ te σ6 H6 fun v H4 => H4 s2.heap.objs.size = some (.lst ys) ∧ ∃ m', m' < n ∧ W (i + 1) m' (ys ++ [v]) (upd H4 s2.heap.objs.size (.lst (ys ++ [v])))) I5' r5 ⟨rfl, step y H5 y5⟩
      rw [hprog, hw, hA, henv] at q2
      refine wpAny_mono q2 (fun _ s6 ⟨σ6, H6, I6, q6σ, q6⟩ => ?_) fun _ _ z => (by subst hXC; exact z.elim)
      have q3 := he Hp2.objs.size s2 H2 fp
      rw [hXC] at q3
      have q4 := q3 _ s6 σ6 H6 _ I6 q6
      rw [hprog, hw, hA, henv] at q4
      refine wpAny_mono q4 (fun v s7 ⟨y7, H7, I7, r7, d7, m', hm', w7⟩ => ?_) fun _ _ z => (by subst hXC; exact z.elim)
      have q5 := mt_append (X := XC) _ s7 σ6 H7 (.ref s2.heap.objs.size) [y7] (.ref s2.heap.objs.size) [v] (fun _ H8 => H8 = upd H7 s2.heap.objs.size (.lst (ys ++ [y7]))) I7 rfl (.cons r7 .nil) ⟨_, ys, y7, rfl, rfl, d7, hlen, rfl⟩
      rw [hprog, hw, hA] at q5
      refine wpAny_mono q5 (fun _ s8 ⟨_, H8, I8, _, e8⟩ => ?_) fun _ _ z => (by subst hXC; exact z.elim)
      subst e8
      refine ⟨m', hm', i + 1, ys ++ [y7], _, ?_, T.keep _ _ _ st5 fun b hb o e => (I8.pin (b, o) (List.mem_append_right _ (List.mem_append_right _ (mem_pinsAt hb e)))).1, fun b hb => ?_, w7⟩
      · refine I8.unpinned.weak ?_ fun j v' ej => ?_
        · rw [q6σ, List.length_set]
        · rw [q6σ]
          cases j with
          | zero => cases ej
          | succ j => rw [List.getElem?_set_ne (by omega)]; exact ej
      · obtain ⟨o, e, d⟩ := T.obj _ _ st5 b hb
        exact (I8.pin (b, o) (List.mem_append_right _ (List.mem_append_right _ (mem_pinsAt hb e)))).2.1
  refine codeAny_compStart_list loop (T.self X.A 0 _ _ _ st1 loop)
end
end L2
namespace L2
open PySem PySem.Spec PyProof.Rows
section
variable {X : Cx}
end
mutual
inductive RdV (H : Hp) : V → PyData → Prop
  | bl (b : Bool) : RdV H (.bl b) (.bool b)
  | int (i : Int) : RdV H (.int i) (.int i)
  | str (x : Str) : RdV H (.str x) (.str x)
  | tup {a : Addr} {xs : List V} {ds : List PyData} : H a = some (.tup xs) → RdVs H xs ds → RdV H (.ref a) (.tuple ds)
  | lst {a : Addr} {xs : List V} {ds : List PyData} : H a = some (.lst xs) → RdVs H xs ds → RdV H (.ref a) (.list ds)
inductive RdVs (H : Hp) : List V → List PyData → Prop
  | nil : RdVs H [] []
  | cons {x : V} {d : PyData} {xs : List V} {ds : List PyData} : RdV H x d → RdVs H xs ds → RdVs H (x :: xs) (d :: ds)
end
section
variable {X : Cx} {pins : List (Addr × Obj)} {σ : St} {H : Hp} {s : Shared}
mutual
theorem RdV.reads (I : Inv X pins σ H s) : ∀ {x : V} {d : PyData} {u : Value}, RdV H x d → RelV x u → ∃ as, Reads s.heap u d as
  | _, _, _, .bl b, r => by cases r; exact ⟨_, .bool b⟩
  | _, _, _, .int i, r => by obtain ⟨t, rfl⟩ := r; exact ⟨_, .int i t⟩
  | _, _, _, .str x, r => by obtain ⟨t, rfl⟩ := r; exact ⟨_, .str x t⟩
  | _, _, _, .tup e q, r => by
    cases r
    obtain ⟨_, its, rv, o, e1, e2, n, e3⟩ := I.hok _ _ e
    obtain ⟨as, z⟩ := RdVs.reads I q rv
    exact ⟨as, .tuple e1 e2 e3 (by simpa using z)⟩
  | _, _, _, .lst e q, r => by
    cases r
    obtain ⟨_, its, n, rv, e1⟩ := I.hok _ _ e
    obtain ⟨as, z⟩ := RdVs.reads I q rv
    exact ⟨_, .list e1 rfl rfl (by simpa using z)⟩
theorem RdVs.reads (I : Inv X pins σ H s) : ∀ {xs : List V} {ds : List PyData} {us : List Value}, RdVs H xs ds → Vals xs us → ∃ as, ReadsAll s.heap us ds as
  | _, _, _, .nil, r => by cases r; exact ⟨_, .nil⟩
  | _, _, _, .cons q t, r => by
    cases r with
    | cons rx rt =>
      obtain ⟨as, z⟩ := RdV.reads I q rx
      obtain ⟨bs, y⟩ := RdVs.reads I t rt
      exact ⟨_, .cons z y⟩
end
end
section
variable {X : Cx}
def rEqD : R2 := fun x y H Q => ∃ d e, RdV H x d ∧ RdV H y e ∧ d.canLay0 = true ∧ e.canLay0 = true ∧ d.depth ≤ 60 ∧ Q (.bl (PyData.eqv d e)) H
def rNeD : R2 := fun x y H Q => ∃ d e, RdV H x d ∧ RdV H y e ∧ d.canLay0 = true ∧ e.canLay0 = true ∧ d.depth ≤ 60 ∧ Q (.bl (!PyData.eqv d e)) H
theorem op_eqD (hu : X.A.units + 64 < cLine) : OpR X (compareOp .Eq) rEqD := by
  intro pins s σ H x y v u Q I rx ry h
  obtain ⟨d, e, hd, he, cd, ce, dp, q⟩ := h
  obtain ⟨as, z⟩ := hd.reads I rx
  obtain ⟨bs, z'⟩ := he.reads I ry
  exact SeqAt.compareEq_reads z z' cd ce (by have := Nat.min_le_left d.depth e.depth; omega) ⟨.bl _, H, I, rfl, q⟩
theorem op_neD (hu : X.A.units + 64 < cLine) : OpR X (compareOp .NotEq) rNeD := by
  intro pins s σ H x y v u Q I rx ry h
  obtain ⟨d, e, hd, he, cd, ce, dp, q⟩ := h
  obtain ⟨as, z⟩ := hd.reads I rx
  obtain ⟨bs, z'⟩ := he.reads I ry
  exact SeqAt.compareNe_reads z z' cd ce (by have := Nat.min_le_left d.depth e.depth; omega) ⟨.bl _, H, I, rfl, q⟩
end
section
variable {prog : Program} {w : World} {κ : Type} [DecidableEq κ] {knd : HeapKind prog w κ} {A : Around} {E : Value → Shared → Prop} {s : Shared}
theorem setHashedH {d a : Addr} {xs : List (κ × Addr × Value)} {k : κ} {v : Value} {Q : Unit → Shared → Prop} (hu : knd.room A) (hkey : knd.is s.heap k a) (hm : s.heap.DictOfH knd d xs)
    (hQ : ∀ h', h'.DictOfH knd d (storedH xs k a v) → Heap.SameBut d s.heap h' → Q () { s with heap := h' }) (hsz : xs.length ≤ sizeLine) :
    wpAny (model prog w) A (dictSetHashed d (.ref a) (knd.hash k) v) Q E s := by
  obtain ⟨o, es, ep, ho, hc, hd, he, his, hn⟩ := hm
  have hes : es.size ≤ sizeLine := by rw [size_of_entries he]; exact hsz
  unfold dictSetHashed
  try with_reducible refine wpAny_holding ?_
  refine wpAny_bind (wpAny_dictFind_heap hu hkey ho hd he his hn (fun hno => ?_) fun j p hj => ?_)
  · have hnk : k ∉ xs.map (·.1) := not_mem_keys_of_get hno
    have e0 : storedH xs k a v = xs ++ [(k, a, v)] := storedH_new (atKey_none_of_get hno) a v
    refine wpAny_bind (wpAny_rule (wpAny_updateDictKeys (hz := hes) ho hd (hQ _ ?_ (Heap.SameBut.update ..))))
    rw [e0]
    refine ⟨_, _, ep + 1, Heap.get?_update_self _ ho (Obj.isFreed_of_dict (Obj.data_mapDictKeys hd _)), hc.mapDictKeys _, Obj.data_mapDictKeys hd _, by simp [he, entryOfKey], fun x hx => ?_, ?_⟩
    · rcases List.mem_append.mp hx with hx | hx
      · exact knd.keeps (his x hx) ho hd (Heap.SameBut.update ..)
      · cases List.mem_singleton.mp hx
        exact knd.keeps hkey ho hd (Heap.SameBut.update ..)
    · rw [List.map_append]
      refine List.nodup_append.mpr ⟨hn, by simp, fun x hx y hy e => hnk ?_⟩
      have hy' : y = k := by simpa using hy
      rw [← hy', ← e]
      exact hx
  · have e0 : storedH xs k a v = xs.map (putAt k v) := storedH_old (atKey_of_get hn hj) a v
    refine wpAny_bind (wpAny_rule (wpAny_bind (wpAny_updateDict ho hd (wpAny_point (hQ _ ?_ (Heap.SameBut.update ..))))))
    rw [e0]
    refine ⟨_, _, ep, Heap.get?_update_self _ ho (Obj.isFreed_of_dict (Obj.data_mapDict hd _)), hc.mapDict _, Obj.data_mapDict hd _, ?_, fun x hx => ?_, by rw [keys_map_putAt]; exact hn⟩
    · have q := modify_map_putAt (entryOfKey knd) (fun e : DictEntry => { e with val := v }) k v (fun _ _ => rfl) hn hj
      rw [← he] at q
      obtain ⟨l⟩ := es
      simpa using q
    · obtain ⟨y, hy, rfl⟩ := List.mem_map.mp hx
      have z := his y hy
      unfold putAt
      split
      · exact knd.keeps z ho hd (Heap.SameBut.update ..)
      · exact knd.keeps z ho hd (Heap.SameBut.update ..)
def mergedH (xs more : List (κ × Addr × Value)) : List (κ × Addr × Value) := more.foldl (fun acc x => storedH acc x.1 x.2.1 x.2.2) xs
theorem mergedH_snoc (xs more : List (κ × Addr × Value)) (i : Nat) (y : κ × Addr × Value) (h : more[i]? = some y) : mergedH xs (more.take (i + 1)) = storedH (mergedH xs (more.take i)) y.1 y.2.1 y.2.2 := by
  unfold mergedH
  rw [List.take_add_one, h, Option.toList_some, List.foldl_append]
  rfl
theorem storedH_len (xs : List (κ × Addr × Value)) (k : κ) (a : Addr) (v : Value) : (storedH xs k a v).length ≤ xs.length + 1 := by
  unfold storedH
  split
  · rw [List.length_map]; omega
  · rw [List.length_append, List.length_singleton]; exact Nat.le_refl _
theorem mergedH_len : ∀ (more xs : List (κ × Addr × Value)), (mergedH xs more).length ≤ xs.length + more.length
  | [], xs => Nat.le_refl _
  | y :: r, xs => by
    have h1 := mergedH_len r (storedH xs y.1 y.2.1 y.2.2)
    have h2 := storedH_len xs y.1 y.2.1 y.2.2
    show (mergedH (storedH xs y.1 y.2.1 y.2.2) r).length ≤ xs.length + (r.length + 1)
    omega
theorem mergeH {nm : String} {d o : Addr} {xs more : List (κ × Addr × Value)} {Q : Unit → Shared → Prop} (hu : knd.room A) (hdo : d ≠ o) (hoS : (o == sysModules) = false)
    (hd : s.heap.DictOfH knd d xs) (ho : s.heap.DictOfH knd o more) (hemp : xs = [] → more = [])
    (hQ : ∀ h', h'.DictOfH knd d (mergedH xs more) → Heap.SameBut d s.heap h' → Q () { s with heap := h' }) (hsz : xs.length + more.length ≤ sizeLine) :
    wpAny (model prog w) A (Builtin.Dict.mergeDict nm d o) Q E s := by
  obtain ⟨od, esd, epd, hod, hcd, hdd, hed, hisd, hnd⟩ := id hd
  obtain ⟨oo, eso, epo, hoo, hco, hdo', heo, hiso, hno⟩ := id ho
  have hlen : eso.size = more.length := size_of_entries heo
  have hlend : esd.size = xs.length := size_of_entries hed
  unfold Builtin.Dict.mergeDict
  rw [if_neg (by simpa using hdo)]
  unfold Builtin.Dict.showsAll
  rw [if_neg (by rw [hoS]; exact Bool.false_ne_true)]
  refine wpAny_bind (wpAny_pure ?_)
  refine wpAny_bind (wpAny_dictEntries hoo hdo' ?_)
  dsimp only
  split
  refine wpAny_bind (wpAny_dictEntries hod hdd ?_)
  split
  · rename_i hz
    have h0 : esd = #[] := Array.isEmpty_iff.mp hz
    have hx0 : xs = [] := List.length_eq_zero_iff.mp (by rw [← hlend, h0]; rfl)
    have hm0 := hemp hx0
    subst hx0 hm0
    have he0 : eso = #[] := Array.eq_empty_of_size_eq_zero (by rw [hlen]; rfl)
    subst he0
    refine wpAny_bind (wpAny_entriesForEmpty (knd := intKind prog w) hoo hdo' (fun e he => by simp at he) ?_)
    exact wpAny_pure (hQ _ hd (Heap.SameBut.refl _ _))
  all_goals
    refine wpAny_bind (wpAny_dictEpoch hoo hdo' (wpAny_bind (wpAny_dictEntries hoo hdo' (wpAny_bind ?_))))
    rw [Std.Legacy.Range.forIn_eq_forIn_range']; simp only [Std.Legacy.Range.size, Nat.sub_zero, Nat.add_sub_cancel, Nat.div_one]
    refine wpAny_forIn_list _ (fun rest _ s' => ∃ h' i, s' = { s with heap := h' } ∧ rest = List.range' i (eso.size - i) ∧ i ≤ eso.size ∧ h'.DictOfH knd d (mergedH xs (more.take i)) ∧ Heap.SameBut d s.heap h') _ ?_ ?_ _ _
      ⟨s.heap, 0, rfl, by simp, Nat.zero_le _, by simpa [mergedH] using hd, Heap.SameBut.refl _ _⟩
    · rintro x rest b s' ⟨h', i, rfl, hr, hi, hd', hs'⟩
      have hlt : i < eso.size := by
        rcases Nat.lt_or_ge i eso.size with h | h
        · exact h
        · rw [Nat.sub_eq_zero_of_le h] at hr; cases hr
      obtain ⟨rfl, hrest⟩ : x = i ∧ rest = List.range' (i + 1) (eso.size - (i + 1)) := by
        rw [show eso.size - i = (eso.size - (i + 1)) + 1 by omega, List.range'_succ] at hr
        injection hr with h1 h2
        exact ⟨h1, h2⟩
      have hoo' : h'.get? o = some oo := (hs'.2 o (Ne.symm hdo)).trans hoo
      obtain ⟨y, hy⟩ : ∃ y, more[x]? = some y := ⟨more[x]'(by rw [← hlen]; exact hlt), List.getElem?_eq_getElem _⟩
      obtain ⟨k, a, v⟩ := y
      have hex : eso[x]? = some ⟨knd.hash k, .ref a, v⟩ := by rw [entry_at heo x, hy]; rfl
      have hka : knd.is h' k a := knd.keeps (hiso _ (List.mem_of_getElem? hy)) hod hdd hs'
      refine wpAny_bind (wpAny_dictEntries (s := { s with heap := h' }) hoo' hdo' ?_)
      rw [hex]
      have hmx : (mergedH xs (more.take x)).length ≤ sizeLine := by
        have e1 := mergedH_len (more.take x) xs
        have e2 : (more.take x).length ≤ more.length := by rw [List.length_take]; omega
        omega
      refine wpAny_bind (wpAny_holding (setHashedH (s := { s with heap := h' }) hu hka hd' (fun h'' hd'' hs'' => ?_) hmx))
      have hoo'' : h''.get? o = some oo := (hs''.2 o (Ne.symm hdo)).trans hoo'
      refine wpAny_bind (wpAny_dictEpoch (s := { s with heap := h'' }) hoo'' hdo' ?_)
      rw [if_neg (by simp)]
      exact wpAny_pure ⟨h'', x + 1, rfl, hrest, hlt, by rw [mergedH_snoc xs more x (k, a, v) hy]; exact hd'', hs'.trans hs''⟩
    · rintro b s' ⟨h', i, rfl, hr, hi, hd', hs'⟩
      have hin : i = eso.size := by
        rcases Nat.lt_or_ge i eso.size with h | h
        · rw [show eso.size - i = (eso.size - (i + 1)) + 1 by omega, List.range'_succ] at hr; cases hr
        · exact Nat.le_antisymm hi h
      refine wpAny_pure (hQ h' ?_ hs')
      rw [hin, hlen, List.take_length] at hd'
      exact hd'
theorem meets_updateH (knd : HeapKind prog w κ) (d o : Addr) (hdo : d ≠ o) (hoS : (o == sysModules) = false) :
    MeetsIn prog w (Builtin.«dict.update» ⟨[.ref d, .ref o], []⟩) (fun A R s => ∃ xs more, knd.room A.in1 ∧ s.heap.DictOfH knd d xs ∧ s.heap.DictOfH knd o more ∧ (xs = [] → more = []) ∧ xs.length + more.length ≤ sizeLine ∧
      ∀ h', h'.DictOfH knd d (mergedH xs more) → Heap.SameBut d s.heap h' → R (.ok (.ret .none)) { s with heap := h' }) :=
  .of_wp fun A R s ⟨xs, more, hu, hd, ho, hemp, hsz, h⟩ => by
    unfold Builtin.«dict.update»
    refine wpAny_bind ?_
    unfold Builtin.Dict.selfAndRest
    refine wpAny_bind (wpAny_notOrdered_dict hd.typeIs (wpAny_pure ?_))
    show wpAny _ _ (Builtin.Dict.updateFrom "dict.update" d (.ref o) [] .none) _ _ s
    unfold Builtin.Dict.updateFrom
    refine wpAny_bind (wpAny_typeOf ho.typeIs ?_)
    rw [if_neg (by decide)]
    refine wpAny_bind ?_
    unfold Builtin.Dict.merge
    refine wpAny_bind ?_
    unfold Builtin.Dict.readDirectly
    refine wpAny_bind (wpAny_isInstance ho.typeIs isSubtype_dict_dict ?_)
    simp only [Bool.not_true, Bool.false_eq_true, if_false]
    refine wpAny_bind (wpAny_specialOf ho.typeIs F.slot_dict_iter.lookup (wpAny_pure ?_))
    simp only [beq_self_eq_true, if_true]
    refine wpAny_bind (wpAny_pure (mergeH hu hdo hoS hd ho hemp (fun h' hd' hs' => ?_) hsz))
    exact wpAny_bind (wpAny_pure (wpAny_pure ⟨.none, rfl, h h' hd' hs'⟩))
end
end L2
namespace L2
open PySem PySem.Spec PyProof.Rows
section
variable {κ : Type} [DecidableEq κ]
theorem map_putAt_off {k : κ} {v : Value} : ∀ {xs : List (κ × Addr × Value)}, ¬ k ∈ xs.map (·.1) → xs.map (putAt k v) = xs
  | [], _ => rfl
  | x :: r, h => by
    have h1 : ¬ x.1 = k := fun e => h (by rw [List.map_cons, e]; exact List.mem_cons_self)
    have h2 : ¬ k ∈ r.map (·.1) := fun m => h (by rw [List.map_cons]; exact List.mem_cons_of_mem _ m)
    rw [List.map_cons, map_putAt_off h2]
    unfold putAt
    rw [if_neg h1]
def zipH (xs ys : List (κ × Addr × Value)) : List (κ × Addr × Value) := List.zipWith (fun x y => (x.1, x.2.1, y.2.2)) xs ys
theorem mergedH_same : ∀ (xs ys pre : List (κ × Addr × Value)), xs.map (·.1) = ys.map (·.1) → ((pre ++ xs).map (·.1)).Nodup → mergedH (pre ++ xs) ys = pre ++ zipH xs ys
  | [], [], pre, _, _ => rfl
  | [], _ :: _, _, h, _ => by simp at h
  | _ :: _, [], _, h, _ => by simp at h
  | x :: xs, y :: ys, pre, h, hn => by
    rw [List.map_cons, List.map_cons] at h
    injection h with h1 h2
    have hn' := hn
    rw [List.map_append, List.map_cons] at hn
    have n1 : ¬ x.1 ∈ pre.map (·.1) := fun m => (List.nodup_append.mp hn).2.2 _ m _ List.mem_cons_self rfl
    have n2 : ¬ x.1 ∈ xs.map (·.1) := (List.nodup_cons.mp (List.nodup_append.mp hn).2.1).1
    have hat : (atKey (pre ++ x :: xs) y.1).isSome = true := by
      unfold atKey
      rw [Option.isSome_map, List.find?_isSome]
      exact ⟨x, by simp, by simp [h1]⟩
    have e : storedH (pre ++ x :: xs) y.1 y.2.1 y.2.2 = (pre ++ [(x.1, x.2.1, y.2.2)]) ++ xs := by
      unfold storedH
      rw [if_pos hat, ← h1, List.map_append, List.map_cons, map_putAt_off n1, map_putAt_off n2]
      have : putAt x.1 y.2.2 x = (x.1, x.2.1, y.2.2) := by unfold putAt; rw [if_pos rfl]
      rw [this, List.append_assoc]
      rfl
    show mergedH (storedH (pre ++ x :: xs) y.1 y.2.1 y.2.2) ys = _
    rw [e, mergedH_same xs ys (pre ++ [(x.1, x.2.1, y.2.2)]) h2 (by
      rw [List.map_append, List.map_append] at *
      simpa using hn'), List.append_assoc]
    rfl
end
theorem KT.keys {H : Hp} : ∀ {kvs : List (List Key × V)} {xs : List (List Key × Addr × Value)}, KT H kvs xs → kvs.map (·.1) = xs.map (·.1)
  | _, _, .nil => rfl
  | _, _, .cons h t => by rw [List.map_cons, List.map_cons, h.1, KT.keys t]
theorem KT.zip {H : Hp} : ∀ {kvs more : List (List Key × V)} {xs ys : List (List Key × Addr × Value)}, KT H kvs xs → KT H more ys → kvs.map (·.1) = more.map (·.1) → KT H more (zipH xs ys)
  | _, _, _, _, .nil, .nil, _ => .nil
  | _, _, _, _, .nil, .cons _ _, h => by simp at h
  | _, _, _, _, .cons _ _, .nil, h => by simp at h
  | _, _, _, _, .cons a s, .cons b t, h => by
    rw [List.map_cons, List.map_cons] at h
    injection h with h1 h2
    refine .cons ⟨?_, ?_, b.2.2⟩ (KT.zip s t h2)
    · show _ = _; rw [← h1]; exact a.1
    · show H _ = _; rw [← h1]; exact a.2.1
section
variable {X : Cx}
def rUpdT : V → List V → Hp → VK → Prop := fun x vs H Q => ∃ d o kvs more, x = .ref d ∧ vs = [.ref o] ∧ d ≠ o ∧ H d = some (.dT kvs) ∧ H o = some (.dT more) ∧ kvs.map (·.1) = more.map (·.1) ∧ kvs.length + more.length ≤ sizeLine ∧ Q .non (upd H d (.dT more))
theorem mt_updT (hu : X.A.units + 1 < cLine) : MtR X "dict.update" rUpdT := by
  intro pins s σ H x vs v us Q I rx rv h
  obtain ⟨d, o, kvs, more, rfl, rfl, hne, hd, ho, hk, hz, q⟩ := h
  cases rx
  obtain ⟨u, rfl, ru⟩ := rv.one
  cases ru
  obtain ⟨z, s1, xs, rel, dd⟩ := dt_of I.hok hd
  obtain ⟨z2, s2, ys, rel2, dd2⟩ := dt_of I.hok ho
  have l1 : kvs.length = xs.length := Paired.length rel
  have l2 : more.length = ys.length := Paired.length rel2
  have lk : kvs.length = more.length := by have := congrArg List.length hk; simpa using this
  have hxy : xs.map (·.1) = ys.map (·.1) := by rw [← rel.keys, ← rel2.keys]; exact hk
  have hnd : (xs.map (·.1)).Nodup := let ⟨_, _, _, _, _, _, _, _, n⟩ := dd; n
  refine call_meetsIn F.slot_dict_update dd.typeIs F.entry_dict_update (F.args_dict_update_2 _ _) (meets_updateH (tupleKind (mixKind X.prog X.w)) d o hne s2)
    ⟨xs, ys, tupleKind_room_in1 hu, dd, dd2, fun e => List.length_eq_zero_iff.mp (by rw [← l2, ← lk, l1, e]; rfl), by omega, fun h' dd' hs => ?_⟩
  rw [show mergedH xs ys = zipH xs ys from mergedH_same xs ys [] hxy hnd] at dd'
  obtain ⟨ob, es, ep, hq, h2, h3, h4, _, h5⟩ := dd'
  refine ⟨.non, _, d_write (ob := .dT more) I (by rw [hd]; exact True.intro) hs ⟨ob, hq⟩ ⟨z2, s1, _, (rel.zip rel2 hk).keeps fun c zs ec => ?_, ob, es, ep, hq, h2, h3, h4, h5⟩, rfl, q⟩
  rw [upd_ne (ne_of ec hd (fun z => nomatch z))]
  exact ec
end
def ModD (P : Program) (w : World) (K : PySem.W.Frag) (a : Addr) (kvs : List (Key × V)) : Prop :=
  ∃ (o : Obj) (es : Array DictEntry) (ep : Nat) (vs : List (Key × Value)), K.lookup a = some o ∧ o.ExactDict ∧ o.data = .dict es ep ∧ KeysOf (mixKind P w) es ∧ Pairs (mixKind P w) es.toList vs ∧ (vs.map (·.1)).Nodup ∧ KV kvs vs
section
variable {X : Cx} {o i : Expr} {pos : Pos} {td ty : TE}
theorem ModD.dictOf {pins : List (Addr × Obj)} {σ : St} {H : Hp} {s : Shared} {a : Addr} {kvs : List (Key × V)} (I : Inv X pins σ H s) (m : ModD X.prog X.w X.K a kvs) : ∃ vs, KV kvs vs ∧ s.heap.DictOf (mixKind X.prog X.w) a vs := by
  obtain ⟨o, es, ep, vs, lk, ex, hd, hk, hp, hn, kv⟩ := m
  exact ⟨vs, kv, o, es, ep, I.kIn _ _ lk, ex, hd, hk, hp, hn⟩
def tMGet (P : Program) (w : World) (K : PySem.W.Frag) (td ty : TE) : TE := fun σ H Q => td σ H fun x H1 => ty σ H1 fun y H2 => ∃ a kvs k v, x = .ref a ∧ ModD P w K a kvs ∧ y = kV k ∧ valV kvs k = some v ∧ Q v H2
theorem pe_mget (ho : PE X o td) (hi : PE X i ty) (hs : NoSl i) : PE X (.Subscript o i pos) (tMGet X.prog X.w X.K td ty) := by
  intro pins s σ H Q I h
  refine subD_of F.slot_dict_getitem.lookup hs (thn (ho pins s σ H _ I h) fun ov s1 ⟨x, H1, I1, r1, h1⟩ => thn (hi pins s1 σ H1 _ I1 h1) fun iv s2 ⟨y, H2, I2, r2, a, kvs, k, v, ex, m, ey, l, q⟩ => ?_)
  subst ex ey
  cases (show ov = Value.ref a from r1)
  obtain ⟨vs, kv, dd⟩ := m.dictOf I2
  obtain ⟨w', hw, rw'⟩ := RelO.some_of (v := v) (o := valueAt vs k) (by rw [← l]; exact kv.val k)
  exact ⟨dd.typeIs, wpAny_getItem_of (kV_is r2) dd.mapOf hw ⟨v, H2, I2.tok _, rw', q⟩⟩
end
def unstar : Expr → Bool
  | .Starred .. => false
  | _ => true
theorem starEach_un {e : Expr} {es : List Expr} {env : Env} (h : unstar e = true) : starEach (e :: es) env = (false, eval e env) :: starEach es env := by
  cases e <;> first | rfl | (exact absurd h (by simp [unstar]))
theorem backTo_un {pos : Pos} {env : Env} : ∀ {es : List Expr}, es.all unstar = true → (backTo pos (starEach es env)).any (·.1) = false
  | [], _ => rfl
  | e :: es, h => by
    rw [List.all_cons, Bool.and_eq_true] at h
    rw [starEach_un h.1]
    show (false || (backTo pos (starEach es env)).any (·.1)) = false
    rw [backTo_un h.2]
    rfl
theorem pa {X : Cx} {e : Expr} {es : List Expr} {te : TE} {t : TA} (ha : PE X e te) (hr : PA X es t) (hs : unstar e = true := by rfl) : PA X (e :: es) (tCons te t) := pa_cons ha hr (starEach_un hs)
theorem pe_cb {X : Cx} {x : Str} {p pos : Pos} {e : Expr} {es : List Expr} {t : TA} {id : String} {r : List V → Hp → VK → Prop} (hc : CallR X (.builtin id) r) (hg : Gl X x) (hm : X.mg x = none) (hv : bootBuiltins x = some (.builtin id)) (ha : PA X (e :: es) t)
    (hn : x ≠ "__name__" := by decide) (hdb : (x == ("__debug__" : Str)) = false := by decide) (h1 : unstar e = true := by rfl) (h2 : es.all unstar = true := by rfl) : PE X (.Call (.Name x p) (e :: es) [] pos) (tCB r t) :=
  pe_callB hc hg hm hv ha hn hdb (starEach_un h1) (backTo_un h2)
structure QSs (X : Cx) (sts : List Stmt) (t : TS) : Prop where
  h : PSs X sts t
section
variable {X : Cx} {st : Stmt} {rest : List Stmt} {t u : TS} {pos : Pos}
theorem qss_nil : QSs X [] tNext := ⟨pss_nil⟩
theorem qss_cons (h1 : PS X st t) (h2 : QSs X rest u) : QSs X (st :: rest) (tSeq t u) := ⟨pss_cons h1 h2.h⟩
theorem qss_one (h1 : PS X st t) : QSs X [st] t := ⟨pss_one h1⟩
theorem qss_never {sts : List Stmt} : QSs X sts tNever := ⟨pss_never⟩
theorem ps_ifq {c : Expr} {a b : List Stmt} {tc : TT} (hc : PT X c tc) (ha : QSs X a t) (hb : QSs X b u) : PS X (.If c a b pos) (tIfS tc t u) := ps_if hc ha.h hb.h
theorem ps_forq {tg iter : Expr} {body : List Stmt} {wi : TI} {g : TG} {tb : TS} (hp : PassesOwn (model X.prog X.w) X.A X.env X.xe) (hc : X.calm = true) (hi : PI X tg iter wi) (hg : PG X tg g) (hb : QSs X body tb)
    (hs : ∀ x, foldedSetIterable iter X.env x = pure x := by intro _; rfl) : PS X (.For tg iter body [] pos) (tFor wi g tb) := ps_for hp hc hi hg hb.h hs
theorem ps_whileq {c : Expr} {body : List Stmt} {tc : TT} {tb : TS} (hp : PassesOwn (model X.prog X.w) X.A X.env X.xe) (hc : PT X c tc) (hb : QSs X body tb) : PS X (.While c body [] pos) (tWhile tc tb) := ps_while hp hc hb.h
end
section
variable {P : Program} {w : World} {K : PySem.W.Frag} {mg : Str → Option Value} {base : Heap}
theorem Fun.okq {x qual : Str} {st : Stmt} {f : Addr} {fd : FuncData} {N ps : List Str} {k : Nat} {sp : Sp} (F : Fun K x qual st f fd) (S : FnScope N ps (defScope st)) (len : ∀ vs H Q E, sp vs H Q E → vs.length = ps.length)
    (hbody : ∀ (cdv : Value) (A : Around) (outer : List Env) (s : Shared) (H : Hp) (vs : List V) (Q : VK) (E : XK), Room k (A.deeper (envOfC qual (defScope st) s.heap.objs.size f cdv)) → sp vs H Q E →
      ∃ t, QSs (cxOf CX0 P w K mg base N qual (defScope st) f cdv A outer s H E).nox (defBody st) t ∧ t { nx := fun _ H' => Q .non H', rt := Q } (start N vs) H) : FnOk P w K mg base CX0 (k + 1) f fd ps sp :=
  F.ok S len fun cdv A outer s H vs Q E hr h => let ⟨t, h1, h2⟩ := hbody cdv A outer s H vs Q E hr h; ⟨t, h1.h, h2⟩
end
structure DefAt (P : Program) (w : World) (K : PySem.W.Frag) (mg : Str → Option Value) (base : Heap) (k : Nat) (name : Str) (ps : List Str) (sp : Sp) : Prop where
  ex : ∃ f fd, FnOk P w K mg base CX0 k f fd ps sp ∧ mg name = some (.ref f) ∧ PySem.W.keepIn K (.ref f) = true ∧ Binds K fd ps []
structure MethAt (P : Program) (w : World) (K : PySem.W.Frag) (mg : Str → Option Value) (base : Heap) (k : Nat) (C : Addr) (m : Str) (ps : List Str) (sp : Sp) : Prop where
  ex : ∃ f fd, FnOk P w K mg base CX0 k f fd ps sp ∧ Meth K C m f ∧ Binds K fd ps []
structure ClassAt (P : Program) (w : World) (K : PySem.W.Frag) (mg : Str → Option Value) (base : Heap) (k : Nat) (C : Addr) (name : Str) (ps : List Str) (sp : Sp) : Prop where
  ex : ∃ f fd, FnOk P w K mg base CX0 k f fd ps sp ∧ Mk K C f ∧ mg name = some (.ref C) ∧ Binds K fd ps []
section
variable {X : Cx} {k j : Nat} {C : Addr} {name m : Str} {ps : List Str} {sp : Sp} {p pos apos : Pos} {e o : Expr} {es : List Expr} {ta : TE} {t : TA}
theorem pe_def (D : DefAt X.prog X.w X.K X.mg X.base k name ps sp) (hr : Room j X.A) (ha : PA X (e :: es) t) (hj : k ≤ j := by decide) (hg : Gl X name := by rfl) (hdb : (name == ("__debug__" : Str)) = false := by decide)
    (h1 : unstar e = true := by rfl) (h2 : es.all unstar = true := by rfl) :
    PE X (.Call (.Name name p) (e :: es) [] pos) (tCall sp [] E0 t) := by
  obtain ⟨f, fd, F, hm, hk, hb⟩ := D.ex
  exact pe_call F (hr.mono hj) hg hm hk hb .nil pass0 ha hdb (starEach_un h1) (backTo_un h2)
theorem pe_mth {pl : Sem Bool} (ho : PE X o ta) (c : Cls X.K C) (D : MethAt X.prog X.w X.K X.mg X.base k C m ps sp) (hr : Room j X.A) (ha : PA X (e :: es) t) (hj : k ≤ j := by decide)
    (h1 : unstar e = true := by rfl) (h2 : es.all unstar = true := by rfl)
    (ht : eval (.Call (.Attribute o m apos) (e :: es) [] pos) X.env = (do
      let ov ← eval o X.env
      standAt apos.atName
      let (f, first) ← holding [ov] (getMethod ov m pl)
      callWith pos f first (backTo pos (starEach (e :: es) X.env)) (backToKw pos (keywordEach [] X.env))) := by rfl) :
    PE X (.Call (.Attribute o m apos) (e :: es) [] pos) (tMeth C m sp [] E0 ta t) := by
  obtain ⟨f, fd, F, hm, hb⟩ := D.ex
  exact pe_meth ho c hm F (hr.mono hj) hb .nil pass0 ha (starEach_un h1) (backTo_un h2) ht
theorem pe_mk (D : ClassAt X.prog X.w X.K X.mg X.base k C name ps sp) (hr : Room j X.A) (ha : PA X (e :: es) t) (hj : k + 1 ≤ j := by decide) (hg : Gl X name := by rfl) (hdb : (name == ("__debug__" : Str)) = false := by decide)
    (h1 : unstar e = true := by rfl) (h2 : es.all unstar = true := by rfl) :
    PE X (.Call (.Name name p) (e :: es) [] pos) (tMake C sp [] E0 t) := by
  obtain ⟨f, fd, F, hM, hm, hb⟩ := D.ex
  exact pe_make hM F (hr.mono hj) hg hm hb .nil pass0 ha hdb (starEach_un h1) (backTo_un h2)
end
end L2
namespace L2
open PySem PySem.W PySem.Calls PySem.Spec PyProof.Rows
theorem ofPys_ints : ∀ ns : List Int, ofPys (ns.map PyData.int) = ns.map WData.int
  | [] => by simp [ofPys]
  | n :: ns => by
    rw [List.map_cons, List.map_cons, ← ofPys_ints ns]
    simp [ofPys, ofPy]
theorem ofPy_ints (ns : List Int) : ofPy (PyData.list (ns.map PyData.int)) = WData.list (ns.map WData.int) := by
  rw [← ofPys_ints ns]
  simp [ofPy]
theorem low_of {K : Frag} {z : Str} {t tt : Nat} (g : nsIn K mainGlobals "NO_MIRROR" = some (some (.str z t))) (h : t + 1 ≤ tt) : lowT K ≤ tt := by
  unfold lowT
  rw [g]
  exact h
theorem lt_low {K : Frag} {z : Str} {t : Nat} (g : nsIn K mainGlobals "NO_MIRROR" = some (some (.str z t))) : t < lowT K := by
  unfold lowT
  rw [g]
  exact Nat.lt_succ_self t
theorem walkX_of {l : OpenLaw} {n k : Nat} {q : Program} {loose : List Str} {XP : (Str → Option Value) → Heap → Prop} {as0 : List Addr} {K : Params → Frag} {nn tt : Nat} {d : DefRec} {sp : Frag → Sp} {x : Str}
    (hn : l.most = some n) (hn2 : n ≤ sizeLine) (hdf : d.params.defaults = []) (hr : Room k callerA) (hkeys : ∀ P, as0 = (K P).map (·.1)) (hlow : ∀ w : World, lowT (K w.params) ≤ tt)
    (F : ∀ (w : World) (mg : Str → Option Value) (fa : Addr) (h : Heap), (K w.params).In h → h.Ns mainGlobals mg → mg d.name = some (.ref fa) →
      ∃ fd : FuncData, (∀ (s : Shared) (u : Value), BindsTo s fd ⟨[u], []⟩ [(x, u)]) ∧ ∀ base : Heap, (K w.params).In base → base.Ns mainGlobals mg → FnOk l.prog w (K w.params) mg base CX0 k fa fd [x] (sp (K w.params)))
    (hsp : ∀ (K : Frag) (H : Hp) (a : Addr) (ns : List Int), ns.length ≤ n → Only H → SqL K H a (ns.map V.int) → sp K [.ref a] H (fun v _ => v = .bl true) fun _ _ _ => False) :
    WalkX q loose XP (X.obsZ as0) (X.valZ K nn tt) l.row.toRowW d [] (fun f vs => PySem.call f vs) := by
  intro w s₀ s₁ mg mb G y fa o pm cd doc dV kV ho hd hcd hD hmg hg args vals as L hpre hlay hrd hwl hlo
  obtain ⟨a, vs, ns, rfl, rfl, hobj, hints, hlen⟩ := Att.script_of hn hpre hwl
  obtain ⟨_, ZI, _, ZT⟩ := X.z_facts hkeys y
  have KX : (K w.params).In s₁.heap := InK.keeps w _ _ ZI L.keeps
  have htk : tt ≤ s₁.toks := X.script_toks (ns := ns) (by rw [ofPy_ints]; exact L) ZT
  obtain ⟨fd, hb, hF⟩ := F w mg fa _ KX G.T.g hmg
  refine enter_call (codeAny_mono (law_call KX G.T.g G.T.b G.T.builtins G.T.nolimit hg (Nat.le_trans (hlow w) htk) hobj hints (Nat.le_trans hlen hn2) hr hF hb (fun H hO hS => hsp _ H a ns hlen hO hS) fun _ _ _ z => z) fun r s' hq => ?_)
  obtain ⟨rfl, h2, h3, h4⟩ := hq
  refine ⟨.inl ⟨.bool true, .bool true, [], rfl, fun _ => rfl, .bool true, Att.post_true l _, fun _ => ?_⟩, h2, h3, h4⟩
  exact ⟨List.Pairwise.nil, fun _ hm => (nomatch hm)⟩
end L2
namespace L2
open PySem PySem.Spec PyProof.Rows
def RawD (h : Heap) (d : Addr) (es : Array DictEntry) (ep : Nat) : Prop := ∃ o, h.get? d = some o ∧ o.ExactDict ∧ o.data = .dict es ep
section
variable {prog : Program} {w : World} {A : Around} {E : Value → Shared → Prop} {s : Shared} {tb wk : Addr} {es : Array DictEntry} {ep i : Nat}
theorem RawD.ty (x : RawD s.heap tb es ep) : s.TypeIs (.ref tb) "dict" := let ⟨o, ho, hc, _⟩ := x; ⟨o, ho, hc.1⟩
theorem RawD.lt {h : Heap} (x : RawD h tb es ep) : tb < h.objs.size := let ⟨_, ho, _⟩ := x; Heap.lt_size ho
theorem RawD.to {h h' : Heap} (x : RawD h tb es ep) (e : ∀ o, h.get? tb = some o → h'.get? tb = some o) : RawD h' tb es ep := let ⟨o, ho, r⟩ := x; ⟨o, e o ho, r⟩
theorem raw_iter {Q : Value → Shared → Prop} (lo : (tb == sysModules) = false) (x : RawD s.heap tb es ep)
    (q : Q (.ref s.heap.objs.size) { s with heap := s.heap.push { cls := .type "dict_keyiterator", data := .fields #[.ref tb, .int 0 0, .int es.size 0, .int ep 0] } }) :
    wpAny (model prog w) A (pyIter (.ref tb)) Q E s := by
  have ty := x.ty
  obtain ⟨o, g, xc, dat⟩ := x
  apply wpAny_pyIter_slot ty F.slot_dict_iter
  apply wpAny_call_entry F.slot_dict_iter ty F.entry_dict_iter _ (F.args_dict_iter_1 _)
  unfold Builtin.«dict.__iter__» Builtin.Dict.dictSlotNone
  apply wpAny_bind; apply wpAny_bind; apply wpAny_notOrdered_dict ty
  change wpAny _ _ (pure (Value.ref tb)) _ _ s
  apply wpAny_pure
  change wpAny _ _ (Builtin.Dict.showsAll tb >>= _) _ _ s
  rw [show Builtin.Dict.showsAll tb = pure () from by unfold Builtin.Dict.showsAll; rw [lo]; rfl]
  apply wpAny_bind; apply wpAny_pure
  apply wpAny_bind; apply wpAny_dictEntries g dat
  apply wpAny_bind; apply wpAny_dictEpoch g dat
  refine wpAny_bind (wpAny_newObj_type ?_); apply wpAny_pure
  exact ⟨_, rfl, "dict_keyiterator", _, ⟨_, Heap.get?_push_size _ rfl, rfl⟩, F.slot_dict_keyiterator_next.lookup, by simpa [rawInt] using q⟩
theorem raw_next {Q : Option Value → Shared → Prop} (hi : s.heap.IsKeyIter wk tb i es.size ep) (x : RawD s.heap tb es ep) (lt : i < es.size)
    (q : ∀ h', h'.IsKeyIter wk tb (i + 1) es.size ep → Heap.SameBut wk s.heap h' → Q (some es[i].key) { s with heap := h' }) :
    wpAny (model prog w) A (pyNext (.ref wk)) Q E s := by
  have ty := hi.typeIs
  obtain ⟨o, g, xc, dat⟩ := x
  obtain ⟨p, gp, cp, dp⟩ := hi
  have own : Builtin.Dict_items.ownsTuple "dict_keyiterator" = false := by decide
  unfold pyNext
  apply wpAny_bind; apply wpAny_attempt
  apply wpAny_callSpecial?_slot (name := Str.ofString "__next__") ty F.slot_dict_keyiterator_next
  apply wpAny_call_entry F.slot_dict_keyiterator_next ty F.entry_dict_keyiterator_next _ (F.args_dict_keyiterator_next_1 _)
  apply wpAny_bind; apply wpAny_pure; apply wpAny_bind; apply wpAny_bind
  apply wpAny_bind; apply wpAny_typeNameOfWhole_keyiter ty; apply wpAny_pure
  apply wpAny_bind; apply wpAny_fieldsOf gp dp
  simp only [own, Bool.false_eq_true, if_false]
  change wpAny _ _ (if (Value.ref tb == Value.none) = true then _ else _) _ _ s
  rw [show (Value.ref tb == Value.none) = false from rfl]
  simp only [if_false, Bool.false_eq_true]
  apply wpAny_bind; apply wpAny_pure
  apply wpAny_bind; apply wpAny_dictEntries g dat
  rw [if_neg (by simp)]
  apply wpAny_bind; apply wpAny_pure
  apply wpAny_bind; apply wpAny_dictEpoch g dat
  rw [if_neg (by simp)]
  apply wpAny_pure
  have n0 : ¬ ((i : Int) < 0) := by omega
  simp only [n0, if_false, Int.toNat_natCast, Array.getElem?_eq_getElem lt]
  apply wpAny_bind; apply wpAny_bind; apply wpAny_typeNameOfWhole_keyiter ty; apply wpAny_pure
  apply wpAny_bind; apply wpAny_isOneOf_keyiter ty
  change wpAny _ _ (setField (.ref wk) 1 (rawInt ((i : Int) + 1)) >>= _) _ _ s
  refine wpAny_bind (wpAny_setField gp dp (by simp) ?_)
  have ni : (s.heap.update wk (Obj.mapFields (·.setIfInBounds 1 (rawInt ((i : Int) + 1))))).IsKeyIter wk tb (i + 1) es.size ep := by
    refine ⟨_, Heap.get?_update_self _ gp ?_, (Obj.cls_mapFields ..).trans cp, ?_⟩
    · exact Obj.isFreed_of_fields (Obj.data_mapFields dp _)
    · rw [Obj.data_mapFields dp]; simp [rawInt]
  apply wpAny_bind; apply wpAny_holding; apply wpAny_bind
  refine wpAny_isOneOf_keyiter (s := { s with heap := s.heap.update wk (Obj.mapFields (·.setIfInBounds 1 (rawInt ((i : Int) + 1)))) }) ni.typeIs ?_
  change wpAny _ _ (pure es[i].key) _ _ _
  apply wpAny_pure; apply wpAny_pure
  exact ⟨_, rfl, wpAny_pure (q _ ni (Heap.SameBut.update ..))⟩
theorem raw_end {Q : Option Value → Shared → Prop} (quiet : A.handled = none) (hi : s.heap.IsKeyIter wk tb es.size es.size ep) (x : RawD s.heap tb es ep)
    (q : ∀ h', Heap.ExtBut wk s.heap h' → Q none { s with heap := h' }) : wpAny (model prog w) A (pyNext (.ref wk)) Q E s := by
  have ty := hi.typeIs
  obtain ⟨o, g, xc, dat⟩ := x
  obtain ⟨p, gp, cp, dp⟩ := hi
  have own : Builtin.Dict_items.ownsTuple "dict_keyiterator" = false := by decide
  unfold pyNext
  apply wpAny_bind; apply wpAny_attempt
  apply wpAny_callSpecial?_slot (name := Str.ofString "__next__") ty F.slot_dict_keyiterator_next
  apply wpAny_call_entry F.slot_dict_keyiterator_next ty F.entry_dict_keyiterator_next _ (F.args_dict_keyiterator_next_1 _)
  apply wpAny_bind; apply wpAny_pure; apply wpAny_bind; apply wpAny_bind
  apply wpAny_bind; apply wpAny_typeNameOfWhole_keyiter ty; apply wpAny_pure
  apply wpAny_bind; apply wpAny_fieldsOf gp dp
  simp only [own, Bool.false_eq_true, if_false]
  change wpAny _ _ (if (Value.ref tb == Value.none) = true then _ else _) _ _ s
  rw [show (Value.ref tb == Value.none) = false from rfl]
  simp only [if_false, Bool.false_eq_true]
  apply wpAny_bind; apply wpAny_pure
  apply wpAny_bind; apply wpAny_dictEntries g dat
  rw [if_neg (by simp)]
  apply wpAny_bind; apply wpAny_pure
  apply wpAny_bind; apply wpAny_dictEpoch g dat
  rw [if_neg (by simp)]
  apply wpAny_pure
  have n0 : ¬ ((es.size : Int) < 0) := by omega
  simp only [n0, if_false, Int.toNat_natCast, Array.getElem?_eq_none (Nat.le_refl es.size)]
  apply wpAny_bind; apply wpAny_bind; apply wpAny_typeNameOfWhole_keyiter ty; apply wpAny_pure
  change wpAny _ _ (setField (.ref wk) 0 .none >>= _) _ _ s
  refine wpAny_bind (wpAny_setField gp dp (by simp) ?_)
  change wpAny _ _ (newExc (Value.type "StopIteration") [] >>= _) _ _ _
  apply wpAny_bind
  unfold newExc newTuple
  apply wpAny_bind; refine wpAny_newObj_type (hd := by size_fits) ?_
  refine wpAny_bind (m := firstArgMember _ _) ?_
  apply wpAny_of_eq (a := Value.none) (by simp only [firstArgMember]; rfl)
  refine wpAny_newObj_type (hd := by size_fits) ?_
  unfold raiseNew
  apply wpAny_bind; apply wpAny_handled
  rw [show A.in1.handled = none from quiet]
  refine (wpAny_bind (wpAny_pure (wpAny_throw ?_)) : wpAny _ _ _ _ _ _)
  apply wpAny_bind; refine wpAny_isInstance (b := true) (T := "StopIteration") ⟨_, Heap.get?_push_size _ rfl, rfl⟩ isSubtype_stop ?_
  exact wpAny_pure (q _ (((Heap.SameBut.update ..).extBut.push _).push _))
theorem raw_walks (quiet : A.handled = none) (ne : tb ≠ wk) :
    Walks prog w A wk [wk, tb] [wk] es.size (fun j v => ∃ e, es[j]? = some e ∧ v = e.key) (fun j h => h.IsKeyIter wk tb j es.size ep ∧ RawD h tb es ep) where
  sub := by intro b hb; rw [List.mem_singleton.mp hb]; exact List.mem_cons_self
  frame := by
    intro j h h' st k
    exact ⟨st.1.at (k wk List.mem_cons_self), st.2.to (k tb (by simp))⟩
  item := by
    intro j s Q E lt st q
    refine raw_next st.1 st.2 lt fun h' n sb => ?_
    exact q _ h' s.toks ⟨_, Array.getElem?_eq_getElem lt, rfl⟩ ⟨n, st.2.to fun o e => sb.extBut tb o ne e⟩ fun b o hb e => sb.extBut b o (fun z => hb (by simp [z])) e
  done := by
    intro s Q E st q
    refine raw_end quiet st.1 st.2 fun h' sb => ?_
    exact q h' s.toks fun b o hb e => sb b o (fun z => hb (by simp [z])) e
  self := by
    intro j s Q E st q
    exact wpAny_pyIter_keyiter st.1 q
theorem raw_src (lo : (tb == sysModules) = false) : PySem.W.KdlSrc prog w "dict" tb tb es.size (fun j v => ∃ e, es[j]? = some e ∧ v = e.key) (fun h => RawD h tb es ep) where
  type := by intro s x; exact x.ty
  there := by intro h x; exact ⟨x.lt, x.lt⟩
  keep := by intro h h' x k; exact x.to (k tb (.inl rfl))
  notList := rfl
  notTuple := rfl
  hint := by intro A E s Q x q; exact PySem.W.kdl_hint_dict x.ty q
  iter := by
    intro A s quiet x
    refine ⟨_, _, fun E Q q => raw_iter lo x q, raw_walks (ep := ep) quiet (Nat.ne_of_lt x.lt), ?_⟩
    exact ⟨⟨_, Heap.get?_push_size _ rfl, rfl, rfl⟩, x.to fun o e => Heap.get?_push_of_some _ e⟩
end
section
variable {X : Cx}
def AtKeys (H : Hp) : List (List Key) → List Addr → Prop
  | [], [] => True
  | k :: ks, a :: as => H a = some (.tup (k.map kV)) ∧ AtKeys H ks as
  | _, _ => False
theorem atKeys_of {H : Hp} {kvs : List (List Key × V)} {xs : List (List Key × Addr × Value)} (h : KT H kvs xs) : AtKeys H (kvs.map (·.1)) (xs.map (·.2.1)) := by
  induction h with
  | nil => trivial
  | cons hq _ ih => exact ⟨hq.2.1, ih⟩
theorem AtKeys.len {H : Hp} : ∀ {ks : List (List Key)} {as : List Addr}, AtKeys H ks as → as.length = ks.length
  | [], [], _ => rfl
  | _ :: _, _ :: _, h => by rw [List.length_cons, List.length_cons, h.2.len]
  | [], _ :: _, h => h.elim
  | _ :: _, [], h => h.elim
theorem vals_refs : ∀ (as : List Addr), Vals (as.map V.ref) (as.map Value.ref)
  | [] => .nil
  | a :: as => .cons rfl (vals_refs as)
def rListT : List V → Hp → VK → Prop := fun xs H Q => ∃ p kvs, xs = [.ref p] ∧ Rd H p (.dT kvs) ∧ ∀ ads, AtKeys H (kvs.map (·.1)) ads → ∀ l, H l = none → Q (.ref l) (upd H l (.lst (ads.map .ref)))
theorem call_listT (hh : X.A.handled = none) : CallR X (.type "list") rListT := by
  intro pins s σ H xs us Q I r h
  obtain ⟨p, kvs, rfl, hd, q⟩ := h
  obtain ⟨u, rfl, rx⟩ := vals1 r
  cases rx
  obtain ⟨hz, lo, xs, kt, o, es, ep, g, xc, dat, hes, -, -⟩ := dt_rd I.hok hd
  have ak := atKeys_of kt
  have hl : es.size = xs.length := size_of_entries hes
  have hl2 : xs.length = kvs.length := by have := ak.len; simpa using this
  refine with_toks (PySem.W.kdl_call (raw_src lo) hh ⟨o, g, xc, dat⟩ (by omega) fun h' tk acc c kp e io htk => ?_)
  have hacc : acc = ((xs.map (·.2.1)).map Value.ref).toArray := by
    apply Array.ext
    · rw [io.1]; simp [hl]
    · intro j h1 h2
      obtain ⟨e, he, hv⟩ := io.2 j acc[j] (Array.getElem?_eq_getElem h1)
      rw [entry_at hes] at he
      obtain ⟨y, hy, rfl⟩ := Option.map_eq_some_iff.mp he
      rw [hv]
      have hj : j < xs.length := by rw [← hl, ← io.1]; exact h1
      rw [List.getElem?_eq_getElem hj] at hy
      cases hy
      simp [entryOfKey]
  subst hacc
  refine ⟨.ref s.heap.objs.size, _, I.laid (t' := tk) kp ?_ (show ObjOk X.prog X.w _ h' _ (.lst ((xs.map (·.2.1)).map V.ref)) from ⟨by simp; omega, _, c, vals_refs _, e⟩), rfl, q _ ak _ (I.hok.fresh (Nat.le_refl _))⟩
  exact Nat.le_refl _
end
end L2
namespace L2
open PySem PySem.Spec PyProof.Rows
theorem pe_ct {X : Cx} {x : Str} {p pos : Pos} {e : Expr} {es : List Expr} {t : TA} {T : String} {r : List V → Hp → VK → Prop} (hc : CallR X (.type T) r) (hg : Gl X x) (hm : X.mg x = none) (hv : bootBuiltins x = some (.type T)) (ha : PA X (e :: es) t)
    (hn : x ≠ "__name__" := by decide) (hdb : (x == ("__debug__" : Str)) = false := by decide) (h1 : unstar e = true := by rfl) (h2 : es.all unstar = true := by rfl) : PE X (.Call (.Name x p) (e :: es) [] pos) (tCB r t) :=
  pe_callTy hc hg hm hv ha hn hdb (starEach_un h1) (backTo_un h2)
section
variable {X : Cx} {k j : Nat} {C : Addr} {m : Str} {ps : List Str} {sp : Sp} {pos apos : Pos} {o : Expr} {ta : TE}
theorem pe_mth0 {pl : Sem Bool} (ho : PE X o ta) (c : Cls X.K C) (D : MethAt X.prog X.w X.K X.mg X.base k C m ps sp) (hr : Room j X.A) (hj : k ≤ j := by decide)
    (ht : eval (.Call (.Attribute o m apos) [] [] pos) X.env = (do
      let ov ← eval o X.env
      standAt apos.atName
      let (f, first) ← holding [ov] (getMethod ov m pl)
      callWith pos f first (backTo pos (starEach [] X.env)) (backToKw pos (keywordEach [] X.env))) := by rfl) :
    PE X (.Call (.Attribute o m apos) [] [] pos) (tMeth C m sp [] E0 ta tNil) := by
  obtain ⟨f, fd, F, hm, hb⟩ := D.ex
  exact pe_meth0 ho c hm F (hr.mono hj) hb .nil pass0 ht
end
theorem pe_mgetC {X : Cx} {P : Program} {w : World} {K : PySem.W.Frag} {o i : Expr} {pos : Pos} {td ty : TE} (eP : X.prog = P) (ew : X.w = w) (eK : X.K = K) (ho : PE X o td) (hi : PE X i ty) (hs : NoSl i) : PE X (.Subscript o i pos) (tMGet P w K td ty) := by
  subst eP ew eK
  exact pe_mget ho hi hs
theorem ix_listC {X : Cx} {K : PySem.W.Frag} (eK : X.K = K) : IxR X (rIxL K) := by
  subst eK
  exact ix_list
theorem ix_tupC {X : Cx} {K : PySem.W.Frag} (eK : X.K = K) : IxR X (rIxT K) := by
  subst eK
  exact ix_tup
theorem iteE {A B : Prop} {x y : V} (e : x = y) (h : A) : if decide (x = y) = true then A else B := by rw [decide_eq_true e]; exact h
theorem iteN {A B : Prop} {x y : V} (e : ¬ x = y) (h : B) : if decide (x = y) = true then A else B := by rw [decide_eq_false e]; exact h
theorem comp_list {K : PySem.W.Frag} {a D : Addr} {xs : List V} {T : V → Hp → VK → Prop} {Q : Hp → Prop} {H1 : Hp} (Pv : Nat → List V → Hp → Prop) (hn : xs.length ≤ 1000) (h0 : Pv 0 [] (upd H1 D (.lst [])))
    (hl : ∀ i ys H, i ≤ xs.length → Pv i ys H → SqL K H a xs ∧ H D = some (.lst ys) ∧ ys.length = i)
    (hs : ∀ i x ys H (R : VK), xs[i]? = some x → Pv i ys H → (∀ v H4, H4 D = some (.lst ys) → Pv (i + 1) (ys ++ [v]) (upd H4 D (.lst (ys ++ [v]))) → R v H4) → T x H R)
    (hd : ∀ ys H, Pv xs.length ys H → Q H) :
    ∃ W : Nat → Nat → List V → Hp → Prop, (∃ m, W 0 m [] (upd H1 D (.lst []))) ∧ ∀ i m ys H2, W i m ys H2 → H2 D = some (.lst ys) ∧ (((Itl K a).stop i H2 ∧ Q H2) ∨ ((Itl K a).go i H2 ∧ ys.length < sizeLine ∧
      ∀ x H3, (Itl K a).yld i H2 x H3 → T x H3 fun v H4 => H4 D = some (.lst ys) ∧ ∃ m', m' < m ∧ W (i + 1) m' (ys ++ [v]) (upd H4 D (.lst (ys ++ [v]))))) := by
  refine ⟨fun i m ys H => m = xs.length - i ∧ i ≤ xs.length ∧ Pv i ys H, ⟨xs.length, by simp, Nat.zero_le _, h0⟩, ?_⟩
  rintro i m ys H ⟨rfl, hi, p⟩
  obtain ⟨q, hD, hy⟩ := hl i ys H hi p
  refine ⟨hD, ?_⟩
  by_cases hlt : i < xs.length
  · refine .inr ⟨⟨xs, xs[i], q, by simp [hlt]⟩, small1000 (by omega), fun x H' y => ?_⟩
    obtain ⟨e, y⟩ := y
    subst e
    exact hs i x ys _ _ (y xs q) p fun v H4 h4 p4 => ⟨h4, xs.length - (i + 1), by omega, rfl, hlt, p4⟩
  · have e : i = xs.length := by omega
    subst e
    exact .inl ⟨⟨xs, q, Nat.le_refl _⟩, hd ys H p⟩
end L2
namespace L2
open PySem PySem.Spec PyProof.Rows
section
variable {X : Cx} {pins : List (Addr × Obj)} {σ : St} {H : Hp} {s : Shared} {x : Str} {fvs : List (Str × Nat)} {scope : Scope} {cl : List (Str × Addr)} {fp : List Addr}
theorem comp_core {px : Pos} {iter elt : Expr} {pos ps : Pos} {wi : TI} {te : TE} {use : Option (Value → Sem Unit)} {QQ : Value → Shared → Prop} {Q : VK} (hc : X.calm = true) (hclos : closureFor scope X.env = pure cl) (hkind : scope.kind = .function)
    (hcell : ∀ y ∈ scope.names, y.2 ≠ .cell) (hnames : ∀ y ∈ scope.names, y.2 = .local → scope.names.lookup y.1 = some .local) (hx : scope.names.lookup x = some .local)
    (hcl : ClOk X cl) (hhas : ((relabel scope X.env).names.all fun p => (p.2 != .cell && p.2 != .free) || (cl.lookup p.1).isSome) = true) (hfv : FvOk X scope fvs)
    (hnd : (x :: fvs.map (·.1)).Nodup)
    (hi : PI X (.Name x px) iter wi) (he : ∀ (C : Addr) (s : Shared) (H : Hp) (fp : List Addr), PE (cxComp X (x :: fvs.map (·.1)) scope cl C s H fp) elt te)
    (hs : ∀ v, foldedSetIterable iter X.env v = pure v) (I : Inv X pins σ H s) (h : tComp wi fvs te σ H Q)
    (fin : ∀ (D C : Addr) (m : Str → Option Value) (s4 : Shared) (H3 : Hp), s4.heap.Ns C m → H3 C = none → C ≠ X.env.locals → X.s₀.heap.objs.size ≤ C → (∀ y c, X.env.cells.lookup y = some c → c ≠ C) → (∀ p ∈ X.pn ++ pins, p.1 ≠ C) →
      (∀ h', Heap.SameBut C s4.heap h' → Inv X pins σ H3 { s4 with heap := h' }) → Q (.ref D) H3 → compPost (model X.prog X.w) X.A X.xe use QQ (.ref D) C (.ok .next) s4) :
    wpAny (model X.prog X.w) X.A (comprehension (.ListComp elt [⟨.Name x px, iter, [], 0⟩] scope pos) scope X.env ps (newList []) false (eval iter X.env) use) QQ X.xe s := by
  have hcl' := hcl.look
  have hhas' : ∀ y, ((relabel scope X.env).names.lookup y = some .cell ∨ (relabel scope X.env).names.lookup y = some .free) → ∃ c, cl.lookup y = some c := fun y hy => by
    have aux : ∀ k, (k = NameKind.cell ∨ k = .free) → (relabel scope X.env).names.lookup y = some k → ∃ c, cl.lookup y = some c := fun k hk e => by
      have hm := List.all_eq_true.mp hhas _ (PySem.mem_of_lookup e)
      have : (cl.lookup y).isSome = true := by
        rcases hk with rfl | rfl <;> simpa using hm
      exact Option.isSome_iff_exists.mp this
    rcases hy with e | e
    · exact aux _ (.inl rfl) e
    · exact aux _ (.inr rfl) e
  refine wpAny_comprehension_free (use := use) rfl hs hclos hkind hnames (wpAny_mono (hi pins s σ H _ I h) (fun v s1 h1 => wpAny_mono h1 (fun itv s2 h2 => ?_) fun _ _ e => e) fun _ _ e => e)
  obtain ⟨it, fp, tn, J, H2, e, I2, T, st2, f2, h2⟩ := h2
  subst e
  refine wpAny_newObj_type (wpAny_newFunctionEnv hcell (by intro y hy; simp at hy) (fun h₁ hns hsb => ?_) hkind)
  dsimp only at hns hsb ⊢
  generalize hH2 : s2.heap.push { cls := .type "list", dict := none, data := .seq ([] : List Value).toArray } = Hp2 at hns hsb ⊢
  have hCsz : Hp2.objs.size = s2.heap.objs.size + 1 := by rw [← hH2, Heap.size_push]
  have hlt : s2.heap.objs.size < Hp2.objs.size := by rw [hCsz]; exact Nat.lt_succ_self _
  have old : ∀ b o, s2.heap.get? b = some o → h₁.get? b = some o := fun b o e =>
    hsb.extBut b o (Nat.ne_of_lt (Nat.lt_trans (Heap.lt_size e) hlt)) (Heap.get?_push_of_some _ (hH2 ▸ Heap.get?_push_of_some _ e))
  have hD : h₁.get? s2.heap.objs.size = some { cls := .type "list", data := .seq #[] 0 } :=
    hsb.extBut _ _ (Nat.ne_of_lt hlt) (Heap.get?_push_of_some _ (hH2 ▸ Heap.get?_push_size _ rfl))
  have hfp : ∀ b ∈ fp, ∃ o, s2.heap.get? b = some o := fun b hb => let ⟨o, e, _⟩ := T.obj 0 _ st2 b hb; ⟨o, e⟩
  have st1 : tn 0 h₁ := T.keep 0 _ _ st2 fun b _ o e => old b o e
  have J0 := comp_start (x := x) (tk := s2.toks + ([] : List (Str × Value)).length) I2 f2 hfp hlt hkind hcl' hhas' hfv old hD (by simpa using hns)
  have freshD : H2 s2.heap.objs.size = none := I2.hok.fresh (Nat.le_refl _)
  obtain ⟨W, ⟨m0, w0⟩, turn⟩ := h2 s2.heap.objs.size freshD
  generalize hXC : cxComp X (x :: fvs.map (·.1)) scope cl Hp2.objs.size s2 H2 fp = XC at J0
  have fpC : ∀ {H' : Hp}, (∀ b ∈ fp, H' b = none) → ∀ b ∈ fp, FpOk XC [] H' b := fun {H'} hn b hb => by
    subst hXC
    obtain ⟨o, eo⟩ := hfp b hb
    refine ⟨hn b hb, Nat.ne_of_lt (Nat.lt_trans (Heap.lt_size eo) hlt), fun z => ?_, .inl hb, fun y c e => (f2 b hb).2.2.2.2.1 y c (hcl' y c e), fun p hp => absurd (show p ∈ ([] : List (Addr × Obj)) from hp) (by simp)⟩
    rcases List.mem_cons.mp (I2.stkSub b z) with e | e
    · exact (f2 b hb).2.1 e
    · exact (f2 b hb).2.2.1 e
  have fpU : ∀ b ∈ fp, upd H2 s2.heap.objs.size (.lst []) b = none := fun b hb => by
    obtain ⟨o, eo⟩ := hfp b hb
    rw [upd_ne (Nat.ne_of_lt (Heap.lt_size eo))]
    exact (f2 b hb).1
  have loop : codeAny (model X.prog X.w) X.A (.compLoop (.ListComp elt [⟨.Name x px, iter, [], 0⟩] scope pos) 0 (.ref it) (.ref s2.heap.objs.size) (compEnvC scope cl Hp2.objs.size X.env))
      (compPost (model X.prog X.w) X.A X.xe use QQ (.ref s2.heap.objs.size) Hp2.objs.size) { s2 with heap := h₁, toks := s2.toks + ([] : List (Str × Value)).length } := by
    refine codeAny_compLoop_list (fun n s' => ∃ i ys H', Inv XC [] (compσ σ fvs) H' s' ∧ tn i s'.heap ∧ (∀ b ∈ fp, H' b = none) ∧ W i n ys H') ?_ m0 ⟨0, [], _, J0, st1, fpU, w0⟩
    rintro n s3 ⟨i, ys, H3, I3, st3, fr3, w3⟩
    obtain ⟨hD3, alt⟩ := turn i n ys H3 w3
    have hprog : XC.prog = X.prog := by subst hXC; rfl
    have hw : XC.w = X.w := by subst hXC; rfl
    have hK : XC.K = X.K := by subst hXC; rfl
    have hA : XC.A = X.A := by subst hXC; rfl
    have hcalm : XC.calm = true := by subst hXC; exact hc
    have hN : XC.N = x :: fvs.map (·.1) := by subst hXC; rfl
    have henv : XC.env = compEnvC scope cl Hp2.objs.size X.env := by subst hXC; rfl
    have hxl : (relabel scope X.env).names.lookup x = some .local := lookup_relabel_local hx
    rcases alt with ⟨stop, q⟩ | ⟨go, hlen, step⟩
    · have q1 := T.done XC hprog hw hK hcalm i [] s3 _ H3 (fun _ _ => False) I3 (fpC fr3) st3 stop
      rw [hA] at q1
      refine wpAny_mono q1 (fun r s4 ⟨hr, I4⟩ => ?_) fun _ _ z => z.elim
      subst hr
      obtain ⟨m, hm, _⟩ := I4.loc
      rw [henv] at hm
      have ub := I4.base
      have e1 : XC.fs = frs X.stack := by subst hXC; rfl
      have e2 : XC.ex = fp := by subst hXC; rfl
      have e3 : XC.H₀ = H2 := by subst hXC; rfl
      have e4 : XC.s₀ = s2 := by subst hXC; rfl
      have tk4 : s2.toks ≤ s4.toks := by have z := I4.tk; rw [e4] at z; exact z
      have fC : H3 Hp2.objs.size = none := by have := I4.free; rw [henv] at this; exact this
      rw [e1, e2, e3, e4] at ub
      have ne : ∀ b o, s2.heap.get? b = some o → b ≠ Hp2.objs.size := fun b o e => Nat.ne_of_lt (Nat.lt_trans (Heap.lt_size e) hlt)
      have hok4 : HOk X.prog X.w H3 s4.heap := by have := I4.hok; rw [hprog, hw] at this; exact this
      refine fin _ Hp2.objs.size m s4 H3 hm fC (fun z => absurd (Nat.lt_trans I2.lt hlt) (by rw [← z]; exact Nat.lt_irrefl _)) (Nat.le_trans I2.sz (Nat.le_of_lt hlt)) (fun y c e z => ?_) (fun p hp z => ?_) (fun h' hs' => ?_) q
      · obtain ⟨v, qc⟩ := I2.cell y c e
        exact absurd (Nat.lt_trans qc.lt hlt) (by rw [← z]; exact Nat.lt_irrefl _)
      · exact absurd (Nat.lt_trans (Heap.lt_size (I2.pin p hp).1) hlt) (by rw [← z]; exact Nat.lt_irrefl _)
      · refine I2.call' (s' := { s4 with heap := h' }) (ch := fp) (by show s4.os = s2.os; have := I4.os; rw [e4] at this; exact this) ?_ ?_ I4.bare fun b hb => ⟨(f2 b hb).2.2.2.1, (f2 b hb).2.1, (f2 b hb).2.2.2.2.1, (f2 b hb).2.2.2.2.2⟩
        · exact ⟨fun b o e n h1 h2 => (hs'.2 b (ne b o e)).trans (ub.keep b o e n h1 h2), fun b o e n h1 h2 => let ⟨sl, z⟩ := ub.slot b o e n h1 h2; ⟨sl, (hs'.2 b (ne b o e)).trans z⟩, ub.free,
            fun b o e h1 => let ⟨o', z⟩ := ub.there b o e h1; ⟨o', (hs'.2 b (ne b o e)).trans z⟩, ub.tups, ub.frzs, ub.tbls⟩
        · exact fun a o e => (hok4 a o e).stay (fun b u hb q => (hs'.2 b (fun z => by
            subst z
            rcases hb with rfl | hb
            · rw [fC] at e; cases e
            · rw [fC] at hb; cases hb)).trans q) (fun _ q => q) fun _ _ q => q
    · have q1 := T.item XC hprog hw hK hcalm i [] s3 _ H3 (fun _ _ => False) I3 (fpC fr3) st3 go
      rw [hA] at q1
      refine wpAny_mono q1 (fun r s4 ⟨u, hr, h4⟩ => ?_) fun _ _ z => z.elim
      subst hr
      dsimp only
      refine then_pure (a := ()) h4 fun ⟨y, H5, I5, r5, y5, st5, fr5⟩ => ?_
      have I5' := I5.pinned (fpC fr5) (T.obj _ _ st5)
      have q2 := pg_name (X := XC) (i := 0) (x := x) (pos := px) (by rw [hN]; exact hnd) (by rw [hN]; rfl) (.inl (by rw [henv]; exact hxl)) (.inr (by rw [henv]; exact hxl)) _ s4 _ H5 y u (fun σ6 H6 => σ6 = (compσ σ fvs).set 0 (some y) ∧ te σ6 H6 fun v H4 => H4 s2.heap.objs.size = some (.lst ys) ∧ ∃ m', m' < n ∧ W (i + 1) m' (ys ++ [v]) (upd H4 s2.heap.objs.size (.lst (ys ++ [v])))) I5' r5 ⟨rfl, step y H5 y5⟩
      rw [hprog, hw, hA, henv] at q2
      refine wpAny_mono q2 (fun _ s6 ⟨σ6, H6, I6, q6σ, q6⟩ => ?_) fun _ _ z => (by subst hXC; exact z.elim)
      have q3 := he Hp2.objs.size s2 H2 fp
      rw [hXC] at q3
      have q4 := q3 _ s6 σ6 H6 _ I6 q6
      rw [hprog, hw, hA, henv] at q4
      refine wpAny_mono q4 (fun v s7 ⟨y7, H7, I7, r7, d7, m', hm', w7⟩ => ?_) fun _ _ z => (by subst hXC; exact z.elim)
      have q5 := mt_append (X := XC) _ s7 σ6 H7 (.ref s2.heap.objs.size) [y7] (.ref s2.heap.objs.size) [v] (fun _ H8 => H8 = upd H7 s2.heap.objs.size (.lst (ys ++ [y7]))) I7 rfl (.cons r7 .nil) ⟨_, ys, y7, rfl, rfl, d7, hlen, rfl⟩
      rw [hprog, hw, hA] at q5
      refine wpAny_mono q5 (fun _ s8 ⟨_, H8, I8, _, e8⟩ => ?_) fun _ _ z => (by subst hXC; exact z.elim)
      subst e8
      refine ⟨m', hm', i + 1, ys ++ [y7], _, ?_, T.keep _ _ _ st5 fun b hb o e => (I8.pin (b, o) (List.mem_append_right _ (List.mem_append_right _ (mem_pinsAt hb e)))).1, fun b hb => ?_, w7⟩
      · refine I8.unpinned.weak ?_ fun j v' ej => ?_
        · rw [q6σ, List.length_set]
        · rw [q6σ]
          cases j with
          | zero => cases ej
          | succ j => rw [List.getElem?_set_ne (by omega)]; exact ej
      · obtain ⟨o, e, d⟩ := T.obj _ _ st5 b hb
        exact (I8.pin (b, o) (List.mem_append_right _ (List.mem_append_right _ (mem_pinsAt hb e)))).2.1
  refine codeAny_compStart_list loop (T.self X.A 0 _ _ _ st1 loop)
theorem ps_setComp {i : Nat} {y : Str} {px pos' spos : Pos} {iter elt : Expr} {pos : Pos} {wi : TI} {te : TE} (hN : X.N.Nodup) (hyi : X.N[i]? = some y) (hy : Loc X.env.scope y) (hc : X.calm = true) (hclos : closureFor scope X.env = pure cl) (hkind : scope.kind = .function)
    (hcell : ∀ y ∈ scope.names, y.2 ≠ .cell) (hnames : ∀ y ∈ scope.names, y.2 = .local → scope.names.lookup y.1 = some .local) (hx : scope.names.lookup x = some .local)
    (hcl : ClOk X cl) (hhas : ((relabel scope X.env).names.all fun p => (p.2 != .cell && p.2 != .free) || (cl.lookup p.1).isSome) = true) (hfv : FvOk X scope fvs)
    (hnd : (x :: fvs.map (·.1)).Nodup)
    (hi : PI X (.Name x px) iter wi) (he : ∀ (C : Addr) (s : Shared) (H : Hp) (fp : List Addr), PE (cxComp X (x :: fvs.map (·.1)) scope cl C s H fp) elt te)
    (hsw : swapsWith (.ListComp elt [⟨.Name x px, iter, [], 0⟩] scope pos) (some (.Name y pos')) spos.line X.env = pure true := by rfl)
    (hf : X.fn y = true ∨ X.env.scope.names.lookup y = some .local := by first | exact .inl rfl | exact .inr rfl)
    (hs : ∀ v, foldedSetIterable iter X.env v = pure v := by intro _; rfl) : PS X (.Assign [.Name y pos'] (.ListComp elt [⟨.Name x px, iter, [], 0⟩] scope pos) spos) (tAsg (tComp wi fvs te) (gName i)) := by
  intro pins s σ H D I h
  rw [exec_Assign_Name_used (env := X.env) y pos' _ spos hsw]
  refine wpAny_bind (wpAny_standAt (wpAny_bind (wpAny_bind ?_)))
  refine comp_core hc hclos hkind hcell hnames hx hcl hhas hfv hnd hi he hs I h fun DD C m s4 H3 hm fC hL hsz hcc hpp inv q => ?_
  have I4 : Inv X pins σ H3 s4 := inv s4.heap (Heap.SameBut.refl _ _)
  show wpAny _ _ (assign (.Name y pos') X.env (.ref DD)) _ _ s4
  refine wpAny_assign_Name (store_ok2 I4 hN hyi hy (show RelV (.ref DD) (.ref DD) from rfl) (fun s5 I5 ⟨b, sb, hb⟩ => ?_) hf)
  have nb : C ≠ b := by
    rcases hb with z | z
    · rw [z]; exact hL
    · exact fun e => hcc _ _ z e.symm
  have hm5 : s5.heap.Ns C m := by
    obtain ⟨o, es, ep, ho, r⟩ := hm
    exact ⟨o, es, ep, (sb.2 C nb).trans ho, r⟩
  refine ⟨m, hm5, fun h' hs' => wpAny_pure (wpAny_pure ?_)⟩
  exact ⟨_, H3, I5.turned (t' := s5.toks) (it := C) (fun b o hb e => (hs'.2 b hb).trans e) fC hL (.inr hsz) hcc hpp, q⟩
end
end L2
namespace TS
open PySem PyProof.Rows
abbrev pElem : Array Keyed → Nat → StateT SortSt Sem Keyed := sortPriv% PySem.Builtin.elem
abbrev pLt : Keyed → Keyed → StateT SortSt Sem (Option Bool) := sortPriv% PySem.Builtin.lt
abbrev pLtAt : Nat → Nat → StateT SortSt Sem (Option Bool) := sortPriv% PySem.Builtin.ltAt
abbrev pRev : Nat → Nat → StateT SortSt Sem Unit := sortPriv% PySem.Builtin.reverseSlice
abbrev pDown : Nat → Nat → StateT SortSt Sem Unit := sortPriv% PySem.Builtin.moveDown
abbrev pCount : Nat → Nat → StateT SortSt Sem (Option Nat) := sortPriv% PySem.Builtin.countRun
abbrev pBin : Nat → Nat → Nat → StateT SortSt Sem Bool := sortPriv% PySem.Builtin.binarySort
abbrev pGal : Bool → Keyed → Array Keyed → Nat → Nat → Nat → StateT SortSt Sem (Option Nat) := sortPriv% PySem.Builtin.gallop
abbrev pSetG : Nat → StateT SortSt Sem Unit := sortPriv% PySem.Builtin.setMinGallop
abbrev pLo : Array Keyed → Array Keyed → StateT SortSt Sem (Array Keyed) := sortPriv% PySem.Builtin.mergeLo
abbrev pHi : Array Keyed → Array Keyed → StateT SortSt Sem (Array Keyed) := sortPriv% PySem.Builtin.mergeHi
abbrev pMerge : Nat → StateT SortSt Sem Bool := sortPriv% PySem.Builtin.mergeAt
abbrev pSort : StateT SortSt Sem Unit := sortPriv% PySem.Builtin.sortRuns
abbrev dk : Keyed := (Value.none, Value.none)
def el (a : Array Keyed) (i : Nat) : Keyed := a.getD i dk
theorem el_some {a : Array Keyed} {i : Nat} (h : i < a.size) : a[i]? = some (el a i) := by
  simp [el, Array.getD, h]
theorem el_congr {a b : Array Keyed} {i j : Nat} (h : a[i]? = b[j]?) : el a i = el b j := by
  simp only [el, Array.getD_eq_getD_getElem?, h]
def Al (P : Keyed → Prop) (a : Array Keyed) : Prop := ∀ x, x ∈ a.toList → P x
theorem Al.el {P : Keyed → Prop} {a : Array Keyed} (h : Al P a) {i : Nat} (hi : i < a.size) : P (el a i) := by
  refine h _ ?_
  have e := el_some hi
  have : a.toList[i]? = some (TS.el a i) := by simpa using e
  exact List.mem_of_getElem? this
structure Cmp (M : Model) (A : Around) (s : Shared) (κ : SortKind) (P : Keyed → Prop) (rk : Keyed → Nat) : Prop where
  ask : ∀ x y, P x → P y → ∀ (E : Value → Shared → Prop) (Q : Bool → Shared → Prop), Q (decide (rk x < rk y)) s → wpAny M A (keyLt' κ x.1 y.1) Q E s
structure Gd (κ : SortKind) (st : SortSt) : Prop where
  kind : kindOf st = κ
  fine : failedOf st = none
section
variable {M : Model} {A : Around} {E : Value → Shared → Prop} {s : Shared} {κ : SortKind} {P : Keyed → Prop} {rk : Keyed → Nat} {st : SortSt}
theorem t_elem {a : Array Keyed} {i : Nat} {Q : Keyed → SortSt → Prop} (hi : i < a.size) (h : Q (el a i) st) : wpS M A E s (pElem a i) Q st := by
  have e : pElem a i = pure (el a i) := by
    show elem' a i = _
    rw [elem'_eq, el_some hi]
  rw [e]
  exact wpS_pure h
theorem t_lt {x y : Keyed} {Q : Option Bool → SortSt → Prop} (hC : Cmp M A s κ P rk) (hg : Gd κ st) (px : P x) (py : P y)
    (h : Q (some (decide (rk x < rk y))) st) : wpS M A E s (pLt x y) Q st := by
  refine wpS_bind (wpS_get ?_)
  have hk := hg.kind
  refine wpS_bind (wpS_lift (wpAny_attempt ?_))
  have e : (sortPriv% PySem.Builtin.SortState.kind) st = κ := hk
  rw [e]
  exact hC.ask x y px py _ _ ⟨rfl, wpS_pure h⟩
theorem t_ltAt {i j : Nat} {Q : Option Bool → SortSt → Prop} (hC : Cmp M A s κ P rk) (hg : Gd κ st) (hP : Al P (arrOf st)) (hi : i < (arrOf st).size) (hj : j < (arrOf st).size)
    (h : Q (some (decide (rk (el (arrOf st) i) < rk (el (arrOf st) j)))) st) : wpS M A E s (pLtAt i j) Q st := by
  refine wpS_bind (wpS_get ?_)
  refine wpS_bind (t_elem hi (wpS_bind (t_elem hj ?_)))
  exact t_lt hC hg (hP.el hi) (hP.el hj) h
theorem t_rev {i j : Nat} {Q : Unit → SortSt → Prop} (h : Q () (setArr st (mirror (arrOf st) i j ((j - i) / 2)))) : wpS M A E s (pRev i j) Q st := by
  exact wpS_modify h
theorem t_down {i j : Nat} {Q : Unit → SortSt → Prop} (h : Q () (setArr st (bubble (arrOf st) i (i - j)))) : wpS M A E s (pDown i j) Q st := by
  exact wpS_modify h
theorem t_named {α : Type} {m : StateT SortSt Sem α} {Q : α → SortSt → Prop} (h : ∀ R : α → SortSt → Prop, (∀ a st', Q a st' → R a st') → wpS M A E s m R st) : wpS M A E s m Q st :=
  h Q fun _ _ x => x
theorem t_rule {t : String} {Q : Unit → SortSt → Prop} (h : Q () st) : wpS M A E s (liftM (rule t) : StateT SortSt Sem Unit) Q st :=
  wpS_lift (wpAny_rule ⟨rfl, h⟩)
end
section
variable {rk : Keyed → Nat}
theorem el_mirror {xs : Array Keyed} {i j : Nat} (hj : j ≤ xs.size) (k : Nat) :
    el (mirror xs i j ((j - i) / 2)) k = if i ≤ k ∧ k < j then el xs (i + j - 1 - k) else el xs k := by
  have e := getElem?_mirror_all (i := i) hj k
  split at e <;> rename_i h
  · rw [if_pos h]; exact el_congr e
  · rw [if_neg h]; exact el_congr e
theorem el_bubble {xs : Array Keyed} {src d : Nat} (hs : src < xs.size) (hd : d ≤ src) (k : Nat) :
    el (bubble xs src d) k = if k = src - d then el xs src else if src - d < k ∧ k ≤ src then el xs (k - 1) else el xs k := by
  have e := getElem?_bubble hs d hd k
  split at e
  · rename_i h; rw [if_pos h]; exact el_congr e
  · rename_i h; rw [if_neg h]
    split at e
    · rename_i h2; rw [if_pos h2]; exact el_congr e
    · rename_i h2; rw [if_neg h2]; exact el_congr e
end
end TS
namespace TS
open PySem PyProof.Rows
section
variable {M : Model} {A : Around} {E : Value → Shared → Prop} {s : Shared} {κ : SortKind} {P : Keyed → Prop} {rk : Keyed → Nat} {st : SortSt}
theorem t_gallop {left : Bool} {key : Keyed} {arr : Array Keyed} {base n hint : Nat} {Q : Option Nat → SortSt → Prop}
    (hC : Cmp M A s κ P rk) (hg : Gd κ st) (hP : Al P arr) (pk : P key) (hb : base + n ≤ arr.size) (hh : hint < n)
    (B : Nat → Bool) (hB : ∀ i, i < n → B i = if left = true then decide (rk (el arr (base + i)) < rk key) else !decide (rk key < rk (el arr (base + i))))
    (mono : ∀ i j, i ≤ j → j < n → B j = true → B i = true)
    (h : ∀ k, k ≤ n → (∀ i, i < k → B i = true) → (∀ i, k ≤ i → i < n → B i = false) → Q (some k) st) :
    wpS M A E s (pGal left key arr base n hint) Q st := by
  have monoF : ∀ i j, i ≤ j → j < n → B i = false → B j = false := by
    intro i j hij hj hi
    cases e : B j with
    | false => rfl
    | true => rw [mono i j hij hj e] at hi; exact absurd hi (by simp)
  have hbey : ∀ i, i < n → ∀ Q : Option Bool → SortSt → Prop, Q (some (B i)) st → wpS M A E s (do
      let x ← pElem arr (base + i)
      if left = true then pLt x key else do
        let c ← pLt key x
        pure (Option.map (fun x => !x) c)) Q st := by
    intro i hi Q hq
    refine wpS_bind (t_elem (by omega) ?_)
    have e := hB i hi
    cases left with
    | true =>
      rw [if_pos rfl] at e ⊢
      exact t_lt hC hg (hP.el (by omega)) pk (by rw [← e]; exact hq)
    | false =>
      rw [if_neg (by simp)] at e ⊢
      exact wpS_bind (t_lt hC hg pk (hP.el (by omega)) (wpS_pure (by rw [e] at hq; exact hq)))
  refine wpS_bind (hbey hint hh _ ?_)
  (try dsimp -zeta -zetaHave only)
  extract_lets -merge -underBinder +onlyGivenNames jp
  have J : ∀ u a b lo hi, lo ≤ hi → hi ≤ n → (∀ i, i < lo → B i = true) → (∀ i, hi ≤ i → i < n → B i = false) → wpS M A E s (jp u a b lo hi) Q st := by
    intro u a b lo hi h1 h2 h3 h4
    dsimp -zeta -zetaHave only [jp]
    refine wpS_bind (wpS_mono (wpS_forRange (I := fun x c st' => st' = st ∧ ∃ lo hi, c = (none, lo, hi) ∧ lo ≤ hi ∧ hi ≤ n ∧ hi - lo ≤ n - x ∧ (∀ i, i < lo → B i = true) ∧ (∀ i, hi ≤ i → i < n → B i = false))
      (Q := fun c st' => st' = st ∧ ∃ lo, c = (none, lo, lo) ∧ lo ≤ n ∧ (∀ i, i < lo → B i = true) ∧ (∀ i, lo ≤ i → i < n → B i = false)) ?step ?fin ⟨rfl, lo, hi, rfl, h1, h2, by omega, h3, h4⟩) ?post)
    case fin =>
      rintro c st' ⟨rfl, lo, hi, rfl, h1, h2, h5, h3, h4⟩
      have : lo = hi := by omega
      subst this
      exact ⟨rfl, lo, rfl, h2, h3, h4⟩
    case post =>
      rintro c st' ⟨rfl, lo, rfl, h2, h3, h4⟩
      exact wpS_pure (h lo h2 h3 h4)
    case step =>
      rintro x c st' _ hx ⟨rfl, lo, hi, rfl, h1, h2, h5, h3, h4⟩
      (try dsimp only)
      split
      · have : lo = hi := by omega
        subst this
        exact wpS_pure ⟨rfl, lo, rfl, h2, h3, h4⟩
      · refine wpS_bind (hbey _ (by omega) _ ?_)
        cases e : B (lo + (hi - lo) / 2) with
        | true =>
          exact wpS_pure ⟨rfl, _, _, rfl, by omega, by omega, by omega, fun i hi' => mono i (lo + (hi - lo) / 2) (by omega) (by omega) e, h4⟩
        | false =>
          exact wpS_pure ⟨rfl, _, _, rfl, by omega, by omega, by omega, h3, fun i hi' hn => monoF (lo + (hi - lo) / 2) i (by omega) (by omega) e⟩
  clear_value jp
  cases hr : B hint with
  | true =>
    rw [if_pos rfl]
    (try dsimp only)
    refine wpS_bind (wpS_mono (wpS_forRange (I := fun x c st' => st' = st ∧ ∃ l o, c = (none, l, o) ∧ l < o ∧ x + 1 ≤ o ∧ hint + l < n ∧ B (hint + l) = true)
      (Q := fun c st' => st' = st ∧ ∃ l o, c = (none, l, o) ∧ l < o ∧ hint + l < n ∧ B (hint + l) = true ∧ (o < n - hint → B (hint + o) = false)) ?step ?fin ⟨rfl, 0, 1, rfl, by omega, by omega, by omega, hr⟩) ?post)
    case fin =>
      rintro c st' ⟨rfl, l, o, rfl, h1, h2, h3, h4⟩
      exact ⟨rfl, l, o, rfl, h1, h3, h4, by omega⟩
    case post =>
      rintro c st' ⟨rfl, l, o, rfl, h1, h3, h4, h5⟩
      (try dsimp only)
      refine J _ _ _ _ _ (by omega) (by omega) (fun i hi => mono i (hint + l) (by omega) (by omega) h4) (fun i hi hn => ?_)
      have h6 := h5 (by omega)
      exact monoF (hint + o) i (by omega) hn h6
    case step =>
      rintro x c st' _ hx ⟨rfl, l, o, rfl, h1, h2, h3, h4⟩
      (try dsimp only)
      split
      · exact wpS_pure ⟨rfl, l, o, rfl, h1, h3, h4, by omega⟩
      · refine wpS_bind (hbey _ (by omega) _ ?_)
        cases e : B (hint + o) with
        | true => exact wpS_pure ⟨rfl, _, _, rfl, by omega, by omega, by omega, e⟩
        | false => exact wpS_pure ⟨rfl, l, o, rfl, h1, h3, h4, fun _ => e⟩
  | false =>
    rw [if_neg (by simp)]
    (try dsimp only)
    refine wpS_bind (wpS_mono (wpS_forRange (I := fun x c st' => st' = st ∧ ∃ l o, c = (none, l, o) ∧ l < o ∧ x + 1 ≤ o ∧ l ≤ hint ∧ B (hint - l) = false)
      (Q := fun c st' => st' = st ∧ ∃ l o, c = (none, l, o) ∧ l < o ∧ l ≤ hint ∧ B (hint - l) = false ∧ (o < hint + 1 → B (hint - o) = true)) ?step ?fin ⟨rfl, 0, 1, rfl, by omega, by omega, by omega, hr⟩) ?post)
    case fin =>
      rintro c st' ⟨rfl, l, o, rfl, h1, h2, h3, h4⟩
      exact ⟨rfl, l, o, rfl, h1, h3, h4, by omega⟩
    case post =>
      rintro c st' ⟨rfl, l, o, rfl, h1, h3, h4, h5⟩
      (try dsimp only)
      refine J _ _ _ _ _ (by omega) (by omega) (fun i hi => ?_) (fun i hi hn => monoF (hint - l) i (by omega) hn h4)
      have h6 := h5 (by omega)
      exact mono i (hint - o) (by omega) (by omega) h6
    case step =>
      rintro x c st' _ hx ⟨rfl, l, o, rfl, h1, h2, h3, h4⟩
      (try dsimp only)
      split
      · exact wpS_pure ⟨rfl, l, o, rfl, h1, h3, h4, by omega⟩
      · refine wpS_bind (hbey _ (by omega) _ ?_)
        cases e : B (hint - o) with
        | true => exact wpS_pure ⟨rfl, l, o, rfl, h1, h3, h4, fun _ => e⟩
        | false => exact wpS_pure ⟨rfl, _, _, rfl, by omega, by omega, by omega, e⟩
end
end TS
namespace TS
open PySem PyProof.Rows
def Srt (rk : Keyed → Nat) (a : Array Keyed) : Prop := ∀ i j, i ≤ j → j < a.size → rk (el a i) ≤ rk (el a j)
abbrev Pw (rk : Keyed → Nat) (l : List Keyed) : Prop := l.Pairwise fun x y => rk x ≤ rk y
theorem el_toList {a : Array Keyed} {i : Nat} (h : i < a.toList.length) : a.toList[i] = el a i := by
  have h' : i < a.size := by simpa using h
  simp [el, Array.getD, h']
theorem pw_iff {rk : Keyed → Nat} {a : Array Keyed} : Pw rk a.toList ↔ Srt rk a := by
  unfold Pw
  rw [List.pairwise_iff_getElem]
  constructor
  · intro h i j hij hj
    rcases Nat.lt_or_eq_of_le hij with h' | h'
    · have := h i j (by simp; omega) (by simpa using hj) h'
      rwa [el_toList, el_toList] at this
    · subst h'; exact Nat.le_refl _
  · intro h i j hi hj hij
    rw [el_toList, el_toList]
    exact h i j (Nat.le_of_lt hij) (by simpa using hj)
theorem drop_el {a : Array Keyed} {i : Nat} (h : i < a.size) : a.toList.drop i = el a i :: a.toList.drop (i + 1) := by
  rw [List.drop_eq_getElem_cons (by simpa using h), el_toList]
theorem mem_drop {a : Array Keyed} {j : Nat} {x : Keyed} (h : x ∈ a.toList.drop j) : ∃ i, j ≤ i ∧ i < a.size ∧ x = el a i := by
  obtain ⟨i, hi, e⟩ := List.mem_iff_getElem.mp h
  have hi' : j + i < a.size := by simp at hi; omega
  refine ⟨j + i, by omega, hi', ?_⟩
  rw [← e, List.getElem_drop, el_toList]
theorem mem_chunk {a : Array Keyed} {j k : Nat} {x : Keyed} (h : x ∈ (a.toList.drop j).take k) : ∃ i, j ≤ i ∧ i < j + k ∧ i < a.size ∧ x = el a i := by
  obtain ⟨i, hi, e⟩ := List.mem_iff_getElem.mp h
  have hi' : i < k ∧ j + i < a.size := by simp at hi; omega
  refine ⟨j + i, by omega, by omega, hi'.2, ?_⟩
  rw [← e, List.getElem_take, List.getElem_drop, el_toList]
theorem mem_take {a : Array Keyed} {k : Nat} {x : Keyed} (h : x ∈ a.toList.take k) : ∃ i, i < k ∧ i < a.size ∧ x = el a i := by
  obtain ⟨i, hi, e⟩ := List.mem_iff_getElem.mp h
  have hi' : i < k ∧ i < a.size := by simp at hi; omega
  refine ⟨i, hi'.1, hi'.2, ?_⟩
  rw [← e, List.getElem_take, el_toList]
structure Mg (rk : Keyed → Nat) (a b out : List Keyed) (ia ib : Nat) : Prop where
  pa : Pw rk (out ++ a.drop ia)
  pb : Pw rk (out ++ b.drop ib)
  pm : (out ++ (a.drop ia ++ b.drop ib)).Perm (a ++ b)
theorem Mg.stepA {rk : Keyed → Nat} {a b out : List Keyed} {ia ib k : Nat} (h : Mg rk a b out ia ib) (hx : ∀ x ∈ (a.drop ia).take k, ∀ y ∈ b.drop ib, rk x ≤ rk y) :
    Mg rk a b (out ++ (a.drop ia).take k) (ia + k) ib := by
  have e : (a.drop ia).take k ++ a.drop (ia + k) = a.drop ia := by rw [← List.drop_drop, List.take_append_drop]
  refine ⟨?_, ?_, ?_⟩
  · rw [List.append_assoc, e]; exact h.pa
  · have h1 := h.pa
    rw [← e, ← List.append_assoc] at h1
    have h2 := (List.pairwise_append.mp h1).1
    have h3 := List.pairwise_append.mp h.pb
    refine List.pairwise_append.mpr ⟨h2, h3.2.1, fun x m y n => ?_⟩
    rcases List.mem_append.mp m with m | m
    · exact h3.2.2 x m y n
    · exact hx x m y n
  · have := h.pm
    rw [← e] at this
    simpa [List.append_assoc] using this
theorem Mg.stepB {rk : Keyed → Nat} {a b out : List Keyed} {ia ib k : Nat} (h : Mg rk a b out ia ib) (hx : ∀ x ∈ (b.drop ib).take k, ∀ y ∈ a.drop ia, rk x ≤ rk y) :
    Mg rk a b (out ++ (b.drop ib).take k) ia (ib + k) := by
  have e : (b.drop ib).take k ++ b.drop (ib + k) = b.drop ib := by rw [← List.drop_drop, List.take_append_drop]
  refine ⟨?_, ?_, ?_⟩
  · have h1 := h.pb
    rw [← e, ← List.append_assoc] at h1
    have h2 := (List.pairwise_append.mp h1).1
    have h3 := List.pairwise_append.mp h.pa
    refine List.pairwise_append.mpr ⟨h2, h3.2.1, fun x m y n => ?_⟩
    rcases List.mem_append.mp m with m | m
    · exact h3.2.2 x m y n
    · exact hx x m y n
  · rw [List.append_assoc, e]; exact h.pb
  · have := h.pm
    rw [← e] at this
    refine List.Perm.trans ?_ this
    rw [List.append_assoc]
    refine List.Perm.append_left _ ?_
    rw [← List.append_assoc, ← List.append_assoc]
    exact List.Perm.append_right _ List.perm_append_comm
def Res (rk : Keyed → Nat) (a b out : Array Keyed) : Prop := out.toList.Perm (a.toList ++ b.toList) ∧ Pw rk out.toList
theorem Mg.done {rk : Keyed → Nat} {a b out : Array Keyed} {ia ib : Nat} (h : Mg rk a.toList b.toList out.toList ia ib) (he : ib = b.size ∨ ia = a.size) : Res rk a b (out ++ a.extract ia ++ b.extract ib) := by
  have e1 : (out ++ a.extract ia ++ b.extract ib).toList = out.toList ++ (a.toList.drop ia ++ b.toList.drop ib) := by
    simp [List.take_of_length_le]
  unfold Res
  rw [e1]
  refine ⟨h.pm, ?_⟩
  rcases he with he | he
  · have : b.toList.drop ib = [] := by simp [he]
    rw [this, List.append_nil]; exact h.pa
  · have : a.toList.drop ia = [] := by simp [he]
    rw [this, List.nil_append]; exact h.pb
theorem Mg.last {rk : Keyed → Nat} {a b out : Array Keyed} {ia ib : Nat} (h : Mg rk a.toList b.toList out.toList ia ib) (he : ia + 1 = a.size) (h2 : ∀ i, i < b.size → rk (el b i) ≤ rk (el a (a.size - 1))) :
    Res rk a b (out ++ b.extract ib ++ a.extract ia) := by
  have e1 : (out ++ b.extract ib ++ a.extract ia).toList = out.toList ++ (b.toList.drop ib ++ a.toList.drop ia) := by
    simp [List.take_of_length_le]
  unfold Res
  rw [e1]
  refine ⟨(List.Perm.append_left _ List.perm_append_comm).trans h.pm, ?_⟩
  rw [← List.append_assoc]
  have h3 := List.pairwise_append.mp h.pa
  refine List.pairwise_append.mpr ⟨h.pb, h3.2.1, fun x m y n => ?_⟩
  rcases List.mem_append.mp m with m | m
  · exact h3.2.2 x m y n
  · obtain ⟨i, _, hi, rfl⟩ := mem_drop m
    obtain ⟨j, hj, hj', rfl⟩ := mem_drop n
    have : j = a.size - 1 := by omega
    rw [this]
    exact h2 i hi
theorem push_chunk {a out : Array Keyed} {i : Nat} (h : i < a.size) : (out.push (el a i)).toList = out.toList ++ (a.toList.drop i).take 1 := by
  rw [drop_el h]; simp
theorem ext_chunk {a out : Array Keyed} {i k : Nat} : (out ++ a.extract i (i + k)).toList = out.toList ++ (a.toList.drop i).take k := by
  simp [List.extract_eq_take_drop]
section
variable {M : Model} {A : Around} {E : Value → Shared → Prop} {s : Shared} {κ : SortKind} {P : Keyed → Prop} {rk : Keyed → Nat} {st : SortSt}
structure Sm (κ : SortKind) (st st' : SortSt) : Prop where
  gd : Gd κ st'
  arr : arrOf st' = arrOf st
  pend : pendingOf st' = pendingOf st
theorem t_setG {g : Nat} {Q : Unit → SortSt → Prop} {st' : SortSt} (hs : Sm κ st st') (h : ∀ st'', Sm κ st st'' → Q () st'') : wpS M A E s (pSetG g) Q st' := by
  exact wpS_modify (h _ ⟨⟨hs.gd.kind, hs.gd.fine⟩, hs.arr, hs.pend⟩)
theorem t_galR {key : Keyed} {arr : Array Keyed} {base n hint : Nat} {Q : Option Nat → SortSt → Prop}
    (hC : Cmp M A s κ P rk) (hg : Gd κ st) (hP : Al P arr) (pk : P key) (hb : base + n ≤ arr.size) (hh : hint < n)
    (hs : ∀ i j, base ≤ i → i ≤ j → j < base + n → rk (el arr i) ≤ rk (el arr j))
    (h : ∀ k, k ≤ n → (∀ i, base ≤ i → i < base + k → rk (el arr i) ≤ rk key) → (∀ i, base + k ≤ i → i < base + n → rk key < rk (el arr i)) → Q (some k) st) :
    wpS M A E s (pGal false key arr base n hint) Q st := by
  refine t_gallop hC hg hP pk hb hh (fun i => !decide (rk key < rk (el arr (base + i)))) (fun i _ => rfl) (fun i j hij hj he => ?_) (fun k hk h1 h2 => h k hk (fun i a1 a2 => ?_) (fun i a1 a2 => ?_))
  · have := hs (base + i) (base + j) (by omega) (by omega) (by omega)
    simp at he ⊢
    omega
  · have := h1 (i - base) (by omega)
    rw [show base + (i - base) = i by omega] at this
    simpa using this
  · have := h2 (i - base) (by omega) (by omega)
    rw [show base + (i - base) = i by omega] at this
    simpa using this
theorem t_galL {key : Keyed} {arr : Array Keyed} {base n hint : Nat} {Q : Option Nat → SortSt → Prop}
    (hC : Cmp M A s κ P rk) (hg : Gd κ st) (hP : Al P arr) (pk : P key) (hb : base + n ≤ arr.size) (hh : hint < n)
    (hs : ∀ i j, base ≤ i → i ≤ j → j < base + n → rk (el arr i) ≤ rk (el arr j))
    (h : ∀ k, k ≤ n → (∀ i, base ≤ i → i < base + k → rk (el arr i) < rk key) → (∀ i, base + k ≤ i → i < base + n → rk key ≤ rk (el arr i)) → Q (some k) st) :
    wpS M A E s (pGal true key arr base n hint) Q st := by
  refine t_gallop hC hg hP pk hb hh (fun i => decide (rk (el arr (base + i)) < rk key)) (fun i _ => rfl) (fun i j hij hj he => ?_) (fun k hk h1 h2 => h k hk (fun i a1 a2 => ?_) (fun i a1 a2 => ?_))
  · have := hs (base + i) (base + j) (by omega) (by omega) (by omega)
    simp at he ⊢
    omega
  · have := h1 (i - base) (by omega)
    rw [show base + (i - base) = i by omega] at this
    simpa using this
  · have := h2 (i - base) (by omega) (by omega)
    rw [show base + (i - base) = i by omega] at this
    simpa using this
theorem t_lo {a b : Array Keyed} {Q : Array Keyed → SortSt → Prop} (hC : Cmp M A s κ P rk) (hg : Gd κ st) (ha : Al P a) (hb : Al P b) (sa : Srt rk a) (sb : Srt rk b) (na : 1 ≤ a.size) (nb : 1 ≤ b.size)
    (h1 : rk (el b 0) ≤ rk (el a 0)) (h2 : ∀ i, i < b.size → rk (el b i) ≤ rk (el a (a.size - 1)))
    (h : ∀ out st', Sm κ st st' → Res rk a b out → Q out st') : wpS M A E s (pLo a b) Q st := by
  have oneA : ∀ {out : Array Keyed} {ia ib : Nat}, Mg rk a.toList b.toList out.toList ia ib → ia < a.size → ib < b.size → rk (el a ia) ≤ rk (el b ib) → Mg rk a.toList b.toList (out.push (el a ia)).toList (ia + 1) ib := by
    intro out ia ib m h1 h2 h3
    rw [push_chunk h1]
    refine m.stepA fun x hx y hy => ?_
    obtain ⟨i, i1, i2, i3, rfl⟩ := mem_chunk hx
    obtain ⟨j, j1, j2, rfl⟩ := mem_drop hy
    have : i = ia := by omega
    subst this
    exact Nat.le_trans h3 (sb _ _ j1 j2)
  have oneB : ∀ {out : Array Keyed} {ia ib : Nat}, Mg rk a.toList b.toList out.toList ia ib → ia < a.size → ib < b.size → rk (el b ib) ≤ rk (el a ia) → Mg rk a.toList b.toList (out.push (el b ib)).toList ia (ib + 1) := by
    intro out ia ib m h1 h2 h3
    rw [push_chunk h2]
    refine m.stepB fun x hx y hy => ?_
    obtain ⟨i, i1, i2, i3, rfl⟩ := mem_chunk hx
    obtain ⟨j, j1, j2, rfl⟩ := mem_drop hy
    have : i = ib := by omega
    subst this
    exact Nat.le_trans h3 (sa _ _ j1 j2)
  refine wpS_bind (t_rule ?_)
  extract_lets -merge -underBinder +onlyGivenNames xa1
  (try dsimp -zeta -zetaHave only [xa1])
  (try clear xa1)
  extract_lets -merge -underBinder +onlyGivenNames dn
  extract_lets -merge -underBinder +onlyGivenNames last
  have D : ∀ {out : Array Keyed} {ia ib : Nat}, Mg rk a.toList b.toList out.toList ia ib → (ib = b.size ∨ ia = a.size) → ∀ st', Sm κ st st' → Q (dn out ia ib) st' := by
    intro out ia ib m he st' hs
    exact h _ _ hs (m.done he)
  have L : ∀ {out : Array Keyed} {ia ib : Nat}, Mg rk a.toList b.toList out.toList ia ib → ia + 1 = a.size → ∀ st', Sm κ st st' → Q (last out ia ib) st' := by
    intro out ia ib m he st' hs
    exact h _ _ hs (m.last he h2)
  clear_value dn last
  have S0 : Sm κ st st := ⟨hg, rfl, rfl⟩
  have m0 : Mg rk a.toList b.toList (#[] : Array Keyed).toList 0 0 := ⟨by simpa using pw_iff.mpr sa, by simpa using pw_iff.mpr sb, by simp⟩
  have m1 : Mg rk a.toList b.toList (#[el b 0] : Array Keyed).toList 0 1 := oneB m0 (by omega) (by omega) h1
  refine wpS_bind (t_elem nb ?_)
  extract_lets -merge -underBinder +onlyGivenNames xa1 xa2 xa3
  (try dsimp -zeta -zetaHave only [xa1, xa2, xa3])
  (try clear xa3 xa2 xa1)
  split
  · rename_i e
    exact wpS_pure (D m1 (.inl (by simpa using e)) st S0)
  split
  · rename_i e
    exact wpS_pure (L m1 (by simpa using e) st S0)
  rename_i e1 e2
  have l1 : 1 < b.size := by simp at e1; omega
  have l2 : 0 + 1 < a.size := by simp at e2; omega
  refine wpS_bind (wpS_get ?_)
  extract_lets -merge -underBinder +onlyGivenNames mg
  clear_value mg
  refine wpS_bind (wpS_mono (wpS_forRange
    (I := fun x c st' => Sm κ st st' ∧ ∃ out ia ib mg, c = (none, out, ia, ib, mg) ∧ Mg rk a.toList b.toList out.toList ia ib ∧ ib < b.size ∧ ia + 1 < a.size ∧ x + 1 ≤ ia + ib)
    (Q := fun c st' => Sm κ st st' ∧ ∃ r rest, c = (some r, rest) ∧ ∀ st', Sm κ st st' → Q r st') ?step ?fin ⟨S0, _, _, _, _, rfl, m1, l1, l2, by omega⟩) ?post)
  case fin =>
    rintro c st' ⟨_, out, ia, ib, mg, rfl, m, i1, i2, i3⟩
    omega
  case post =>
    rintro c st' ⟨hs, r, rest, rfl, hr⟩
    exact wpS_pure (hr st' hs)
  case step =>
    rintro x c st₁ _ hx ⟨S1, out, ia, ib, mg, rfl, m, i1, i2, i3⟩
    (try dsimp -zeta -zetaHave only)
    extract_lets -merge -underBinder +onlyGivenNames xa1 xa2 xa3 xa4 xa5 xa6 xa7 xa8 xa9
    (try dsimp -zeta -zetaHave only [xa1, xa2, xa3, xa4, xa5, xa6, xa7, xa8, xa9])
    (try clear xa9 xa8 xa7 xa6 xa5 xa4 xa3 xa2 xa1)
    refine wpS_bind (wpS_mono (wpS_forRange
      (I := fun y c st' => Sm κ st st' ∧ ∃ out ia' ib' ac bc, c = (none, out, ia', ib', ac, bc) ∧ Mg rk a.toList b.toList out.toList ia' ib' ∧ ib' < b.size ∧ ia' + 1 < a.size ∧ ia + ib + min y 1 ≤ ia' + ib')
      (Q := fun c st' => Sm κ st st' ∧ ((∃ r rest, c = (some r, rest) ∧ ∀ st', Sm κ st st' → Q r st') ∨
        ∃ out ia' ib' ac bc, c = (none, out, ia', ib', ac, bc) ∧ Mg rk a.toList b.toList out.toList ia' ib' ∧ ib' < b.size ∧ ia' + 1 < a.size ∧ ia + ib + 1 ≤ ia' + ib')) ?step1 ?fin1
        ⟨S1, _, _, _, _, _, rfl, m, i1, i2, by omega⟩) ?post1)
    case fin1 =>
      rintro c st' ⟨hs, out, ia', ib', ac, bc, rfl, m, i1, i2, i3⟩
      exact ⟨hs, .inr ⟨out, ia', ib', ac, bc, rfl, m, i1, i2, by omega⟩⟩
    case step1 =>
      rintro y c st' _ hy ⟨hs, out, ia', ib', ac, bc, rfl, m, j1, j2, j3⟩
      (try dsimp only)
      refine wpS_bind (t_elem j1 (wpS_bind (t_elem (by omega) (wpS_bind (t_lt hC hs.gd (hb.el j1) (ha.el (by omega)) ?_)))))
      cases e : decide (rk (el b ib') < rk (el a ia')) with
      | true =>
        have e' : rk (el b ib') < rk (el a ia') := by simpa using e
        (try dsimp only)
        rw [if_pos rfl]
        have m' := oneB m (by omega) j1 (Nat.le_of_lt e')
        refine wpS_bind (t_elem j1 ?_)
        (try dsimp only)
        split
        · rename_i e2
          exact wpS_pure ⟨hs, .inl ⟨_, _, rfl, D m' (.inl (by simpa using e2))⟩⟩
        rename_i e2
        have e2' : ib' + 1 < b.size := by simp at e2; omega
        split
        · exact wpS_pure ⟨hs, .inr ⟨_, _, _, _, _, rfl, m', e2', j2, by omega⟩⟩
        · exact wpS_pure ⟨hs, _, _, _, _, _, rfl, m', e2', j2, by omega⟩
      | false =>
        have e' : rk (el a ia') ≤ rk (el b ib') := by simpa using e
        (try dsimp only)
        rw [if_neg (by simp)]
        have m' := oneA m (by omega) j1 e'
        refine wpS_bind (t_elem (by omega) ?_)
        (try dsimp only)
        split
        · rename_i e2
          exact wpS_pure ⟨hs, .inl ⟨_, _, rfl, L m' (by simpa using e2)⟩⟩
        rename_i e2
        have e2' : ia' + 1 + 1 < a.size := by simp at e2; omega
        split
        · exact wpS_pure ⟨hs, .inr ⟨_, _, _, _, _, rfl, m', j1, e2', by omega⟩⟩
        · exact wpS_pure ⟨hs, _, _, _, _, _, rfl, m', j1, e2', by omega⟩
    case post1 =>
      rintro c st₂ ⟨S2, ⟨r, rest, rfl, hr⟩ | ⟨out, ja, jb, ac, bc, rfl, m2, j1, j2, j3⟩⟩
      · exact wpS_pure ⟨S2, _, _, rfl, hr⟩
      (try dsimp -zeta -zetaHave only)
      extract_lets -merge -underBinder +onlyGivenNames xa1 xa2 xa3 xa4 xa5 xa6 xa7 xa8 xa9 xa10
      (try dsimp -zeta -zetaHave only [xa1, xa2, xa3, xa4, xa5, xa6, xa7, xa8, xa9, xa10])
      (try clear xa10 xa9 xa8 xa7 xa6 xa5 xa4 xa3 xa2 xa1)
      refine wpS_bind (t_rule ?_)
      extract_lets -merge -underBinder +onlyGivenNames xa1
      (try dsimp -zeta -zetaHave only [xa1])
      (try clear xa1)
      refine wpS_bind (wpS_mono (wpS_forRange
        (I := fun y c st' => Sm κ st st' ∧ ∃ out ia' ib' mg ac bc, c = (none, out, ia', ib', mg, ac, bc) ∧ Mg rk a.toList b.toList out.toList ia' ib' ∧ ib' < b.size ∧ ia' + 1 < a.size ∧ ia + ib + 1 ≤ ia' + ib')
        (Q := fun c st' => Sm κ st st' ∧ ((∃ r rest, c = (some r, rest) ∧ ∀ st', Sm κ st st' → Q r st') ∨
          ∃ out ia' ib' mg ac bc, c = (none, out, ia', ib', mg, ac, bc) ∧ Mg rk a.toList b.toList out.toList ia' ib' ∧ ib' < b.size ∧ ia' + 1 < a.size ∧ ia + ib + 1 ≤ ia' + ib')) ?step2 ?fin2
          ⟨S2, _, _, _, _, _, _, rfl, m2, j1, j2, j3⟩) ?post2)
      case fin2 =>
        rintro c st' ⟨hs, rest⟩
        exact ⟨hs, .inr rest⟩
      case post2 =>
        rintro c st' ⟨hs, ⟨r, rest, rfl, hr⟩ | ⟨out, ia', ib', mg, ac, bc, rfl, m, k1, k2, k3⟩⟩
        · exact wpS_pure ⟨hs, _, _, rfl, hr⟩
        · dsimp only
          exact wpS_bind (t_setG hs fun st'' hs' => wpS_pure ⟨hs', _, _, _, _, rfl, m, k1, k2, by omega⟩)
      case step2 =>
        rintro y c st' _ hy ⟨hs, out, ia', ib', mg, ac, bc, rfl, m, k1, k2, k3⟩
        (try dsimp -zeta -zetaHave only)
        extract_lets -merge -underBinder +onlyGivenNames xa1 xa2 xa3 xa4 xa5 xa6 xa7 xa8 xa9 xa10 xa11
        (try dsimp -zeta -zetaHave only [xa1, xa2, xa3, xa4, xa5, xa6, xa7, xa8, xa9, xa10, xa11])
        (try clear xa11 xa10 xa9 xa8 xa7 xa6 xa5 xa4 xa3 xa2 xa1)
        refine t_named fun R hR => ?_
        extract_lets -merge -underBinder +onlyGivenNames jp
        have J : ∀ u g, wpS M A E s (jp u g) R st' := by
          intro u g
          dsimp -zeta -zetaHave only [jp]
          refine wpS_bind (t_setG hs fun st'' hs' => ?_)
          refine wpS_bind (t_elem k1 (wpS_bind (t_galR hC hs'.gd ha (hb.el k1) (by omega) (by omega) (fun i j q1 q2 q3 => sa i j q2 (by omega)) fun k hk q1 q2 => ?_)))
          (try dsimp -zeta -zetaHave only)
          extract_lets -merge -underBinder +onlyGivenNames xa1
          (try dsimp -zeta -zetaHave only [xa1])
          (try clear xa1)
          extract_lets -merge -underBinder +onlyGivenNames jp2
          have J2 : ∀ u out ia', Mg rk a.toList b.toList out.toList ia' ib' → ia' + 1 < a.size → ia + ib + 1 ≤ ia' + ib' → rk (el b ib') ≤ rk (el a ia') → wpS M A E s (jp2 u out ia') R st'' := by
            intro u out ia' m p1 p2 p3
            dsimp -zeta -zetaHave only [jp2]
            have m' := oneB m (by omega) k1 p3
            refine wpS_bind (t_elem k1 ?_)
            extract_lets -merge -underBinder +onlyGivenNames xa1 xa2
            (try dsimp -zeta -zetaHave only [xa1, xa2])
            (try clear xa2 xa1)
            split
            · rename_i e2
              exact wpS_pure (hR _ _ ⟨hs', .inl ⟨_, _, rfl, D m' (.inl (by simpa using e2))⟩⟩)
            rename_i e2
            have e2' : ib' + 1 < b.size := by simp at e2; omega
            refine wpS_bind (t_elem (by omega) (wpS_bind (t_galL hC hs'.gd hb (ha.el (by omega)) (by omega) (by omega) (fun i j q1 q2 q3 => sb i j q2 (by omega)) fun k' hk' r1 r2 => ?_)))
            (try dsimp -zeta -zetaHave only)
            extract_lets -merge -underBinder +onlyGivenNames xa1
            (try dsimp -zeta -zetaHave only [xa1])
            (try clear xa1)
            extract_lets -merge -underBinder +onlyGivenNames jp3
            have J3 : ∀ u out ib'', Mg rk a.toList b.toList out.toList ia' ib'' → ib'' < b.size → ia + ib + 1 ≤ ia' + ib'' → rk (el a ia') ≤ rk (el b ib'') → wpS M A E s (jp3 u out ib'') R st'' := by
              intro u out ib'' m p1 p2 p3
              dsimp -zeta -zetaHave only [jp3]
              have m' := oneA m (by omega) p1 p3
              refine wpS_bind (t_elem (by omega) ?_)
              (try dsimp only)
              split
              · rename_i e3
                exact wpS_pure (hR _ _ ⟨hs', .inl ⟨_, _, rfl, L m' (by simpa using e3)⟩⟩)
              rename_i e3
              have e3' : ia' + 1 + 1 < a.size := by simp at e3; omega
              split
              · exact wpS_pure (hR _ _ ⟨hs', .inr ⟨_, _, _, _, _, _, rfl, m', p1, e3', by omega⟩⟩)
              · exact wpS_pure (hR _ _ ⟨hs', _, _, _, _, _, _, rfl, m', p1, e3', by omega⟩)
            clear_value jp3
            split
            · have m3 : Mg rk a.toList b.toList (out.push (el b ib') ++ b.extract (ib' + 1) (ib' + 1 + k')).toList ia' (ib' + 1 + k') := by
                rw [ext_chunk]
                refine m'.stepB fun x hx y hy => ?_
                obtain ⟨i, z1, z2, z3, rfl⟩ := mem_chunk hx
                obtain ⟨j, w1, w2, rfl⟩ := mem_drop hy
                exact Nat.le_trans (Nat.le_of_lt (r1 i (by omega) (by omega))) (sa _ _ w1 w2)
              (try dsimp only)
              split
              · rename_i e3
                exact wpS_pure (hR _ _ ⟨hs', .inl ⟨_, _, rfl, D m3 (.inl (by simpa using e3))⟩⟩)
              · rename_i e3
                have e3' : ib' + 1 + k' < b.size := by simp at e3; omega
                exact J3 _ _ _ m3 e3' (by omega) (r2 _ (by omega) (by omega))
            · have : k' = 0 := by omega
              subst this
              exact J3 _ _ _ m' e2' (by omega) (r2 _ (by omega) (by omega))
          clear_value jp2
          split
          · have m3 : Mg rk a.toList b.toList (out ++ a.extract ia' (ia' + k)).toList (ia' + k) ib' := by
              rw [ext_chunk]
              refine m.stepA fun x hx y hy => ?_
              obtain ⟨i, z1, z2, z3, rfl⟩ := mem_chunk hx
              obtain ⟨j, w1, w2, rfl⟩ := mem_drop hy
              exact Nat.le_trans (q1 i (by omega) (by omega)) (sb _ _ w1 w2)
            (try dsimp only)
            split
            · rename_i e3
              exact wpS_pure (hR _ _ ⟨hs', .inl ⟨_, _, rfl, L m3 (by simpa using e3)⟩⟩)
            rename_i e3
            split
            · rename_i e4
              exact wpS_pure (hR _ _ ⟨hs', .inl ⟨_, _, rfl, D m3 (.inr (by simpa using e4))⟩⟩)
            · rename_i e4
              have e3' : ia' + k + 1 < a.size := by simp at e3 e4; omega
              exact J2 _ _ _ m3 e3' (by omega) (Nat.le_of_lt (q2 _ (by omega) (by omega)))
          · have : k = 0 := by omega
            subst this
            exact J2 _ _ _ m k2 k3 (Nat.le_of_lt (q2 _ (by omega) (by omega)))
        clear_value jp
        split
        · exact J _ _
        · exact J _ _
end
end TS
namespace TS
open PySem PyProof.Rows
structure Mh (rk : Keyed → Nat) (a b out : List Keyed) (na nb : Nat) : Prop where
  pa : Pw rk (a.take na ++ out)
  pb : Pw rk (b.take nb ++ out)
  pm : ((a.take na ++ b.take nb) ++ out).Perm (a ++ b)
theorem take_cut {a : List Keyed} {k n : Nat} (h : k ≤ n) : a.take k ++ (a.take n).drop k = a.take n := by
  have e : a.take k = (a.take n).take k := by rw [List.take_take, Nat.min_eq_left h]
  rw [e, List.take_append_drop]
theorem Mh.stepA {rk : Keyed → Nat} {a b out : List Keyed} {na nb k : Nat} (hk : k ≤ na) (h : Mh rk a b out na nb) (hx : ∀ x ∈ b.take nb, ∀ y ∈ (a.take na).drop k, rk x ≤ rk y) :
    Mh rk a b ((a.take na).drop k ++ out) k nb := by
  have e := take_cut (a := a) hk
  refine ⟨?_, ?_, ?_⟩
  · rw [← List.append_assoc, e]; exact h.pa
  · have h1 := h.pa
    rw [← e, List.append_assoc] at h1
    have h2 := (List.pairwise_append.mp h1).2.1
    have h3 := List.pairwise_append.mp h.pb
    refine List.pairwise_append.mpr ⟨h3.1, h2, fun x m y n => ?_⟩
    rcases List.mem_append.mp n with n | n
    · exact hx x m y n
    · exact h3.2.2 x m y n
  · have := h.pm
    rw [← e] at this
    refine List.Perm.trans ?_ this
    simp only [List.append_assoc]
    refine List.Perm.append_left _ ?_
    rw [← List.append_assoc, ← List.append_assoc]
    exact List.Perm.append_right _ List.perm_append_comm
theorem Mh.stepB {rk : Keyed → Nat} {a b out : List Keyed} {na nb k : Nat} (hk : k ≤ nb) (h : Mh rk a b out na nb) (hx : ∀ x ∈ a.take na, ∀ y ∈ (b.take nb).drop k, rk x ≤ rk y) :
    Mh rk a b ((b.take nb).drop k ++ out) na k := by
  have e := take_cut (a := b) hk
  refine ⟨?_, ?_, ?_⟩
  · have h1 := h.pb
    rw [← e, List.append_assoc] at h1
    have h2 := (List.pairwise_append.mp h1).2.1
    have h3 := List.pairwise_append.mp h.pa
    refine List.pairwise_append.mpr ⟨h3.1, h2, fun x m y n => ?_⟩
    rcases List.mem_append.mp n with n | n
    · exact hx x m y n
    · exact h3.2.2 x m y n
  · rw [← List.append_assoc, e]; exact h.pb
  · have := h.pm
    rw [← e] at this
    simpa [List.append_assoc] using this
theorem mem_cut {a : Array Keyed} {k n : Nat} {x : Keyed} (h : x ∈ (a.toList.take n).drop k) : ∃ i, k ≤ i ∧ i < n ∧ i < a.size ∧ x = el a i := by
  obtain ⟨i, hi, e⟩ := List.mem_iff_getElem.mp h
  have hi' : k + i < n ∧ k + i < a.size := by simp at hi; omega
  refine ⟨k + i, by omega, hi'.1, hi'.2, ?_⟩
  rw [← e, List.getElem_drop, List.getElem_take, el_toList]
theorem push_cut {a out : Array Keyed} {n : Nat} (h : n < a.size) : (out.push (el a n)).toList.reverse = (a.toList.take (n + 1)).drop n ++ out.toList.reverse := by
  have : (a.toList.take (n + 1)).drop n = [el a n] := by
    rw [List.drop_take, Nat.add_sub_cancel_left, drop_el h]; rfl
  rw [this]; simp
theorem ext_cut {a out : Array Keyed} {k n : Nat} : (out ++ (a.extract k n).reverse).toList.reverse = (a.toList.take n).drop k ++ out.toList.reverse := by
  simp [List.extract_eq_take_drop, List.drop_take]
theorem Mh.done {rk : Keyed → Nat} {a b out : Array Keyed} {na nb : Nat} (h : Mh rk a.toList b.toList out.toList.reverse na nb) (he : na = 0 ∨ nb = 0) : Res rk a b (a.extract 0 na ++ b.extract 0 nb ++ out.reverse) := by
  have e1 : (a.extract 0 na ++ b.extract 0 nb ++ out.reverse).toList = (a.toList.take na ++ b.toList.take nb) ++ out.toList.reverse := by
    simp [List.extract_eq_take_drop]
  unfold Res
  rw [e1]
  refine ⟨h.pm, ?_⟩
  rcases he with he | he
  · subst he; exact h.pb
  · subst he; rw [List.take_zero, List.append_nil]; exact h.pa
theorem Mh.first {rk : Keyed → Nat} {a b out : Array Keyed} {na nb : Nat} (h : Mh rk a.toList b.toList out.toList.reverse na nb) (he : nb = 1) (h1 : ∀ i, i < a.size → rk (el b 0) ≤ rk (el a i)) :
    Res rk a b (b.extract 0 nb ++ a.extract 0 na ++ out.reverse) := by
  have e1 : (b.extract 0 nb ++ a.extract 0 na ++ out.reverse).toList = (b.toList.take nb ++ a.toList.take na) ++ out.toList.reverse := by
    simp [List.extract_eq_take_drop]
  unfold Res
  rw [e1]
  refine ⟨(List.Perm.append_right _ List.perm_append_comm).trans h.pm, ?_⟩
  rw [List.append_assoc]
  have h3 := List.pairwise_append.mp h.pb
  refine List.pairwise_append.mpr ⟨h3.1, h.pa, fun x m y n => ?_⟩
  rcases List.mem_append.mp n with n | n
  · obtain ⟨i, hi, hi', rfl⟩ := mem_take m
    obtain ⟨j, hj, hj', rfl⟩ := mem_take n
    have : i = 0 := by omega
    subst this
    exact h1 j hj'
  · exact h3.2.2 x m y n
section
variable {M : Model} {A : Around} {E : Value → Shared → Prop} {s : Shared} {κ : SortKind} {P : Keyed → Prop} {rk : Keyed → Nat} {st : SortSt}
theorem t_hi {a b : Array Keyed} {Q : Array Keyed → SortSt → Prop} (hC : Cmp M A s κ P rk) (hg : Gd κ st) (ha : Al P a) (hb : Al P b) (sa : Srt rk a) (sb : Srt rk b) (na : 1 ≤ a.size) (nb : 1 ≤ b.size)
    (h1 : ∀ i, i < a.size → rk (el b 0) ≤ rk (el a i)) (h2 : ∀ i, i < b.size → rk (el b i) ≤ rk (el a (a.size - 1)))
    (h : ∀ out st', Sm κ st st' → Res rk a b out → Q out st') : wpS M A E s (pHi a b) Q st := by
  have oneA : ∀ {out : Array Keyed} {na nb : Nat}, Mh rk a.toList b.toList out.toList.reverse (na + 1) nb → na < a.size → 0 < nb → nb ≤ b.size → rk (el b (nb - 1)) ≤ rk (el a na) → Mh rk a.toList b.toList (out.push (el a na)).toList.reverse na nb := by
    intro out na nb m h1 h2 h2' h3
    rw [push_cut h1]
    refine m.stepA (by omega) fun x hx y hy => ?_
    obtain ⟨i, i1, i2, rfl⟩ := mem_take hx
    obtain ⟨j, j1, j2, j3, rfl⟩ := mem_cut hy
    have : j = na := by omega
    subst this
    exact Nat.le_trans (sb i (nb - 1) (by omega) (by omega)) h3
  have oneB : ∀ {out : Array Keyed} {na nb : Nat}, Mh rk a.toList b.toList out.toList.reverse na (nb + 1) → nb < b.size → 0 < na → na ≤ a.size → rk (el a (na - 1)) ≤ rk (el b nb) → Mh rk a.toList b.toList (out.push (el b nb)).toList.reverse na nb := by
    intro out na nb m h1 h2 h2' h3
    rw [push_cut h1]
    refine m.stepB (by omega) fun x hx y hy => ?_
    obtain ⟨i, i1, i2, rfl⟩ := mem_take hx
    obtain ⟨j, j1, j2, j3, rfl⟩ := mem_cut hy
    have : j = nb := by omega
    subst this
    exact Nat.le_trans (sa i (na - 1) (by omega) (by omega)) h3
  refine wpS_bind (t_rule ?_)
  extract_lets -merge -underBinder +onlyGivenNames xa1
  (try dsimp -zeta -zetaHave only [xa1])
  (try clear xa1)
  extract_lets -merge -underBinder +onlyGivenNames dn
  extract_lets -merge -underBinder +onlyGivenNames first
  have D : ∀ {out : Array Keyed} {na nb : Nat}, Mh rk a.toList b.toList out.toList.reverse na nb → (na = 0 ∨ nb = 0) → ∀ st', Sm κ st st' → Q (dn out na nb) st' := by
    intro out na nb m he st' hs
    exact h _ _ hs (m.done he)
  have L : ∀ {out : Array Keyed} {na nb : Nat}, Mh rk a.toList b.toList out.toList.reverse na nb → nb = 1 → ∀ st', Sm κ st st' → Q (first out na nb) st' := by
    intro out na nb m he st' hs
    exact h _ _ hs (m.first he h1)
  clear_value dn first
  have S0 : Sm κ st st := ⟨hg, rfl, rfl⟩
  have m0 : Mh rk a.toList b.toList (#[] : Array Keyed).toList.reverse (a.size - 1 + 1) b.size := by
    rw [Nat.sub_add_cancel na]
    have e1 : a.toList.take a.size = a.toList := List.take_of_length_le (by simp)
    have e2 : b.toList.take b.size = b.toList := List.take_of_length_le (by simp)
    exact ⟨by rw [e1]; simpa using pw_iff.mpr sa, by rw [e2]; simpa using pw_iff.mpr sb, by rw [e1, e2]; simp⟩
  have m1 : Mh rk a.toList b.toList (#[el a (a.size - 1)] : Array Keyed).toList.reverse (a.size - 1) b.size := oneA m0 (by omega) (by omega) (by omega) (h2 _ (by omega))
  extract_lets -merge -underBinder +onlyGivenNames xa1 xa2
  (try dsimp -zeta -zetaHave only [xa1, xa2])
  (try clear xa2 xa1)
  refine wpS_bind (t_elem (by omega) ?_)
  extract_lets -merge -underBinder +onlyGivenNames xa1
  (try dsimp -zeta -zetaHave only [xa1])
  (try clear xa1)
  split
  · rename_i e
    exact wpS_pure (D m1 (.inl (by simpa using e)) st S0)
  split
  · rename_i e
    exact wpS_pure (L m1 (by simpa using e) st S0)
  rename_i e1 e2
  have l1 : 0 < a.size - 1 := by simp at e1; omega
  have l2 : 1 < b.size := by simp at e2; omega
  refine wpS_bind (wpS_get ?_)
  extract_lets -merge -underBinder +onlyGivenNames mg
  clear_value mg
  refine wpS_bind (wpS_mono (wpS_forRange
    (I := fun x c st' => Sm κ st st' ∧ ∃ na nb out mg, c = (none, na, nb, out, mg) ∧ Mh rk a.toList b.toList out.toList.reverse na nb ∧ 0 < na ∧ na < a.size ∧ 1 < nb ∧ nb ≤ b.size ∧ x + 1 + na + nb ≤ a.size + b.size)
    (Q := fun c st' => Sm κ st st' ∧ ∃ r rest, c = (some r, rest) ∧ ∀ st', Sm κ st st' → Q r st') ?step ?fin ⟨S0, _, _, _, _, rfl, m1, l1, by omega, l2, by omega, by omega⟩) ?post)
  case fin =>
    rintro c st' ⟨_, na, nb, out, mg, rfl, m, i1, i2, i3, i4, i5⟩
    omega
  case post =>
    rintro c st' ⟨hs, r, rest, rfl, hr⟩
    exact wpS_pure (hr st' hs)
  case step =>
    rintro x c st₁ _ hx ⟨S1, na, nb, out, mg, rfl, m, i1, i2, i3, i4, i5⟩
    extract_lets -merge -underBinder +onlyGivenNames xa1 xa2 xa3 xa4 xa5 xa6 xa7 xa8 xa9
    (try dsimp -zeta -zetaHave only [xa1, xa2, xa3, xa4, xa5, xa6, xa7, xa8, xa9])
    (try clear xa9 xa8 xa7 xa6 xa5 xa4 xa3 xa2 xa1)
    refine wpS_bind (wpS_mono (wpS_forRange
      (I := fun y c st' => Sm κ st st' ∧ ∃ na' nb' out ac bc, c = (none, na', nb', out, ac, bc) ∧ Mh rk a.toList b.toList out.toList.reverse na' nb' ∧ 0 < na' ∧ na' < a.size ∧ 1 < nb' ∧ nb' ≤ b.size ∧ na' + nb' + min y 1 ≤ na + nb)
      (Q := fun c st' => Sm κ st st' ∧ ((∃ r rest, c = (some r, rest) ∧ ∀ st', Sm κ st st' → Q r st') ∨
        ∃ na' nb' out ac bc, c = (none, na', nb', out, ac, bc) ∧ Mh rk a.toList b.toList out.toList.reverse na' nb' ∧ 0 < na' ∧ na' < a.size ∧ 1 < nb' ∧ nb' ≤ b.size ∧ na' + nb' + 1 ≤ na + nb)) ?step1 ?fin1
        ⟨S1, _, _, _, _, _, rfl, m, i1, i2, i3, i4, by omega⟩) ?post1)
    case fin1 =>
      rintro c st' ⟨hs, na', nb', out, ac, bc, rfl, m, i1, i2, i3, i4, i5⟩
      exact ⟨hs, .inr ⟨na', nb', out, ac, bc, rfl, m, i1, i2, i3, i4, by omega⟩⟩
    case step1 =>
      rintro y c st' _ hy ⟨hs, na', nb', out, ac, bc, rfl, m, j1, j2, j3, j4, j5⟩
      (try dsimp only)
      refine wpS_bind (t_elem (by omega) (wpS_bind (t_elem (by omega) (wpS_bind (t_lt hC hs.gd (hb.el (by omega)) (ha.el (by omega)) ?_)))))
      cases e : decide (rk (el b (nb' - 1)) < rk (el a (na' - 1))) with
      | true =>
        have e' : rk (el b (nb' - 1)) < rk (el a (na' - 1)) := by simpa using e
        (try dsimp only)
        rw [if_pos rfl]
        have m' := oneA (na := na' - 1) (by rw [Nat.sub_add_cancel j1]; exact m) (by omega) (by omega) j4 (Nat.le_of_lt e')
        refine wpS_bind (t_elem (by omega) ?_)
        (try dsimp only)
        split
        · rename_i e2
          exact wpS_pure ⟨hs, .inl ⟨_, _, rfl, D m' (.inl (by simpa using e2))⟩⟩
        rename_i e2
        have e2' : 0 < na' - 1 := by simp at e2; omega
        split
        · exact wpS_pure ⟨hs, .inr ⟨_, _, _, _, _, rfl, m', e2', by omega, j3, j4, by omega⟩⟩
        · exact wpS_pure ⟨hs, _, _, _, _, _, rfl, m', e2', by omega, j3, j4, by omega⟩
      | false =>
        have e' : rk (el a (na' - 1)) ≤ rk (el b (nb' - 1)) := by simpa using e
        (try dsimp only)
        rw [if_neg (by simp)]
        have m' := oneB (nb := nb' - 1) (by rw [Nat.sub_add_cancel (by omega)]; exact m) (by omega) j1 (by omega) e'
        refine wpS_bind (t_elem (by omega) ?_)
        (try dsimp only)
        split
        · rename_i e2
          exact wpS_pure ⟨hs, .inl ⟨_, _, rfl, L m' (by simpa using e2)⟩⟩
        rename_i e2
        have e2' : 1 < nb' - 1 := by simp at e2; omega
        split
        · exact wpS_pure ⟨hs, .inr ⟨_, _, _, _, _, rfl, m', j1, j2, e2', by omega, by omega⟩⟩
        · exact wpS_pure ⟨hs, _, _, _, _, _, rfl, m', j1, j2, e2', by omega, by omega⟩
    case post1 =>
      rintro c st₂ ⟨S2, ⟨r, rest, rfl, hr⟩ | ⟨ja, jb, out, ac, bc, rfl, m2, j1, j2, j3, j4, j5⟩⟩
      · exact wpS_pure ⟨S2, _, _, rfl, hr⟩
      extract_lets -merge -underBinder +onlyGivenNames xa1 xa2 xa3 xa4 xa5 xa6 xa7 xa8 xa9 xa10
      (try dsimp -zeta -zetaHave only [xa1, xa2, xa3, xa4, xa5, xa6, xa7, xa8, xa9, xa10])
      (try clear xa10 xa9 xa8 xa7 xa6 xa5 xa4 xa3 xa2 xa1)
      refine wpS_bind (t_rule ?_)
      extract_lets -merge -underBinder +onlyGivenNames xa1
      (try dsimp -zeta -zetaHave only [xa1])
      (try clear xa1)
      refine wpS_bind (wpS_mono (wpS_forRange
        (I := fun y c st' => Sm κ st st' ∧ ∃ na' nb' out mg ac bc, c = (none, na', nb', out, mg, ac, bc) ∧ Mh rk a.toList b.toList out.toList.reverse na' nb' ∧ 0 < na' ∧ na' < a.size ∧ 1 < nb' ∧ nb' ≤ b.size ∧ na' + nb' + 1 ≤ na + nb)
        (Q := fun c st' => Sm κ st st' ∧ ((∃ r rest, c = (some r, rest) ∧ ∀ st', Sm κ st st' → Q r st') ∨
          ∃ na' nb' out mg ac bc, c = (none, na', nb', out, mg, ac, bc) ∧ Mh rk a.toList b.toList out.toList.reverse na' nb' ∧ 0 < na' ∧ na' < a.size ∧ 1 < nb' ∧ nb' ≤ b.size ∧ na' + nb' + 1 ≤ na + nb)) ?step2 ?fin2
          ⟨S2, _, _, _, _, _, _, rfl, m2, j1, j2, j3, j4, j5⟩) ?post2)
      case fin2 =>
        rintro c st' ⟨hs, rest⟩
        exact ⟨hs, .inr rest⟩
      case post2 =>
        rintro c st' ⟨hs, ⟨r, rest, rfl, hr⟩ | ⟨na', nb', out, mg, ac, bc, rfl, m, k1, k2, k3, k4, k5⟩⟩
        · exact wpS_pure ⟨hs, _, _, rfl, hr⟩
        · dsimp only
          exact wpS_bind (t_setG hs fun st'' hs' => wpS_pure ⟨hs', _, _, _, _, rfl, m, k1, k2, k3, k4, by omega⟩)
      case step2 =>
        rintro y c st' _ hy ⟨hs, na', nb', out, mg, ac, bc, rfl, m, k1, k2, k3, k4, k5⟩
        extract_lets -merge -underBinder +onlyGivenNames xa1 xa2 xa3 xa4 xa5 xa6 xa7 xa8 xa9 xa10 xa11
        (try dsimp -zeta -zetaHave only [xa1, xa2, xa3, xa4, xa5, xa6, xa7, xa8, xa9, xa10, xa11])
        (try clear xa11 xa10 xa9 xa8 xa7 xa6 xa5 xa4 xa3 xa2 xa1)
        refine t_named fun R hR => ?_
        extract_lets -merge -underBinder +onlyGivenNames jp
        have J : ∀ u g, wpS M A E s (jp u g) R st' := by
          intro u g
          dsimp -zeta -zetaHave only [jp]
          refine wpS_bind (t_setG hs fun st'' hs' => ?_)
          refine wpS_bind (t_elem (by omega) (wpS_bind (t_galR hC hs'.gd ha (hb.el (by omega)) (by omega) (by omega) (fun i j q1 q2 q3 => sa i j q2 (by omega)) fun k hk q1 q2 => ?_)))
          (try dsimp -zeta -zetaHave only)
          extract_lets -merge -underBinder +onlyGivenNames xa1 xa2
          (try dsimp -zeta -zetaHave only [xa1, xa2])
          (try clear xa2 xa1)
          extract_lets -merge -underBinder +onlyGivenNames jp2
          have J2 : ∀ u na' out, Mh rk a.toList b.toList out.toList.reverse na' nb' → 0 < na' → na' < a.size → na' + nb' + 1 ≤ na + nb → rk (el a (na' - 1)) ≤ rk (el b (nb' - 1)) → wpS M A E s (jp2 u na' out) R st'' := by
            intro u na' out m p0 p1 p2 p3
            dsimp -zeta -zetaHave only [jp2]
            have m' := oneB (nb := nb' - 1) (by rw [Nat.sub_add_cancel (by omega)]; exact m) (by omega) p0 (by omega) p3
            extract_lets -merge -underBinder +onlyGivenNames xa1
            (try dsimp -zeta -zetaHave only [xa1])
            (try clear xa1)
            refine wpS_bind (t_elem (by omega) ?_)
            extract_lets -merge -underBinder +onlyGivenNames xa1
            (try dsimp -zeta -zetaHave only [xa1])
            (try clear xa1)
            split
            · rename_i e2
              exact wpS_pure (hR _ _ ⟨hs', .inl ⟨_, _, rfl, L m' (by simpa using e2)⟩⟩)
            rename_i e2
            have e2' : 1 < nb' - 1 := by simp at e2; omega
            refine wpS_bind (t_elem (by omega) (wpS_bind (t_galL hC hs'.gd hb (ha.el (by omega)) (by omega) (by omega) (fun i j q1 q2 q3 => sb i j q2 (by omega)) fun k' hk' r1 r2 => ?_)))
            (try dsimp -zeta -zetaHave only)
            extract_lets -merge -underBinder +onlyGivenNames xa1 xa2
            (try dsimp -zeta -zetaHave only [xa1, xa2])
            (try clear xa2 xa1)
            extract_lets -merge -underBinder +onlyGivenNames jp3
            have J3 : ∀ u nb'' out, Mh rk a.toList b.toList out.toList.reverse na' nb'' → 1 < nb'' → nb'' ≤ b.size → na' + nb'' + 1 ≤ na + nb → rk (el b (nb'' - 1)) ≤ rk (el a (na' - 1)) → wpS M A E s (jp3 u nb'' out) R st'' := by
              intro u nb'' out m p4 p5 p6 p7
              dsimp -zeta -zetaHave only [jp3]
              have m' := oneA (na := na' - 1) (by rw [Nat.sub_add_cancel p0]; exact m) (by omega) (by omega) p5 p7
              extract_lets -merge -underBinder +onlyGivenNames xa1
              (try dsimp -zeta -zetaHave only [xa1])
              (try clear xa1)
              refine wpS_bind (t_elem (by omega) ?_)
              extract_lets -merge -underBinder +onlyGivenNames xa1
              (try dsimp -zeta -zetaHave only [xa1])
              (try clear xa1)
              split
              · rename_i e3
                exact wpS_pure (hR _ _ ⟨hs', .inl ⟨_, _, rfl, D m' (.inl (by simpa using e3))⟩⟩)
              rename_i e3
              have e3' : 0 < na' - 1 := by simp at e3; omega
              split
              · exact wpS_pure (hR _ _ ⟨hs', .inr ⟨_, _, _, _, _, _, rfl, m', e3', by omega, p4, p5, by omega⟩⟩)
              · exact wpS_pure (hR _ _ ⟨hs', _, _, _, _, _, _, rfl, m', e3', by omega, p4, p5, by omega⟩)
            clear_value jp3
            split
            · have m3 : Mh rk a.toList b.toList (out.push (el b (nb' - 1)) ++ (b.extract k' (nb' - 1)).reverse).toList.reverse na' k' := by
                rw [ext_cut]
                refine m'.stepB (by omega) fun x hx y hy => ?_
                obtain ⟨i, z1, z3, rfl⟩ := mem_take hx
                obtain ⟨j, w1, w2, w3, rfl⟩ := mem_cut hy
                exact Nat.le_trans (sa i (na' - 1) (by omega) (by omega)) (r2 j (by omega) (by omega))
              extract_lets -merge -underBinder +onlyGivenNames xa1 xa2
              (try dsimp -zeta -zetaHave only [xa1, xa2])
              (try clear xa2 xa1)
              split
              · rename_i e3
                exact wpS_pure (hR _ _ ⟨hs', .inl ⟨_, _, rfl, L m3 (by simpa using e3)⟩⟩)
              rename_i e3
              split
              · rename_i e4
                exact wpS_pure (hR _ _ ⟨hs', .inl ⟨_, _, rfl, D m3 (.inr (by simpa using e4))⟩⟩)
              · rename_i e4
                have e3' : 1 < k' := by simp at e3 e4; omega
                exact J3 _ _ _ m3 e3' (by omega) (by omega) (Nat.le_of_lt (r1 _ (by omega) (by omega)))
            · have : k' = nb' - 1 := by omega
              subst this
              exact J3 _ _ _ m' e2' (by omega) (by omega) (Nat.le_of_lt (r1 _ (by omega) (by omega)))
          clear_value jp2
          split
          · have m3 : Mh rk a.toList b.toList (out ++ (a.extract k na').reverse).toList.reverse k nb' := by
              rw [ext_cut]
              refine m.stepA (by omega) fun x hx y hy => ?_
              obtain ⟨i, z1, z3, rfl⟩ := mem_take hx
              obtain ⟨j, w1, w2, w3, rfl⟩ := mem_cut hy
              exact Nat.le_trans (sb i (nb' - 1) (by omega) (by omega)) (Nat.le_of_lt (q2 j (by omega) (by omega)))
            extract_lets -merge -underBinder +onlyGivenNames xa1 xa2
            (try dsimp -zeta -zetaHave only [xa1, xa2])
            (try clear xa2 xa1)
            split
            · rename_i e3
              exact wpS_pure (hR _ _ ⟨hs', .inl ⟨_, _, rfl, D m3 (.inl (by simpa using e3))⟩⟩)
            · rename_i e3
              have e3' : 0 < k := by simp at e3; omega
              exact J2 _ _ _ m3 e3' (by omega) (by omega) (q1 _ (by omega) (by omega))
          · have : k = na' := by omega
            subst this
            exact J2 _ _ _ m k1 k2 k5 (q1 _ (by omega) (by omega))
        clear_value jp
        split
        · exact J _ _
        · exact J _ _
end
end TS
namespace TS
open PySem PyProof.Rows
theorem el_list (a : Array Keyed) (i : Nat) : el a i = (a.toList[i]?).getD dk := by
  simp [el, Array.getD_eq_getD_getElem?]
theorem wb_gen (o : Nat) : ∀ (l : List Keyed) (a : Array Keyed) (n : Nat), o + n + l.length ≤ a.size →
    (List.foldl (fun (a : Array Keyed) (x : Keyed × Nat) => match x with | (p, j) => a.setIfInBounds (o + j) p) a (l.zipIdx n)).toList = a.toList.take (o + n) ++ (l ++ a.toList.drop (o + n + l.length))
  | [], a, n, h => by simp
  | p :: l, a, n, h => by
    have hl : o + n < a.size := by simp at h; omega
    rw [List.zipIdx_cons, List.foldl_cons, wb_gen o l _ (n + 1) (by simp at h ⊢; omega)]
    have e : (a.setIfInBounds (o + n) p).toList = a.toList.take (o + n) ++ p :: a.toList.drop (o + n + 1) := by
      rw [Array.toList_setIfInBounds, List.set_eq_take_append_cons_drop, if_pos (by simpa using hl)]
    have hlen : (a.toList.take (o + n)).length = o + n := by simp; omega
    rw [e]
    rw [List.take_append, List.drop_append, hlen]
    have t1 : (a.toList.take (o + n)).take (o + (n + 1)) = a.toList.take (o + n) := List.take_of_length_le (by rw [hlen]; omega)
    have t2 : (a.toList.take (o + n)).drop (o + (n + 1) + l.length) = [] := List.drop_eq_nil_of_le (by rw [hlen]; omega)
    rw [t1, t2, show o + (n + 1) - (o + n) = 1 by omega, show o + (n + 1) + l.length - (o + n) = l.length + 1 by omega]
    simp only [List.take_succ_cons, List.take_zero, List.drop_succ_cons, List.nil_append, List.append_assoc, List.cons_append, List.drop_drop, List.length_cons]
    rw [show o + n + 1 + l.length = o + n + (l.length + 1) by omega]
theorem wb {o : Nat} {m a : Array Keyed} (h : o + m.size ≤ a.size) :
    (List.foldl (fun (a : Array Keyed) (x : Keyed × Nat) => match x with | (p, j) => a.setIfInBounds (o + j) p) a m.toList.zipIdx).toList = a.toList.take o ++ (m.toList ++ a.toList.drop (o + m.size)) := by
  have := wb_gen o m.toList a 0 (by simpa using h)
  simpa using this
theorem el_over {o : Nat} {m a b : Array Keyed} (h : o + m.size ≤ a.size) (e : b.toList = a.toList.take o ++ (m.toList ++ a.toList.drop (o + m.size))) (j : Nat) :
    el b j = if j < o then el a j else if j < o + m.size then el m (j - o) else el a j := by
  have hlen : (a.toList.take o).length = o := by simp; omega
  rw [el_list b, e]
  by_cases h1 : j < o
  · rw [if_pos h1, List.getElem?_append_left (by rw [hlen]; exact h1), List.getElem?_take_of_lt h1, ← el_list]
  · rw [if_neg h1, List.getElem?_append_right (by rw [hlen]; omega), hlen]
    by_cases h2 : j < o + m.size
    · rw [if_pos h2, List.getElem?_append_left (by simp; omega), ← el_list]
    · rw [if_neg h2, List.getElem?_append_right (by simp; omega), List.getElem?_drop, el_list a]
      congr 2
      simp; omega
def Seg (rk : Keyed → Nat) (a : Array Keyed) (lo hi : Nat) : Prop := ∀ i j, lo ≤ i → i ≤ j → j < hi → rk (el a i) ≤ rk (el a j)
theorem el_ext {a : Array Keyed} {i j k : Nat} (h : i + k < j) (hj : j ≤ a.size) : el (a.extract i j) k = el a (i + k) := by
  rw [el_list, el_list]
  congr 1
  have : k < j - i := by omega
  simp [List.extract_eq_take_drop, List.getElem?_take, this]
section
variable {M : Model} {A : Around} {E : Value → Shared → Prop} {s : Shared} {κ : SortKind} {P : Keyed → Prop} {rk : Keyed → Nat} {st : SortSt}
theorem t_merge {i : Nat} {l1 l2 : List (Nat × Nat × Nat)} {sa na pa nb pb : Nat} {Q : Bool → SortSt → Prop} (hC : Cmp M A s κ P rk) (hg : Gd κ st) (hP : Al P (arrOf st))
    (hp : (pendingOf st).toList = l1 ++ (sa, na, pa) :: (sa + na, nb, pb) :: l2) (hi : l1.length = i) (n1 : 1 ≤ na) (n2 : 1 ≤ nb) (hz : sa + na + nb ≤ (arrOf st).size)
    (s1 : Seg rk (arrOf st) sa (sa + na)) (s2 : Seg rk (arrOf st) (sa + na) (sa + na + nb))
    (h : ∀ st', Gd κ st' → (arrOf st').toList.Perm (arrOf st).toList → (∀ j, (j < sa ∨ sa + na + nb ≤ j) → el (arrOf st') j = el (arrOf st) j) → Seg rk (arrOf st') sa (sa + na + nb) →
      (pendingOf st').toList = l1 ++ (sa, na + nb, pa) :: l2 → Q true st') : wpS M A E s (pMerge i) Q st := by
  have hz' : sa + na + nb ≤ ((sortPriv% PySem.Builtin.SortState.a) st).size := hz
  refine wpS_bind (wpS_get ?_)
  have g1 : (pendingOf st)[i]? = some (sa, na, pa) := by
    rw [← Array.getElem?_toList, hp, List.getElem?_append_right (by omega)]; simp [hi]
  have g2 : (pendingOf st)[i + 1]? = some (sa + na, nb, pb) := by
    rw [← Array.getElem?_toList, hp, List.getElem?_append_right (by omega), show i + 1 - l1.length = 1 by omega]; rfl
  have g1' : ((sortPriv% PySem.Builtin.SortState.pending) st)[i]? = some (sa, na, pa) := g1
  have g2' : ((sortPriv% PySem.Builtin.SortState.pending) st)[i + 1]? = some (sa + na, nb, pb) := g2
  rw [g1', g2']
  (try dsimp -zeta -zetaHave only)
  have hpend : (((pendingOf st).setIfInBounds i (sa, na + nb, pa)).eraseIdxIfInBounds (i + 1)).toList = l1 ++ (sa, na + nb, pa) :: l2 := by
    have hb : i + 1 < ((pendingOf st).setIfInBounds i (sa, na + nb, pa)).size := by
      have : (pendingOf st).toList.length = l1.length + (l2.length + 2) := by rw [hp]; simp
      simp at this ⊢; omega
    rw [Array.eraseIdxIfInBounds, dif_pos hb, Array.toList_eraseIdx, Array.toList_setIfInBounds, hp]
    subst hi
    rw [List.set_append_right _ _ (Nat.le_refl _), Nat.sub_self, List.set_cons_zero, List.eraseIdx_append_of_length_le (by omega), Nat.add_sub_cancel_left]
    rfl
  refine wpS_bind (wpS_mono (Q := fun _ st' => Gd κ st' ∧ arrOf st' = arrOf st ∧ (pendingOf st').toList = l1 ++ (sa, na + nb, pa) :: l2) ?set ?_)
  case set =>
    unfold wpS
    rw [StateT.run_set]
    exact wpAny_pure ⟨rfl, ⟨hg.kind, hg.fine⟩, rfl, hpend⟩
  rintro _ st₁ ⟨hg1, ha1, hp1⟩
  show wpS M A E s (do let x ← pElem (arrOf st) (sa + na); _) Q st₁
  refine wpS_bind (t_elem (by omega) (wpS_bind (t_galR hC hg1 hP (hP.el (by omega)) (by omega) (by omega) s1 fun k hk q1 q2 => ?_)))
  (try dsimp -zeta -zetaHave only)
  split
  · rename_i e
    have e' : k = na := by simp at e; omega
    subst e'
    refine wpS_pure (h st₁ hg1 (by rw [ha1]) (fun j _ => by rw [ha1]) ?_ hp1)
    rw [ha1]
    intro i j a1 a2 a3
    by_cases b1 : j < sa + k
    · exact s1 i j a1 a2 b1
    · by_cases b2 : sa + k ≤ i
      · exact s2 i j b2 a2 a3
      · exact Nat.le_trans (q1 i a1 (by omega)) (s2 _ j (Nat.le_refl _) (by omega) a3)
  rename_i e
  have kn : k < na := by simp at e; omega
  refine wpS_bind (t_elem (by omega) (wpS_bind (t_galL hC hg1 hP (hP.el (by omega)) (by omega) (by omega) s2 fun m hm r1 r2 => ?_)))
  have elast : sa + k + (na - k) - 1 = sa + na - 1 := by omega
  rw [elast] at r1 r2
  (try dsimp -zeta -zetaHave only)
  split
  · rename_i e
    have e' : m = 0 := by simpa using e
    subst e'
    refine wpS_pure (h st₁ hg1 (by rw [ha1]) (fun j _ => by rw [ha1]) ?_ hp1)
    rw [ha1]
    intro i j a1 a2 a3
    by_cases b1 : j < sa + na
    · exact s1 i j a1 a2 b1
    · by_cases b2 : sa + na ≤ i
      · exact s2 i j b2 a2 a3
      · exact Nat.le_trans (s1 i (sa + na - 1) a1 (by omega) (by omega)) (r2 j (by omega) a3)
  rename_i e3
  have m1 : 1 ≤ m := by simp at e3; omega
  extract_lets -merge -underBinder +onlyGivenNames x
  extract_lets -merge -underBinder +onlyGivenNames y
  extract_lets -merge -underBinder +onlyGivenNames jp
  have hx' : x = (arrOf st).extract (sa + k) (sa + na) := rfl
  have hy' : y = (arrOf st).extract (sa + na) (sa + na + m) := rfl
  have xs : x.size = na - k := by rw [hx', Array.size_extract]; omega
  have ys : y.size = m := by rw [hy', Array.size_extract]; omega
  have ex : ∀ t, t < na - k → el x t = el (arrOf st) (sa + k + t) := fun t ht => by rw [hx']; exact el_ext (by omega) (by omega)
  have ey : ∀ t, t < m → el y t = el (arrOf st) (sa + na + t) := fun t ht => by rw [hy']; exact el_ext (by omega) (by omega)
  have Px : Al P x := fun z hz => hP z (by rw [hx'] at hz; simp [List.extract_eq_take_drop] at hz; exact List.mem_of_mem_drop (List.mem_of_mem_take hz))
  have Py : Al P y := fun z hz => hP z (by rw [hy'] at hz; simp [List.extract_eq_take_drop] at hz; exact List.mem_of_mem_drop (List.mem_of_mem_take hz))
  have sx : Srt rk x := fun i j hij hj => by rw [ex i (by omega), ex j (by omega)]; exact s1 _ _ (by omega) (by omega) (by omega)
  have sy : Srt rk y := fun i j hij hj => by rw [ey i (by omega), ey j (by omega)]; exact s2 _ _ (by omega) (by omega) (by omega)
  have c1 : ∀ i, i < x.size → rk (el y 0) ≤ rk (el x i) := fun i hi => by
    rw [ex i (by omega), ey 0 (by omega)]; exact Nat.le_of_lt (q2 _ (by omega) (by omega))
  have c2 : ∀ i, i < y.size → rk (el y i) ≤ rk (el x (x.size - 1)) := fun i hi => by
    rw [ey i (by omega), ex _ (by omega), show sa + k + (x.size - 1) = sa + na - 1 by omega]; exact Nat.le_of_lt (r1 _ (by omega) (by omega))
  have J : ∀ out st', Sm κ st₁ st' → Res rk x y out → wpS M A E s (jp out) Q st' := by
    intro out st' hs hr
    dsimp -zeta -zetaHave only [jp]
    have osz : out.size = na - k + m := by
      have := hr.1.length_eq
      simp at this; omega
    refine wpS_bind (wpS_modify (wpS_bind (wpS_get (wpS_pure ?_))))
    have harr : arrOf st' = arrOf st := hs.arr.trans ha1
    have he : (List.foldl (fun (a : Array Keyed) (x : Keyed × Nat) => match x with | (p, j) => a.setIfInBounds (sa + k + j) p) (arrOf st') out.toList.zipIdx).toList = (arrOf st).toList.take (sa + k) ++ (out.toList ++ (arrOf st).toList.drop (sa + k + out.size)) := by
      rw [wb (by rw [harr, osz]; omega), harr]
    have hel := el_over (o := sa + k) (m := out) (a := arrOf st) (by rw [osz]; omega) he
    have so : Srt rk out := pw_iff.mp hr.2
    have omem : ∀ t, t < out.size → (∃ u, sa + k ≤ u ∧ u < sa + na ∧ el out t = el (arrOf st) u) ∨ ∃ u, sa + na ≤ u ∧ u < sa + na + m ∧ el out t = el (arrOf st) u := by
      intro t ht
      have hm : el out t ∈ out.toList := by
        have : out.toList[t]? = some (el out t) := by simpa using el_some ht
        exact List.mem_of_getElem? this
      rcases List.mem_append.mp (hr.1.mem_iff.mp hm) with hm | hm
      · obtain ⟨u, _, hu, e⟩ := mem_drop (j := 0) (a := x) hm
        exact .inl ⟨sa + k + u, by omega, by omega, by rw [e, ex u (by omega)]⟩
      · obtain ⟨u, _, hu, e⟩ := mem_drop (j := 0) (a := y) hm
        exact .inr ⟨sa + na + u, by omega, by omega, by rw [e, ey u (by omega)]⟩
    have hfin : ((failedOf st').isNone) = true := by rw [hs.gd.fine]; rfl
    show Q ((failedOf st').isNone) (setArr st' (List.foldl (fun (a : Array Keyed) (x : Keyed × Nat) => match x with | (p, j) => a.setIfInBounds (sa + k + j) p) (arrOf st') out.toList.zipIdx))
    rw [hfin]
    generalize (List.foldl (fun (a : Array Keyed) (x : Keyed × Nat) => match x with | (p, j) => a.setIfInBounds (sa + k + j) p) (arrOf st') out.toList.zipIdx) = F at he hel ⊢
    refine h _ ⟨hs.gd.kind, hs.gd.fine⟩ ?perm ?out ?seg (by show (pendingOf st').toList = _; rw [hs.pend]; exact hp1)
    case perm =>
      show F.toList.Perm _
      rw [he]
      have eA : (arrOf st).toList = (arrOf st).toList.take (sa + k) ++ ((x.toList ++ y.toList) ++ (arrOf st).toList.drop (sa + k + out.size)) := by
        have ex : x.toList = ((arrOf st).toList.drop (sa + k)).take (na - k) := by rw [hx']; simp [List.extract_eq_take_drop]; congr 1; omega
        have ey : y.toList = ((arrOf st).toList.drop (sa + na)).take m := by rw [hy']; simp [List.extract_eq_take_drop]
        have d1 : (arrOf st).toList.drop (sa + na) = ((arrOf st).toList.drop (sa + k)).drop (na - k) := by rw [List.drop_drop]; congr 1; omega
        have d2 : (arrOf st).toList.drop (sa + k + out.size) = ((arrOf st).toList.drop (sa + na)).drop m := by rw [List.drop_drop]; congr 1; omega
        rw [List.append_assoc, d2, ey, List.take_append_drop, ex, d1, List.take_append_drop, List.take_append_drop]
      rw (occs := .pos [3]) [eA]
      exact List.Perm.append_left _ (List.Perm.append_right _ hr.1)
    case out =>
      intro j hj
      show el F j = _
      rw [hel j]
      rcases hj with hj | hj
      · rw [if_pos (by omega)]
      · rw [if_neg (by omega), if_neg (by omega)]
    case seg =>
      intro i j a1 a2 a3
      show rk (el F i) ≤ rk (el F j)
      rw [hel i, hel j]
      by_cases i1 : i < sa + k
      · rw [if_pos i1]
        have hi' := q1 i a1 i1
        by_cases j1 : j < sa + k
        · rw [if_pos j1]; exact s1 i j a1 a2 (by omega)
        · rw [if_neg j1]
          by_cases j2 : j < sa + k + out.size
          · rw [if_pos j2]
            rcases omem (j - (sa + k)) (by omega) with ⟨u, u1, u2, e⟩ | ⟨u, u1, u2, e⟩
            · rw [e]; exact s1 i u a1 (by omega) u2
            · rw [e]; exact Nat.le_trans hi' (s2 _ u (Nat.le_refl _) u1 (by omega))
          · rw [if_neg j2]; exact Nat.le_trans hi' (s2 _ j (Nat.le_refl _) (by omega) a3)
      · rw [if_neg i1, if_neg (show ¬ j < sa + k by omega)]
        by_cases i2 : i < sa + k + out.size
        · rw [if_pos i2]
          by_cases j2 : j < sa + k + out.size
          · rw [if_pos j2]; exact so _ _ (by omega) (by omega)
          · rw [if_neg j2]
            have hj' := r2 j (by omega) a3
            rcases omem (i - (sa + k)) (by omega) with ⟨u, u1, u2, e⟩ | ⟨u, u1, u2, e⟩
            · rw [e]; exact Nat.le_trans (s1 u (sa + na - 1) (by omega) (by omega) (by omega)) hj'
            · rw [e]; exact s2 u j u1 (by omega) a3
        · rw [if_neg i2, if_neg (show ¬ j < sa + k + out.size by omega)]
          exact s2 i j (by omega) a2 a3
  clear_value jp
  split
  · exact wpS_bind (t_lo hC hg1 Px Py sx sy (by omega) (by omega) (c1 0 (by omega)) c2 J)
  · exact wpS_bind (t_hi hC hg1 Px Py sx sy (by omega) (by omega) c1 c2 J)
end
end TS
namespace TS
open PySem PyProof.Rows
def Dsc (rk : Keyed → Nat) (a : Array Keyed) (lo hi : Nat) : Prop := ∀ i j, lo ≤ i → i ≤ j → j < hi → rk (el a j) ≤ rk (el a i)
theorem rk_mirror {rk : Keyed → Nat} {xs : Array Keyed} {i j : Nat} (hj : j ≤ xs.size) (he : ∀ k, i ≤ k → k < j → rk (el xs k) = rk (el xs (j - 1))) (k : Nat) :
    rk (el (mirror xs i j ((j - i) / 2)) k) = rk (el xs k) := by
  rw [el_mirror hj]
  split
  · rw [he _ (by omega) (by omega), he k (by omega) (by omega)]
  · rfl
structure Ch (κ : SortKind) (lo hi : Nat) (st st' : SortSt) : Prop where
  gd : Gd κ st'
  perm : (arrOf st').toList.Perm (arrOf st).toList
  pend : pendingOf st' = pendingOf st
  out : ∀ j, (j < lo ∨ hi ≤ j) → el (arrOf st') j = el (arrOf st) j
section
variable {κ : SortKind} {lo hi : Nat} {st st' : SortSt} {P : Keyed → Prop}
theorem Ch.size (h : Ch κ lo hi st st') : (arrOf st').size = (arrOf st).size := by simpa using h.perm.length_eq
theorem Ch.al (h : Ch κ lo hi st st') (hP : Al P (arrOf st)) : Al P (arrOf st') := fun x hx => hP x (h.perm.mem_iff.mp hx)
theorem Ch.refl (hg : Gd κ st) : Ch κ lo hi st st := ⟨hg, .refl _, rfl, fun _ _ => rfl⟩
theorem Ch.rev (h : Ch κ lo hi st st') {i j : Nat} (h1 : lo ≤ i) (h2 : j ≤ hi) (h3 : hi ≤ (arrOf st).size) : Ch κ lo hi st (setArr st' (mirror (arrOf st') i j ((j - i) / 2))) := by
  refine ⟨⟨h.gd.kind, h.gd.fine⟩, (Array.perm_iff_toList_perm.mp (mirror_perm _ _ _ _)).trans h.perm, h.pend, fun k hk => ?_⟩
  show el (mirror _ _ _ _) k = _
  rw [el_mirror (by rw [h.size]; omega), if_neg (by omega)]
  exact h.out k hk
theorem Ch.down (h : Ch κ lo hi st st') {i d : Nat} (h1 : lo ≤ i - d) (hd : d ≤ i) (h2 : i < hi) (h3 : hi ≤ (arrOf st).size) : Ch κ lo hi st (setArr st' (bubble (arrOf st') i d)) := by
  refine ⟨⟨h.gd.kind, h.gd.fine⟩, (Array.perm_iff_toList_perm.mp (bubble_perm _ _ _)).trans h.perm, h.pend, fun k hk => ?_⟩
  show el (bubble _ _ _) k = _
  rw [el_bubble (by rw [h.size]; omega) hd, if_neg (by omega), if_neg (by omega)]
  exact h.out k hk
end
section
variable {M : Model} {A : Around} {E : Value → Shared → Prop} {s : Shared} {κ : SortKind} {P : Keyed → Prop} {rk : Keyed → Nat} {st : SortSt}
theorem t_count {lo nrem : Nat} {Q : Option Nat → SortSt → Prop} (hC : Cmp M A s κ P rk) (hg : Gd κ st) (hP : Al P (arrOf st)) (n1 : 1 ≤ nrem) (hz : lo + nrem ≤ (arrOf st).size)
    (h : ∀ m st', Ch κ lo (lo + nrem) st st' → 1 ≤ m → m ≤ nrem → Seg rk (arrOf st') lo (lo + m) → Q (some m) st') : wpS M A E s (pCount lo nrem) Q st := by
  have C0 : Ch κ lo (lo + nrem) st st := .refl hg
  refine wpS_bind (wpS_mono (wpS_forRange (I := fun x c st' => st' = st ∧ c = (none, x) ∧ Seg rk (arrOf st) lo (lo + x))
    (Q := fun c st' => st' = st ∧ ∃ n, c = (none, n) ∧ 1 ≤ n ∧ n ≤ nrem ∧ Seg rk (arrOf st) lo (lo + n) ∧ (n = nrem ∨ rk (el (arrOf st) (lo + n)) < rk (el (arrOf st) (lo + n - 1)))) ?step ?fin ⟨rfl, rfl, ?init⟩) ?post)
  case init => intro i j a1 a2 a3; have : i = j := by omega
               subst this; exact Nat.le_refl _
  case fin =>
    rintro c st' ⟨rfl, rfl, hs⟩
    rw [show max 1 nrem = nrem by omega] at hs ⊢
    exact ⟨rfl, nrem, rfl, n1, Nat.le_refl _, hs, .inl rfl⟩
  case step =>
    rintro x c st' hx1 hx2 ⟨rfl, rfl, hs⟩
    (try dsimp only)
    refine wpS_bind (t_ltAt hC hg hP (by omega) (by omega) ?_)
    cases e : decide (rk (el (arrOf st') (lo + x)) < rk (el (arrOf st') (lo + x - 1))) with
    | true => exact wpS_pure ⟨rfl, x, rfl, hx1, by omega, hs, .inr (by simpa using e)⟩
    | false =>
      have e' : rk (el (arrOf st') (lo + x - 1)) ≤ rk (el (arrOf st') (lo + x)) := by simpa using e
      refine wpS_pure ⟨rfl, rfl, fun i j a1 a2 a3 => ?_⟩
      by_cases b : j < lo + x
      · exact hs i j a1 a2 b
      · have : j = lo + x := by omega
        subst this
        by_cases b2 : i = lo + x
        · subst b2; exact Nat.le_refl _
        · exact Nat.le_trans (hs i (lo + x - 1) a1 (by omega) (by omega)) e'
  case post =>
    rintro c st' ⟨rfl, n, rfl, hn1, hn2, hs, hor⟩
    extract_lets -merge -underBinder +onlyGivenNames xa1 xa2
    (try dsimp -zeta -zetaHave only [xa1, xa2])
    (try clear xa2 xa1)
    (try dsimp -zeta -zetaHave only)
    split
    · rename_i e
      exact wpS_pure (h n st' C0 hn1 hn2 hs)
    rename_i e
    have hnn : n < nrem := by simp at e; omega
    have hlt := hor.resolve_left (by omega)
    extract_lets -merge -underBinder +onlyGivenNames jp
    have J : ∀ u st1, Ch κ lo (lo + nrem) st' st1 → Dsc rk (arrOf st1) lo (lo + (n + 1)) → wpS M A E s (jp u) Q st1 := by
      intro u st1 C1 hd
      dsimp -zeta -zetaHave only [jp]
      refine wpS_bind (t_rule ?_)
      extract_lets -merge -underBinder +onlyGivenNames xa1 xa2
      (try dsimp -zeta -zetaHave only [xa1, xa2])
      (try clear xa2 xa1)
      refine wpS_bind (wpS_mono (wpS_forRange (I := fun x c st2 => Ch κ lo (lo + nrem) st' st2 ∧ ∃ neq, c = (none, x, neq) ∧ Dsc rk (arrOf st2) lo (lo + x) ∧ neq + 1 ≤ x ∧
          (∀ i, lo + x - (neq + 1) ≤ i → i < lo + x → rk (el (arrOf st2) i) = rk (el (arrOf st2) (lo + x - 1))))
        (Q := fun c st2 => Ch κ lo (lo + nrem) st' st2 ∧ ∃ x neq, c = (none, x, neq) ∧ n + 1 ≤ x ∧ x ≤ nrem ∧ Dsc rk (arrOf st2) lo (lo + x) ∧ neq + 1 ≤ x ∧
          (∀ i, lo + x - (neq + 1) ≤ i → i < lo + x → rk (el (arrOf st2) i) = rk (el (arrOf st2) (lo + x - 1)))) ?dstep ?dfin
          ⟨C1, 0, rfl, hd, by omega, fun i b1 b2 => by congr 2; omega⟩) ?dpost)
      case dfin =>
        rintro c st2 ⟨C2, neq, rfl, d2, b1, b2⟩
        rw [show max (n + 1) nrem = nrem by omega] at d2 b1 b2 ⊢
        exact ⟨C2, nrem, neq, rfl, by omega, Nat.le_refl _, d2, b1, b2⟩
      case dstep =>
        rintro x c st2 hx1 hx2 ⟨C2, neq, rfl, d2, b1, b2⟩
        extract_lets -merge -underBinder +onlyGivenNames xa1 xa2 xa3
        (try dsimp -zeta -zetaHave only [xa1, xa2, xa3])
        (try clear xa3 xa2 xa1)
        have hsz := C2.size
        have up : ∀ ys : Array Keyed, (∀ k, rk (el ys k) = rk (el (arrOf st2) k)) → rk (el (arrOf st2) (lo + x)) ≤ rk (el (arrOf st2) (lo + x - 1)) → Dsc rk ys lo (lo + (x + 1)) := by
          intro ys hk hle i j a1 a2 a3
          rw [hk, hk]
          by_cases b : j < lo + x
          · exact d2 i j a1 a2 b
          · have : j = lo + x := by omega
            subst this
            by_cases b3 : i = lo + x
            · subst b3; exact Nat.le_refl _
            · exact Nat.le_trans hle (d2 i (lo + x - 1) a1 (by omega) (by omega))
        refine wpS_bind (t_ltAt hC C2.gd (C2.al hP) (by omega) (by omega) ?_)
        cases e : decide (rk (el (arrOf st2) (lo + x)) < rk (el (arrOf st2) (lo + x - 1))) with
        | true =>
          have e' : rk (el (arrOf st2) (lo + x)) < rk (el (arrOf st2) (lo + x - 1)) := by simpa using e
          (try dsimp only)
          rw [if_pos rfl]
          split
          · refine wpS_bind (t_rev (wpS_pure ⟨C2.rev (by omega) (by omega) (by omega), 0, rfl, up _ (rk_mirror (by omega) b2) (Nat.le_of_lt e'), by omega, fun i b1 b2 => by congr 2; omega⟩))
          · exact wpS_pure ⟨C2, 0, rfl, up _ (fun _ => rfl) (Nat.le_of_lt e'), by omega, fun i b1 b2 => by congr 2; omega⟩
        | false =>
          have e' : rk (el (arrOf st2) (lo + x - 1)) ≤ rk (el (arrOf st2) (lo + x)) := by simpa using e
          (try dsimp only)
          rw [if_neg (by simp)]
          refine wpS_bind (t_ltAt hC C2.gd (C2.al hP) (by omega) (by omega) ?_)
          cases e2 : decide (rk (el (arrOf st2) (lo + x - 1)) < rk (el (arrOf st2) (lo + x))) with
          | true => exact wpS_pure ⟨C2, x, neq, rfl, hx1, by omega, d2, b1, b2⟩
          | false =>
            have e2' : rk (el (arrOf st2) (lo + x)) ≤ rk (el (arrOf st2) (lo + x - 1)) := by simpa using e2
            refine wpS_pure ⟨C2, neq + 1, rfl, up _ (fun _ => rfl) e2', by omega, fun i c1 c2 => ?_⟩
            rw [show lo + (x + 1) - 1 = lo + x by omega]
            by_cases b : i = lo + x
            · rw [b]
            · rw [b2 i (by omega) (by omega)]; omega
      case dpost =>
        rintro c st2 ⟨C2, x, neq, rfl, hx1, hx2, d2, b1, b2⟩
        extract_lets -merge -underBinder +onlyGivenNames xa1 xa2 xa3 xa4
        (try dsimp -zeta -zetaHave only [xa1, xa2, xa3, xa4])
        (try clear xa4 xa3 xa2 xa1)
        (try dsimp -zeta -zetaHave only)
        have hsz := C2.size
        extract_lets -merge -underBinder +onlyGivenNames jp2
        have J2 : ∀ u st3, Ch κ lo (lo + nrem) st' st3 → Dsc rk (arrOf st3) lo (lo + x) → wpS M A E s (jp2 u) Q st3 := by
          intro u st3 C3 d3
          have hsz3 := C3.size
          dsimp -zeta -zetaHave only [jp2]
          refine wpS_bind (t_rev ?_)
          have C4 := C3.rev (i := lo) (j := lo + x) (Nat.le_refl _) (by omega) hz
          have a4 : Seg rk (arrOf (setArr st3 (mirror (arrOf st3) lo (lo + x) ((lo + x - lo) / 2)))) lo (lo + x) := by
            intro i j a1 a2 a3
            show rk (el (mirror _ _ _ _) i) ≤ rk (el (mirror _ _ _ _) j)
            rw [el_mirror (by omega), el_mirror (by omega), if_pos (by omega), if_pos (by omega)]
            exact d3 _ _ (by omega) (by omega) (by omega)
          generalize setArr st3 (mirror (arrOf st3) lo (lo + x) ((lo + x - lo) / 2)) = st4 at C4 a4 ⊢
          have hsz4 := C4.size
          refine wpS_bind (wpS_mono (wpS_forRange (I := fun y c st5 => st5 = st4 ∧ c = (none, y) ∧ Seg rk (arrOf st4) lo (lo + y))
            (Q := fun c st5 => st5 = st4 ∧ ∃ m, c = (none, m) ∧ 1 ≤ m ∧ m ≤ nrem ∧ Seg rk (arrOf st4) lo (lo + m)) ?astep ?afin ⟨rfl, rfl, a4⟩) ?apost)
          case afin =>
            rintro c st5 ⟨rfl, rfl, hs⟩
            rw [show max x nrem = nrem by omega] at hs ⊢
            exact ⟨rfl, nrem, rfl, n1, Nat.le_refl _, hs⟩
          case apost =>
            rintro c st5 ⟨rfl, m, rfl, m1, m2, hs⟩
            exact wpS_pure (h m st5 C4 m1 m2 hs)
          case astep =>
            rintro y c st5 hy1 hy2 ⟨rfl, rfl, hs⟩
            (try dsimp only)
            refine wpS_bind (t_ltAt hC C4.gd (C4.al hP) (by omega) (by omega) ?_)
            cases e : decide (rk (el (arrOf st5) (lo + y)) < rk (el (arrOf st5) (lo + y - 1))) with
            | true => exact wpS_pure ⟨rfl, y, rfl, by omega, by omega, hs⟩
            | false =>
              have e' : rk (el (arrOf st5) (lo + y - 1)) ≤ rk (el (arrOf st5) (lo + y)) := by simpa using e
              refine wpS_pure ⟨rfl, rfl, fun i j a1 a2 a3 => ?_⟩
              by_cases b : j < lo + y
              · exact hs i j a1 a2 b
              · have : j = lo + y := by omega
                subst this
                by_cases b2 : i = lo + y
                · subst b2; exact Nat.le_refl _
                · exact Nat.le_trans (hs i (lo + y - 1) a1 (by omega) (by omega)) e'
        clear_value jp2
        split
        · refine wpS_bind (t_rev (J2 _ _ (C2.rev (by omega) (by omega) hz) fun i j a1 a2 a3 => ?_))
          show rk (el (mirror _ _ _ _) j) ≤ rk (el (mirror _ _ _ _) i)
          rw [rk_mirror (by omega) b2, rk_mirror (by omega) b2]
          exact d2 i j a1 a2 a3
        · exact J2 _ _ C2 d2
    clear_value jp
    split
    · refine wpS_bind (t_ltAt hC hg hP (by omega) (by omega) ?_)
      cases e : decide (rk (el (arrOf st') lo) < rk (el (arrOf st') (lo + n - 1))) with
      | true =>
        exact wpS_pure (h n st' C0 hn1 hn2 hs)
      | false =>
        have e' : rk (el (arrOf st') (lo + n - 1)) ≤ rk (el (arrOf st') lo) := by simpa using e
        have all : ∀ k, lo ≤ k → k < lo + n → rk (el (arrOf st') k) = rk (el (arrOf st') (lo + n - 1)) := by
          intro k k1 k2
          have a1 := hs lo k (Nat.le_refl _) k1 k2
          have a2 := hs k (lo + n - 1) k1 (by omega) (by omega)
          omega
        (try dsimp only)
        rw [if_neg (by simp)]
        refine wpS_bind (t_rev (J _ _ (C0.rev (Nat.le_refl _) (by omega) hz) fun i j a1 a2 a3 => ?_))
        show rk (el (mirror _ _ _ _) j) ≤ rk (el (mirror _ _ _ _) i)
        rw [rk_mirror (by omega) all, rk_mirror (by omega) all]
        by_cases b : j < lo + n
        · rw [all j (by omega) b, all i (by omega) (by omega)]; exact Nat.le_refl _
        · have : j = lo + n := by omega
          subst this
          by_cases b3 : i = lo + n
          · subst b3; exact Nat.le_refl _
          · rw [all i a1 (by omega)]; exact Nat.le_of_lt hlt
    · have : n = 1 := by omega
      subst this
      refine J _ _ C0 fun i j a1 a2 a3 => ?_
      by_cases b3 : i = j
      · subst b3; exact Nat.le_refl _
      · have : i = lo := by omega
        subst this
        have : j = i + 1 := by omega
        subst this
        exact Nat.le_of_lt hlt
theorem t_bin {lo n ok : Nat} {Q : Bool → SortSt → Prop} (hC : Cmp M A s κ P rk) (hg : Gd κ st) (hP : Al P (arrOf st)) (hok : ok ≤ n) (hz : lo + n ≤ (arrOf st).size) (hs : Seg rk (arrOf st) lo (lo + ok))
    (h : ∀ st', Ch κ lo (lo + n) st st' → Seg rk (arrOf st') lo (lo + n) → Q true st') : wpS M A E s (pBin lo n ok) Q st := by
  refine wpS_bind (wpS_mono (wpS_forRange (I := fun k c st' => c = (none, ()) ∧ Ch κ lo (lo + n) st st' ∧ Seg rk (arrOf st') lo (lo + min k n))
    (Q := fun c st' => c = (none, ()) ∧ Ch κ lo (lo + n) st st' ∧ Seg rk (arrOf st') lo (lo + n)) ?step ?fin ?init) ?post)
  case post =>
    rintro c st' ⟨rfl, C, hs'⟩
    exact wpS_pure (h st' C hs')
  case init =>
    refine ⟨rfl, .refl hg, fun i j a1 a2 a3 => ?_⟩
    by_cases b : ok = 0
    · have : i = j := by omega
      subst this; exact Nat.le_refl _
    · exact hs i j a1 a2 (by omega)
  case fin =>
    rintro c st' ⟨hc, C, hs'⟩
    refine ⟨hc, C, ?_⟩
    rwa [show min (max (max ok 1) n) n = n by omega] at hs'
  case step =>
    rintro k c st' hk1 hk2 ⟨rfl, C, hs'⟩
    rw [show min k n = k by omega] at hs'
    have hsz := C.size
    extract_lets -merge -underBinder +onlyGivenNames xa1 xa2
    (try dsimp -zeta -zetaHave only [xa1, xa2])
    (try clear xa2 xa1)
    refine wpS_bind (wpS_mono (wpS_forRange (I := fun x c st2 => st2 = st' ∧ ∃ l r, c = (none, l, r) ∧ l ≤ r ∧ r ≤ k ∧ r - l ≤ k - x ∧
        (∀ i, lo ≤ i → i < lo + l → rk (el (arrOf st') i) ≤ rk (el (arrOf st') (lo + k))) ∧ (∀ i, lo + r ≤ i → i < lo + k → rk (el (arrOf st') (lo + k)) < rk (el (arrOf st') i)))
      (Q := fun c st2 => st2 = st' ∧ ∃ l r, c = (none, l, r) ∧ l ≤ k ∧
        (∀ i, lo ≤ i → i < lo + l → rk (el (arrOf st') i) ≤ rk (el (arrOf st') (lo + k))) ∧ (∀ i, lo + l ≤ i → i < lo + k → rk (el (arrOf st') (lo + k)) < rk (el (arrOf st') i))) ?istep ?ifin ?iinit) ?ipost)
    case iinit => exact ⟨rfl, 0, k, rfl, by omega, by omega, by omega, fun i _ _ => by omega, fun i _ _ => by omega⟩
    case ifin =>
      rintro c st2 ⟨rfl, l, r, rfl, b1, b2, b3, b4, b5⟩
      have : l = r := by omega
      subst this
      exact ⟨rfl, l, l, rfl, b2, b4, b5⟩
    case istep =>
      rintro x c st2 _ hx ⟨rfl, l, r, rfl, b1, b2, b3, b4, b5⟩
      (try dsimp only)
      split
      · have : l = r := by omega
        subst this
        exact wpS_pure ⟨rfl, l, l, rfl, b2, b4, b5⟩
      · refine wpS_bind (t_ltAt hC C.gd (C.al hP) (by omega) (by omega) ?_)
        cases e : decide (rk (el (arrOf st2) (lo + k)) < rk (el (arrOf st2) (lo + (l + r) / 2))) with
        | true =>
          have e' : rk (el (arrOf st2) (lo + k)) < rk (el (arrOf st2) (lo + (l + r) / 2)) := by simpa using e
          exact wpS_pure ⟨rfl, l, _, rfl, by omega, by omega, by omega, b4, fun i c1 c2 => Nat.lt_of_lt_of_le e' (hs' _ _ (by omega) c1 c2)⟩
        | false =>
          have e' : rk (el (arrOf st2) (lo + (l + r) / 2)) ≤ rk (el (arrOf st2) (lo + k)) := by simpa using e
          exact wpS_pure ⟨rfl, _, r, rfl, by omega, by omega, by omega, fun i c1 c2 => Nat.le_trans (hs' i (lo + (l + r) / 2) c1 (by omega) (by omega)) e', b5⟩
    case ipost =>
      rintro c st2 ⟨rfl, l, r, rfl, b1, b2, b3⟩
      extract_lets -merge -underBinder +onlyGivenNames xa1 xa2 xa3
      (try dsimp -zeta -zetaHave only [xa1, xa2, xa3])
      (try clear xa3 xa2 xa1)
      (try dsimp only)
      refine wpS_bind (t_down (wpS_pure ⟨rfl, C.down (by omega) (by omega) (by omega) hz, ?_⟩))
      rw [show min (k + 1) n = k + 1 by omega]
      intro i j a1 a2 a3
      show rk (el (bubble _ _ _) i) ≤ rk (el (bubble _ _ _) j)
      rw [el_bubble (by omega) (by omega), el_bubble (by omega) (by omega), show lo + k - (lo + k - (lo + l)) = lo + l by omega]
      repeat' split
      all_goals first
        | (exfalso; omega)
        | exact Nat.le_refl _
        | exact b2 _ (by omega) (by omega)
        | exact Nat.le_of_lt (b3 _ (by omega) (by omega))
        | exact hs' _ _ (by omega) (by omega) (by omega)
end
end TS
namespace TS
open PySem PyProof.Rows
def Runs (rk : Keyed → Nat) (a : Array Keyed) : List (Nat × Nat × Nat) → Nat → Nat → Prop
  | [], st, en => st = en
  | x :: rest, st, en => x.1 = st ∧ 1 ≤ x.2.1 ∧ Seg rk a st (st + x.2.1) ∧ Runs rk a rest (st + x.2.1) en
section
variable {rk : Keyed → Nat} {a a' : Array Keyed}
theorem Runs.append : ∀ {l1 l2 : List (Nat × Nat × Nat)} {st en : Nat}, Runs rk a (l1 ++ l2) st en ↔ ∃ m, Runs rk a l1 st m ∧ Runs rk a l2 m en
  | [], l2, st, en => ⟨fun h => ⟨st, rfl, h⟩, fun ⟨m, h1, h2⟩ => by cases (h1 : st = m); exact h2⟩
  | x :: l1, l2, st, en => by
    constructor
    · rintro ⟨h1, h2, h3, h4⟩
      obtain ⟨m, m1, m2⟩ := Runs.append.mp h4
      exact ⟨m, ⟨h1, h2, h3, m1⟩, m2⟩
    · rintro ⟨m, ⟨h1, h2, h3, m1⟩, m2⟩
      exact ⟨h1, h2, h3, Runs.append.mpr ⟨m, m1, m2⟩⟩
theorem Runs.le : ∀ {l : List (Nat × Nat × Nat)} {st en : Nat}, Runs rk a l st en → st + l.length ≤ en
  | [], st, en, h => by cases (h : st = en); simp
  | x :: l, st, en, ⟨_, h2, _, h4⟩ => by have := Runs.le h4; simp; omega
theorem Runs.congr : ∀ {l : List (Nat × Nat × Nat)} {st en : Nat}, (∀ j, st ≤ j → j < en → el a' j = el a j) → Runs rk a l st en → Runs rk a' l st en
  | [], _, _, _, h => h
  | x :: l, st, en, hc, ⟨h1, h2, h3, h4⟩ => by
    have := Runs.le h4
    refine ⟨h1, h2, fun i j a1 a2 a3 => ?_, Runs.congr (fun j j1 j2 => hc j (by omega) j2) h4⟩
    rw [hc i a1 (by omega), hc j (by omega) (by omega)]
    exact h3 i j a1 a2 a3
theorem Runs.other : ∀ {l l' : List (Nat × Nat × Nat)} {st en : Nat}, l.map (fun x => (x.1, x.2.1)) = l'.map (fun x => (x.1, x.2.1)) → Runs rk a l st en → Runs rk a l' st en
  | [], [], _, _, _, h => h
  | [], _ :: _, _, _, e, _ => by simp at e
  | _ :: _, [], _, _, e, _ => by simp at e
  | x :: l, y :: l', st, en, e, ⟨h1, h2, h3, h4⟩ => by
    simp only [List.map_cons, List.cons.injEq, Prod.mk.injEq] at e
    obtain ⟨⟨e1, e2⟩, e3⟩ := e
    exact ⟨e1 ▸ h1, e2 ▸ h2, e2 ▸ h3, Runs.other e3 (e2 ▸ h4)⟩
end
section
variable {M : Model} {A : Around} {E : Value → Shared → Prop} {s : Shared} {κ : SortKind} {P : Keyed → Prop} {rk : Keyed → Nat} {st : SortSt}
theorem t_mergeR {i lo : Nat} {Q : Bool → SortSt → Prop} (hC : Cmp M A s κ P rk) (hg : Gd κ st) (hP : Al P (arrOf st)) (hR : Runs rk (arrOf st) (pendingOf st).toList 0 lo) (hlo : lo ≤ (arrOf st).size) (hi : i + 1 < (pendingOf st).size)
    (h : ∀ st', Gd κ st' → (arrOf st').toList.Perm (arrOf st).toList → (∀ j, lo ≤ j → el (arrOf st') j = el (arrOf st) j) → Runs rk (arrOf st') (pendingOf st').toList 0 lo → (pendingOf st').size + 1 = (pendingOf st).size → Q true st') :
    wpS M A E s (pMerge i) Q st := by
  have hl : (pendingOf st).toList.length = (pendingOf st).size := by simp
  obtain ⟨x, y, l2, hp⟩ : ∃ x y l2, (pendingOf st).toList.drop i = x :: y :: l2 := by
    have e1 := List.drop_eq_getElem_cons (l := (pendingOf st).toList) (i := i) (by omega)
    have e2 := List.drop_eq_getElem_cons (l := (pendingOf st).toList) (i := i + 1) (by omega)
    rw [e2] at e1
    exact ⟨_, _, _, e1⟩
  have hp' : (pendingOf st).toList = (pendingOf st).toList.take i ++ x :: y :: l2 := by rw [← hp, List.take_append_drop]
  have hlen : ((pendingOf st).toList.take i).length = i := by rw [List.length_take]; omega
  generalize (pendingOf st).toList.take i = l1 at hp' hlen
  rw [hp'] at hR
  obtain ⟨m, r1, x1, x2, x3, y1, y2, y3, r2⟩ := Runs.append.mp hR
  obtain ⟨sa, na, pa⟩ := x
  obtain ⟨sb, nb, pb⟩ := y
  dsimp only at x1 x2 x3 y1 y2 y3 r2
  subst x1
  subst y1
  have le := r2.le
  have le1 := r1.le
  refine t_merge hC hg hP hp' hlen x2 y2 (by omega) x3 y3 fun st' g' p' o' s' e' => h st' g' p' (fun j hj => o' j (by omega)) ?_ ?_
  · rw [e']
    refine Runs.append.mpr ⟨sa, r1.congr fun j _ hj => o' j (by omega), rfl, by show 1 ≤ na + nb; omega, ?_, ?_⟩
    · show Seg rk _ sa (sa + (na + nb)); rw [← Nat.add_assoc]; exact s'
    · show Runs rk _ _ (sa + (na + nb)) _; rw [← Nat.add_assoc]; exact r2.congr fun j hj _ => o' j (by omega)
  · have a1 := congrArg List.length e'
    have a2 := congrArg List.length hp'
    simp at a1 a2
    omega
theorem t_sort {Q : Unit → SortSt → Prop} (hC : Cmp M A s κ P rk) (hg : Gd κ st) (hP : Al P (arrOf st)) (hp : pendingOf st = #[])
    (h : ∀ st', Gd κ st' → (arrOf st').toList.Perm (arrOf st).toList → Srt rk (arrOf st') → Q () st') : wpS M A E s pSort Q st := by
  refine wpS_bind (wpS_get ?_)
  extract_lets -merge -underBinder +onlyGivenNames size
  extract_lets -merge -underBinder +onlyGivenNames minrun
  have hsz : size = (arrOf st).size := rfl
  clear_value minrun
  clear_value size
  extract_lets -merge -underBinder +onlyGivenNames xa1
  (try dsimp -zeta -zetaHave only [xa1])
  (try clear xa1)
  have alOf : ∀ {st' : SortSt}, (arrOf st').toList.Perm (arrOf st).toList → Al P (arrOf st') := fun p x hx => hP x (p.mem_iff.mp hx)
  have szOf : ∀ {st' : SortSt}, (arrOf st').toList.Perm (arrOf st).toList → (arrOf st').size = size := fun p => by have := p.length_eq; simp at this; omega
  refine wpS_bind (wpS_mono (wpS_forRange
    (I := fun x c st' => Gd κ st' ∧ (arrOf st').toList.Perm (arrOf st).toList ∧ ∃ lo, c = (none, lo) ∧ x ≤ lo ∧ lo ≤ size ∧ Runs rk (arrOf st') (pendingOf st').toList 0 lo)
    (Q := fun c st' => Gd κ st' ∧ (arrOf st').toList.Perm (arrOf st).toList ∧ c = (none, size) ∧ Runs rk (arrOf st') (pendingOf st').toList 0 size) ?step ?fin ⟨hg, .refl _, 0, rfl, by omega, by omega, ?init⟩) ?post)
  case init => rw [hp]; rfl
  case fin =>
    rintro c st' ⟨g, p, lo, rfl, b1, b2, r⟩
    have : lo = size := by omega
    subst this
    exact ⟨g, p, rfl, r⟩
  case step =>
    rintro x c st' _ hx ⟨g, p, lo, rfl, b1, b2, r⟩
    have sz' := szOf p
    extract_lets -merge -underBinder +onlyGivenNames xa1
    (try dsimp -zeta -zetaHave only [xa1])
    (try clear xa1)
    split
    · have : lo = size := by omega
      subst this
      exact wpS_pure ⟨g, p, rfl, r⟩
    refine t_named fun R hR => ?_
    refine wpS_bind (t_count hC g (alOf p) (by omega) (by omega) fun m st1 C1 m1 m2 s1 => ?_)
    (try dsimp -zeta -zetaHave only)
    extract_lets -merge -underBinder +onlyGivenNames xa1
    (try dsimp -zeta -zetaHave only [xa1])
    (try clear xa1)
    extract_lets -merge -underBinder +onlyGivenNames jp
    have J : ∀ u n st2, Gd κ st2 → (arrOf st2).toList.Perm (arrOf st).toList → 1 ≤ n → lo + n ≤ size → Runs rk (arrOf st2) (pendingOf st2).toList 0 lo → Seg rk (arrOf st2) lo (lo + n) → wpS M A E s (jp u n) R st2 := by
      intro u n st2 g2 p2 n1 n2 r2 s2
      dsimp -zeta -zetaHave only [jp]
      refine wpS_bind (wpS_get ?_)
      extract_lets -merge -underBinder +onlyGivenNames jp2
      have J2 : ∀ u st3, Gd κ st3 → (arrOf st3).toList.Perm (arrOf st).toList → Runs rk (arrOf st3) (pendingOf st3).toList 0 lo → Seg rk (arrOf st3) lo (lo + n) → wpS M A E s (jp2 u) R st3 := by
        intro u st3 g3 p3 r3 s3
        dsimp -zeta -zetaHave only [jp2]
        refine wpS_bind (wpS_modify (wpS_pure (hR _ _ ⟨⟨g3.kind, g3.fine⟩, p3, lo + n, rfl, by omega, n2, ?_⟩)))
        show Runs rk (arrOf st3) ((pendingOf st3).push (lo, n, 0)).toList 0 (lo + n)
        rw [Array.toList_push]
        exact Runs.append.mpr ⟨lo, r3, rfl, n1, s3, rfl⟩
      clear_value jp2
      split
      · extract_lets -merge -underBinder +onlyGivenNames pw
        clear_value pw
        refine wpS_bind (wpS_mono (wpS_forRange
          (I := fun _ c st3 => c = (none, ()) ∧ Gd κ st3 ∧ (arrOf st3).toList.Perm (arrOf st).toList ∧ Runs rk (arrOf st3) (pendingOf st3).toList 0 lo ∧ Seg rk (arrOf st3) lo (lo + n))
          (Q := fun c st3 => c = (none, ()) ∧ Gd κ st3 ∧ (arrOf st3).toList.Perm (arrOf st).toList ∧ Runs rk (arrOf st3) (pendingOf st3).toList 0 lo ∧ Seg rk (arrOf st3) lo (lo + n)) ?mstep ?mfin ⟨rfl, g2, p2, r2, s2⟩) ?mpost)
        case mfin => exact fun c st3 hh => hh
        case mstep =>
          rintro y c st3 _ _ ⟨rfl, g3, p3, r3, s3⟩
          refine wpS_bind (wpS_get ?_)
          extract_lets -merge -underBinder +onlyGivenNames xa1
          (try dsimp -zeta -zetaHave only [xa1])
          (try clear xa1)
          split
          · split
            · exact wpS_pure ⟨rfl, g3, p3, r3, s3⟩
            · rename_i hq _
              have hsz3 : 1 < (pendingOf st3).size := by
                rcases Nat.lt_or_ge 1 (pendingOf st3).size with hh | hh
                · exact hh
                · have hh' : ¬ ((sortPriv% PySem.Builtin.SortState.pending) st3).size > 1 := by exact Nat.not_lt.mpr hh
                  rw [if_neg hh'] at hq
                  exact absurd hq (by simp)
              refine wpS_bind (t_mergeR hC g3 (alOf p3) r3 (by have := szOf p3; omega) (by show (pendingOf st3).size - 2 + 1 < _; omega) fun st4 g4 p4 o4 r4 _ => ?_)
              refine wpS_pure ⟨rfl, g4, p4.trans p3, r4, fun i j a1 a2 a3 => ?_⟩
              rw [o4 i a1, o4 j (by omega)]
              exact s3 i j a1 a2 a3
          · exact wpS_pure ⟨rfl, g3, p3, r3, s3⟩
        case mpost =>
          rintro c st3 ⟨rfl, g3, p3, r3, s3⟩
          extract_lets -merge -underBinder +onlyGivenNames xa1
          (try dsimp -zeta -zetaHave only [xa1])
          (try clear xa1)
          (try dsimp only)
          refine wpS_bind (wpS_modify (J2 _ _ ⟨g3.kind, g3.fine⟩ p3 ?_ s3))
          refine Runs.other ?_ r3
          show List.map _ (pendingOf st3).toList = List.map _ ((pendingOf st3).modify ((pendingOf st3).size - 1) fun x => (x.1, x.2.1, pw)).toList
          apply List.ext_getElem?
          intro k
          simp only [List.getElem?_map, Array.getElem?_toList, Array.getElem?_modify]
          split
          · rcases (pendingOf st3)[k]? with _ | ⟨_, _, _⟩ <;> rfl
          · rfl
      · exact J2 _ _ g2 p2 r2 s2
    clear_value jp
    have r1 : Runs rk (arrOf st1) (pendingOf st1).toList 0 lo := by
      rw [C1.pend]; exact r.congr fun j _ hj => C1.out j (.inl hj)
    have p1 := C1.perm.trans p
    have sz1 := szOf p1
    split
    · refine wpS_bind (t_rule ?_)
      extract_lets -merge -underBinder +onlyGivenNames xa1
      (try dsimp -zeta -zetaHave only [xa1])
      (try clear xa1)
      rename_i hlt
      refine wpS_bind (t_bin hC C1.gd (alOf p1) (by omega) (by omega) s1 fun st2 C2 s2 => ?_)
      (try dsimp only)
      refine J _ _ _ C2.gd (C2.perm.trans p1) (by omega) (by omega) ?_ s2
      rw [C2.pend]; exact r1.congr fun j _ hj => C2.out j (.inl hj)
    · exact J _ _ _ C1.gd p1 m1 (by omega) r1 s1
  case post =>
    rintro c st' ⟨g, p, rfl, r⟩
    extract_lets -merge -underBinder +onlyGivenNames xa1 xa2
    (try dsimp -zeta -zetaHave only [xa1, xa2])
    (try clear xa2 xa1)
    (try dsimp -zeta -zetaHave only)
    have sz' := szOf p
    have le := r.le
    refine wpS_bind (wpS_mono (wpS_forRange
      (I := fun x c st3 => c = (none, ()) ∧ Gd κ st3 ∧ (arrOf st3).toList.Perm (arrOf st).toList ∧ Runs rk (arrOf st3) (pendingOf st3).toList 0 size ∧ ((pendingOf st3).size ≤ 1 ∨ (pendingOf st3).size + x ≤ size))
      (Q := fun c st3 => c = (none, ()) ∧ Gd κ st3 ∧ (arrOf st3).toList.Perm (arrOf st).toList ∧ Runs rk (arrOf st3) (pendingOf st3).toList 0 size ∧ (pendingOf st3).size ≤ 1) ?cstep ?cfin ⟨rfl, g, p, r, .inr (by simp at le ⊢; exact le)⟩) ?cpost)
    case cfin =>
      rintro c st3 ⟨hc, g3, p3, r3, b⟩
      exact ⟨hc, g3, p3, r3, by omega⟩
    case cpost =>
      rintro c st3 ⟨rfl, g3, p3, r3, b⟩
      refine wpS_pure (h st3 g3 p3 ?_)
      have hl : (pendingOf st3).toList.length ≤ 1 := by simpa using b
      have sz3 := szOf p3
      match hq : (pendingOf st3).toList, r3, hl with
      | [], r3, _ => have e : (0 : Nat) = size := r3
                     intro i j _ hj; omega
      | [x], r3, _ =>
        obtain ⟨_, _, s3, e⟩ := r3
        have e' : 0 + x.2.1 = size := e
        rw [e'] at s3
        intro i j hij hj
        exact s3 i j (by omega) hij (by omega)
      | _ :: _ :: _, _, hl => simp at hl
    case cstep =>
      rintro y c st3 _ hy ⟨rfl, g3, p3, r3, b⟩
      (try dsimp -zeta -zetaHave only)
      refine wpS_bind (wpS_get ?_)
      extract_lets -merge -underBinder +onlyGivenNames xa1
      (try dsimp -zeta -zetaHave only [xa1])
      (try clear xa1)
      split
      · rename_i hle
        exact wpS_pure ⟨rfl, g3, p3, r3, hle⟩
      rename_i hgt
      have hgt' : 1 < (pendingOf st3).size := Nat.lt_of_not_le hgt
      extract_lets -merge -underBinder +onlyGivenNames xa1 xa2 xa3
      (try dsimp -zeta -zetaHave only [xa1, xa2, xa3])
      (try clear xa3 xa2 xa1)
      refine wpS_bind (t_mergeR hC g3 (alOf p3) r3 (by have := szOf p3; omega) ?_ fun st4 g4 p4 o4 r4 z4 => ?_)
      · have any2 : ∀ (b : Bool) (n : Nat), n = (pendingOf st3).size → (if b = true then n - 2 - 1 else n - 2) + 1 < (pendingOf st3).size := by
          intro b n hn
          split <;> omega
        exact any2 _ _ rfl
      · exact wpS_pure ⟨rfl, g4, p4.trans p3, r4, by omega⟩
end
end TS
namespace TS
open PySem PyProof.Rows PySem.SeqAt
open AutoSeq1 (wpAny_loadPart')
open MeetsSeq MeetsSeq2 MeetsSeq3 SeqRoads2
def RlAt (A : Around) (s : Shared) (x y : Value) (b : Bool) : Prop :=
  ∀ (prog : Program) (w : World) (E : Value → Shared → Prop) (Q : Value → Shared → Prop), Q (.bool b) s → wpAny (model prog w) A (richCompare .Lt x y) Q E s
def LexOk (A : Around) (s : Shared) : List (Value × Value) → Bool → Prop
  | [], b => b = false
  | (x, y) :: rest, b => ∃ e, EqAt A s x y e ∧ ((e = true ∧ LexOk A s rest b) ∨ (e = false ∧ RlAt A s x y b))
theorem RlAt.int (A : Around) (s : Shared) (i j : Int) (t u : Tok) : RlAt A s (.int i t) (.int j u) (decide (i < j)) := fun _ _ _ _ h => wpAny_lt_int h
theorem tuple_ltAt (l b : Addr) (its its2 : Array Value) (n n2 : Nat) (dd dd2 : Option Addr) (sl sl2 : Array (Option Value)) (hsz : its.size = its2.size) (ans : Bool) :
    Meets (Builtin.«tuple.__lt__» ⟨[.ref l, .ref b], []⟩)
      (fun A R s => s.heap.get? l = some { cls := .type "tuple", dict := dd, data := .seq its n, slots := sl } ∧ s.heap.get? b = some { cls := .type "tuple", dict := dd2, data := .seq its2 n2, slots := sl2 } ∧
        LexOk A.in1 s (its.toList.zip its2.toList) ans ∧ R (.ok (.ret (.bool ans))) s) :=
  .of_wp fun prog w A R s h => by
    obtain ⟨hp, g, d, tk, os⟩ := s; obtain ⟨hl, hb, hx, h⟩ := h
    have f2 := AutoSeq1.sub_tuple_tuple
    wp_walk using wpAny_loadPart' hl, wpAny_loadPart' hb, wpAny_forIn_list _ (fun rest c s' => c.1 = none ∧ s' = ⟨hp, g, d, tk, os⟩ ∧ LexOk A.in1 ⟨hp, g, d, tk, os⟩ rest ans) _
    case turn =>
      rintro ⟨x, y⟩ rest c s' ⟨hc, rfl, e, he, ho⟩
      refine wpAny_bind (he prog w _ _ ?_)
      rcases ho with ⟨rfl, ho⟩ | ⟨rfl, ho⟩
      · wp_walk
        exact ⟨rfl, rfl, ho⟩
      · simp only [Bool.not_false, if_true]
        refine wpAny_bind (wpAny_rule (wpAny_bind (ho prog w _ _ ?_)))
        wp_walk
        exact ⟨_, rfl, h⟩
    case fin =>
      rintro ⟨c1, c2⟩ s' ⟨hc, rfl, ho⟩
      simp only at hc
      subst hc
      cases (show ans = false from ho)
      wp_walk
      refine ⟨_, rfl, ?_⟩
      have e : Builtin.Tuple.tupleCompareSizes .Lt its.size its2.size = .bool false := by simp [Builtin.Tuple.tupleCompareSizes, hsz]
      rw [e]
      exact h
    case h => exact ⟨rfl, rfl, hx⟩
theorem RlAt.tuples {A : Around} {s : Shared} {l b : Addr} {its its2 : Array Value} {ans : Bool} (hl : s.heap.IsTuple l its) (hb : s.heap.IsTuple b its2) (hsz : its.size = its2.size) (hu : A.units < cLine)
    (hx : LexOk A.in1 s (its.toList.zip its2.toList) ans) : RlAt A s (.ref l) (.ref b) ans := fun prog w E Q h => by
  obtain ⟨⟨cls, dd, data, sl⟩, ho, hc, n, hd⟩ := id hl
  obtain ⟨⟨cls2, dd2, data2, sl2⟩, ho2, hc2, n2, hd2⟩ := id hb
  simp only at hc hd hc2 hd2
  subst hc hd hc2 hd2
  exact richCompare_meets_room (op := .Lt) ⟨_, ho, rfl⟩ ⟨_, ho2, rfl⟩ F.slot_tuple_lt F.entry_tuple_lt (F.args_tuple_lt_2 _ _) (tuple_ltAt l b its its2 n n2 dd dd2 sl sl2 hsz ans)
    ⟨ho, ho2, hx, (show Value.bool ans ≠ Value.notImplemented ∧ Q (.bool ans) s from ⟨nofun, h⟩)⟩ hu
theorem lt_loopAt (l b : Addr) (its its2 : Array Value) (n n2 : Nat) (dd dd2 : Option Addr) (sl sl2 : Array (Option Value)) (ans : Bool) (k : Nat) :
    ∀ i : Nat, its.size - i = k → i ≤ its.size → (its.size = its2.size ∨ (i < its.size ∧ i < its2.size)) → Meets (Builtin.«list.__eq__.loop» ⟨[.ref l, .ref b, rawInt i, rawInt 0], []⟩)
      (fun A R s => s.heap.get? l = some { cls := .type "list", dict := dd, data := .seq its n, slots := sl } ∧ s.heap.get? b = some { cls := .type "list", dict := dd2, data := .seq its2 n2, slots := sl2 } ∧
        ((its.size = its2.size ∧ LexOk A.in1 s ((its.toList.zip its2.toList).drop i) ans) ∨
          (∃ (h1 : i < its.size) (h2 : i < its2.size), EqAt A.in1 s its[i] its2[i] false ∧ RlAt A.in1 s its[i] its2[i] ans)) ∧ R (.ok (.ret (.bool ans))) s) := by
  induction k with
  | zero =>
    intro i hk hi hor prog w A R s h
    obtain ⟨hp, g, d, tk, os⟩ := s; obtain ⟨hl, hb, hx, h⟩ := h
    have hsz : its.size = its2.size := by omega
    wp_walk using wpAny_loadPart' hl, wpAny_loadPart' hb
    have e1 : its[((i : Nat) : Int).toNat]? = none := by simp; omega
    have e2 : its2[((i : Nat) : Int).toNat]? = none := by simp; omega
    rw [e1, e2]
    wp_walk using wpAny_loadPart' hl, wpAny_loadPart' hb
    rcases hx with ⟨_, hx⟩ | ⟨h1, _⟩
    · have : (its.toList.zip its2.toList).drop i = [] := List.drop_eq_nil_of_le (by simp; omega)
      rw [this] at hx
      cases (show ans = false from hx)
      show R (.ok (.ret (.bool (decide (its.size < its2.size))))) _
      rw [decide_eq_false (by omega)]
      exact h
    · omega
  | succ k ih =>
    intro i hk hi hor prog w A R s h
    obtain ⟨hp, g, d, tk, os⟩ := s; obtain ⟨hl, hb, hx, h⟩ := h
    have l1 : i < its.size := by omega
    have l2 : i < its2.size := by omega
    wp_walk using wpAny_loadPart' hl, wpAny_loadPart' hb
    have e1 : its[((i : Nat) : Int).toNat]? = some its[i] := by simp [l1]
    have e2 : its2[((i : Nat) : Int).toNat]? = some its2[i] := by simp [l2]
    rw [e1, e2]
    have hx' : ∃ e, EqAt A.in1 ⟨hp, g, d, tk, os⟩ its[i] its2[i] e ∧ ((e = true ∧ its.size = its2.size ∧ LexOk A.in1 ⟨hp, g, d, tk, os⟩ ((its.toList.zip its2.toList).drop (i + 1)) ans) ∨ (e = false ∧ RlAt A.in1 ⟨hp, g, d, tk, os⟩ its[i] its2[i] ans)) := by
      rcases hx with ⟨hsz, hx⟩ | ⟨_, _, a1, a2⟩
      · have hz : i < (its.toList.zip its2.toList).length := by simp; omega
        rw [List.drop_eq_getElem_cons hz] at hx
        have ez : (its.toList.zip its2.toList)[i] = (its[i], its2[i]) := by simp
        rw [ez] at hx
        obtain ⟨e, a1, a2⟩ := hx
        exact ⟨e, a1, a2.imp (fun z => ⟨z.1, hsz, z.2⟩) id⟩
      · exact ⟨false, a1, .inr ⟨rfl, a2⟩⟩
    obtain ⟨e, he, ho⟩ := hx'
    refine wpAny_bind (he prog w _ _ ?_)
    rcases ho with ⟨rfl, hsz, ho⟩ | ⟨rfl, ho⟩
    · have hc : ((i : Int) + 1) = ((i + 1 : Nat) : Int) := by push_cast; rfl
      wp_walk
      rw [hc]
      refine ⟨plainId_quiet plain_eq_loop _, codeAny_builtin entry_eq_loop ?_⟩
      rw [Around.under_plainId plain_eq_loop _]
      exact ih (i + 1) (by omega) (by omega) (.inl hsz) prog w A R _ ⟨hl, hb, .inl ⟨hsz, ho⟩, h⟩
    · wp_walk using wpAny_loadPart' hl, wpAny_loadPart' hb
      rw [e1, e2]
      dsimp only
      refine wpAny_bind (ho prog w _ _ ?_)
      wp_walk
      exact h
theorem list_ltAt (l b : Addr) (its its2 : Array Value) (n n2 : Nat) (dd dd2 : Option Addr) (sl sl2 : Array (Option Value)) (ans : Bool) (hor : its.size = its2.size ∨ (0 < its.size ∧ 0 < its2.size)) :
    Meets (Builtin.«list.__lt__» ⟨[.ref l, .ref b], []⟩)
      (fun A R s => s.heap.get? l = some { cls := .type "list", dict := dd, data := .seq its n, slots := sl } ∧ s.heap.get? b = some { cls := .type "list", dict := dd2, data := .seq its2 n2, slots := sl2 } ∧
        ((its.size = its2.size ∧ LexOk A.in1 s (its.toList.zip its2.toList) ans) ∨
          (∃ (h1 : 0 < its.size) (h2 : 0 < its2.size), EqAt A.in1 s its[0] its2[0] false ∧ RlAt A.in1 s its[0] its2[0] ans)) ∧ R (.ok (.ret (.bool ans))) s) := by
  intro prog w A R s h
  obtain ⟨hp, g, d, tk, os⟩ := s; obtain ⟨hl, hb, hx, h⟩ := h
  have f3 := AutoSeq1.sub_list_list
  wp_walk using wpAny_loadPart' hl, wpAny_loadPart' hb
  refine ⟨plainId_quiet plain_eq_loop _, codeAny_builtin entry_eq_loop ?_⟩
  rw [Around.under_plainId plain_eq_loop _]
  exact lt_loopAt l b its its2 n n2 dd dd2 sl sl2 ans _ 0 rfl (Nat.zero_le _) hor prog w A R _ ⟨hl, hb, (by simpa using hx), h⟩
end TS
namespace TS
open PySem PyProof.Rows PySem.SeqAt
def rkO (f : Addr → Nat) (p : Keyed) : Nat := match p.1 with
  | .ref a => f a
  | _ => 0
def inO (as : List Addr) (p : Keyed) : Prop := ∃ a ∈ as, p = (.ref a, .ref a)
def Asks (prog : Program) (w : World) (A : Around) (s : Shared) (as : List Addr) (f : Addr → Nat) : Prop :=
  ∃ κ, (∀ (E : Value → Shared → Prop) (Q : SortKind → Shared → Prop), Q κ s → wpAny (model prog w) A (keyKind' (as.map Value.ref).toArray) Q E s) ∧ Cmp (model prog w) A s κ (inO as) (rkO f)
theorem zip_al (as : List Addr) : Al (inO as) ((as.map Value.ref).toArray.zip (as.map Value.ref).toArray) := by
  intro p hp
  have e : ((as.map Value.ref).toArray.zip (as.map Value.ref).toArray).toList = as.map fun a => (Value.ref a, Value.ref a) := by
    rw [Array.toList_zip]
    simp only [List.zip_map']
  rw [e] at hp
  obtain ⟨a, ha, rfl⟩ := List.mem_map.mp hp
  exact ⟨a, ha, rfl⟩
theorem out_of {as : List Addr} {f : Addr → Nat} {a : Array Keyed} (hp : a.toList.Perm ((as.map Value.ref).toArray.zip (as.map Value.ref).toArray).toList) (hs : Srt (rkO f) a) :
    ∃ bs : List Addr, bs.Perm as ∧ bs.Pairwise (fun x y => f x ≤ f y) ∧ a.map (·.2) = (bs.map Value.ref).toArray := by
  have e : ((as.map Value.ref).toArray.zip (as.map Value.ref).toArray).toList = as.map fun a => (Value.ref a, Value.ref a) := by
    rw [Array.toList_zip]
    simp only [List.zip_map']
  rw [e] at hp
  let g : Keyed → Addr := fun p => match p.1 with | .ref a => a | _ => 0
  have hg : ∀ p ∈ a.toList, p = (Value.ref (g p), Value.ref (g p)) := by
    intro p hm
    obtain ⟨b, _, rfl⟩ := List.mem_map.mp (hp.mem_iff.mp hm)
    rfl
  refine ⟨a.toList.map g, ?_, ?_, ?_⟩
  · have := hp.map g
    rw [List.map_map] at this
    have e2 : as.map (g ∘ fun a => (Value.ref a, Value.ref a)) = as := by
      have : (g ∘ fun a => (Value.ref a, Value.ref a)) = id := rfl
      rw [this, List.map_id]
    rwa [e2] at this
  · have hq := pw_iff.mpr hs
    rw [List.pairwise_map]
    refine hq.imp_of_mem fun {x y} hx hy hle => ?_
    have e1 : rkO f x = f (g x) := by rw [hg x hx]; rfl
    have e2 : rkO f y = f (g y) := by rw [hg y hy]; rfl
    rw [e1, e2] at hle
    exact hle
  · apply Array.toList_inj.mp
    rw [Array.toList_map, List.toList_toArray, List.map_map]
    refine List.map_congr_left fun p hm => ?_
    have := hg p hm
    exact congrArg Prod.snd this
section
variable {prog : Program} {w : World} {A : Around} {E : Value → Shared → Prop} {s : Shared}
theorem t_listSort {a : Addr} {as : List Addr} {n : Nat} {f : Addr → Nat} {R : PySem.Fin → Shared → Prop} (ho : s.heap.get? a = some (seqObj "list" (as.map Value.ref).toArray n)) (hz : as.length ≤ 1000)
    (hk : ∀ h' : Heap, (∀ b o, b ≠ a → s.heap.get? b = some o → h'.get? b = some o) → 2 ≤ as.length → Asks prog w A { s with heap := h' } as f)
    (h : ∀ (bs : List Addr) (h' : Heap) (c : Nat), bs.Perm as → bs.Pairwise (fun x y => f x ≤ f y) → (∀ b o, b ≠ a → s.heap.get? b = some o → h'.get? b = some o) →
      h'.get? a = some (seqObj "list" (bs.map Value.ref).toArray c) → R (.done (.ret .none)) { s with heap := h' }) :
    wpAny (model prog w) A (Builtin.«list.sort» ⟨[.ref a], []⟩) R E s := by
  have line := sizeLine_eq
  have ha : a < s.heap.objs.size := Heap.lt_size ho
  have hsz : (as.map Value.ref).toArray.size = as.length := by simp
  obtain ⟨e1, ho1⟩ : ∃ e1, (s.heap.update a (Obj.mapSeq fun _ => #[])).get? a = some (seqObj "list" #[] e1) := ⟨_, get?_update_seq ho (fun _ => #[])⟩
  have kp1 : ∀ b o, b ≠ a → s.heap.get? b = some o → (((s.heap.update a (Obj.mapSeq fun _ => #[])).push (seqObj "tuple" (as.map Value.ref).toArray 0)).push (seqObj "list" #[] 0)).get? b = some o :=
    fun b o hb e => Heap.get?_push_of_some _ (Heap.get?_push_of_some _ (by rw [Heap.get?_update_ne _ _ _ _ hb]; exact e))
  have ho6 : (((s.heap.update a (Obj.mapSeq fun _ => #[])).push (seqObj "tuple" (as.map Value.ref).toArray 0)).push (seqObj "list" #[] 0)).get? a = some (seqObj "list" #[] e1) := Heap.get?_push_of_some _ (Heap.get?_push_of_some _ ho1)
  rw [list_sort_plain]
  refine wpAny_bind (listItems_at ho rfl (wpAny_bind (listUpdate_at ho rfl ?_ (by rw [hsz]; omega) (Nat.zero_le _))))
  refine wpAny_bind (seqEpoch_at ho1 rfl (wpAny_bind (wpAny_newTuple ?_ (by show (as.map Value.ref).length ≤ _; rw [List.length_map]; omega))))
  refine wpAny_bind (wpAny_newList (wpAny_holding ?_) (Nat.zero_le _))
  show wpAny (model prog w) A _ R E { s with heap := (((s.heap.update a (Obj.mapSeq fun _ => #[])).push (seqObj "tuple" (as.map Value.ref).toArray 0)).push (seqObj "list" #[] 0)) }
  generalize (((s.heap.update a (Obj.mapSeq fun _ => #[])).push (seqObj "tuple" (as.map Value.ref).toArray 0)).push (seqObj "list" #[] 0)) = h6 at kp1 ho6 ⊢
  have fin : ∀ (bs : List Addr), bs.Perm as → bs.Pairwise (fun x y => f x ≤ f y) → R (.done (.ret .none)) { s with heap := h6.update a (Obj.mapSeq fun _ => (bs.map Value.ref).toArray) } := by
    intro bs p q
    obtain ⟨c, hc⟩ : ∃ c, (h6.update a (Obj.mapSeq fun _ => (bs.map Value.ref).toArray)).get? a = some (seqObj "list" (bs.map Value.ref).toArray c) := ⟨_, get?_update_seq ho6 (fun _ => (bs.map Value.ref).toArray)⟩
    exact h bs _ c p q (fun b o hb e => by rw [Heap.get?_update_ne _ _ _ _ hb]; exact kp1 b o hb e) hc
  dsimp only
  by_cases h2 : (as.map Value.ref).toArray.size < 2
  · rw [if_pos h2, if_pos h2]
    refine wpAny_bind (wpAny_pure ?_); rw [StateT.run_pure]; refine wpAny_bind (wpAny_pure ?_)
    have eout : ((as.map Value.ref).toArray.zip (as.map Value.ref).toArray).map (·.2) = (as.map Value.ref).toArray := by
      apply Array.toList_inj.mp
      rw [Array.toList_map, Array.toList_zip]; simp only [List.zip_map', List.map_map]; rfl
    dsimp only
    rw [eout]
    refine wpAny_bind (seqEpoch_at ho6 rfl (wpAny_bind (listUpdate_at ho6 rfl ?_ (Nat.zero_le _) (by show (as.map Value.ref).toArray.size ≤ _; omega))))
    simp only [bne_self_eq_false, Bool.false_eq_true, if_false]
    refine wpAny_pure (fin as (.refl _) ?_)
    match as, h2 with
    | [], _ => exact .nil
    | [_], _ => exact List.pairwise_singleton _ _
    | _ :: _ :: _, h2 => exact absurd h2 (by simp)
  · rw [if_neg h2, if_neg h2]
    obtain ⟨κ, hkind, hcmp⟩ := hk h6 kp1 (by omega)
    refine wpAny_bind (hkind _ _ ?_)
    have run := t_sort (E := E) (Q := fun _ st' => failedOf st' = none ∧ ∃ bs : List Addr, bs.Perm as ∧ bs.Pairwise (fun x y => f x ≤ f y) ∧ (arrOf st').map (·.2) = (bs.map Value.ref).toArray) hcmp
      (st := SortSt.mk' κ ((as.map Value.ref).toArray.zip (as.map Value.ref).toArray) #[] 7 none) ⟨rfl, rfl⟩ (zip_al as) rfl (fun st' g p q => ⟨g.fine, out_of p q⟩)
    refine wpAny_bind (wpAny_mono run ?_ fun _ _ e => e)
    rintro ⟨⟨⟩, st'⟩ s' ⟨rfl, hf, bs, p, q, eo⟩
    dsimp only
    rw [eo, hf]
    have hl : (bs.map Value.ref).toArray.size ≤ sizeLine + 1 := by rw [List.size_toArray, List.length_map, p.length_eq]; omega
    refine wpAny_bind (seqEpoch_at ho6 rfl (wpAny_bind (listUpdate_at ho6 rfl ?_ (Nat.zero_le _) hl)))
    simp only [bne_self_eq_false, Bool.false_eq_true, if_false]
    exact wpAny_pure (fin bs p q)
theorem t_sorted {l : Addr} {as : List Addr} {f : Addr → Nat} {Q : Value → Shared → Prop} (hl : s.heap.IsList l (as.map Value.ref).toArray) (hz : as.length ≤ 1000)
    (hk : ∀ h' : Heap, (∀ b o, s.heap.get? b = some o → h'.get? b = some o) → 2 ≤ as.length → Asks prog w A.in1.in1 { s with heap := h' } as f)
    (h : ∀ (bs : List Addr) (h' : Heap) (D c : Nat), bs.Perm as → bs.Pairwise (fun x y => f x ≤ f y) → s.heap.objs.size ≤ D → (∀ b o, s.heap.get? b = some o → h'.get? b = some o) →
      h'.get? D = some (seqObj "list" (bs.map Value.ref).toArray c) → Q (.ref D) { s with heap := h' }) :
    wpAny (model prog w) A (call (.builtin "sorted") [.ref l]) Q E s := by
  have line := sizeLine_eq
  have hsz : (as.map Value.ref).toArray.size = as.length := by simp
  refine Calls.call_function_entry kind_sorted plain_sorted entry_sorted (args_sorted1 _) (show wpAny _ _ (Builtin.«sorted» _) _ _ _ from ?_)
  unfold Builtin.«sorted»
  refine wpAny_bind (m := checkCount "sorted" 1 1 _) (wpAny_pure (wpAny_bind (collect_list hl ?_ (by rw [List.length_map]; omega))))
  refine wpAny_bind (wpAny_newList ?_ (by rw [List.length_map]; omega))
  have hs1 : ((s.heap.push (seqObj "list" #[] 0)).update s.heap.objs.size (Obj.mapSeq (· ++ (as.map Value.ref).toArray))).objs.size = s.heap.objs.size + 1 := by rw [Heap.size_update, size_push']
  have hoL : (((s.heap.push (seqObj "list" #[] 0)).update s.heap.objs.size (Obj.mapSeq (· ++ (as.map Value.ref).toArray))).push (seqObj "list" (as.map Value.ref).toArray 0)).get? (s.heap.objs.size + 1) = some (seqObj "list" (as.map Value.ref).toArray 0) := by
    rw [← hs1]; exact Heap.get?_push_size _ rfl
  have kp : ∀ b o, s.heap.get? b = some o → (((s.heap.push (seqObj "list" #[] 0)).update s.heap.objs.size (Obj.mapSeq (· ++ (as.map Value.ref).toArray))).push (seqObj "list" (as.map Value.ref).toArray 0)).get? b = some o := fun b o q => by
    have hb : b < s.heap.objs.size := Heap.lt_size q
    exact Heap.get?_push_of_some _ (by rw [Heap.get?_update_ne _ _ _ _ (Nat.ne_of_lt hb)]; exact Heap.get?_push_of_some _ q)
  show wpAny _ _ _ _ _ { s with heap := (((s.heap.push (seqObj "list" #[] 0)).update s.heap.objs.size (Obj.mapSeq (· ++ (as.map Value.ref).toArray))).push (seqObj "list" (as.map Value.ref).toArray 0)) }
  rw [hs1]
  generalize (((s.heap.push (seqObj "list" #[] 0)).update s.heap.objs.size (Obj.mapSeq (· ++ (as.map Value.ref).toArray))).push (seqObj "list" (as.map Value.ref).toArray 0)) = h3 at hoL kp ⊢
  refine wpAny_bind (wpAny_holding (wpAny_call_entry slot_list_sort ⟨_, hoL, rfl⟩ entry_list_sort ?body (args_list_sort _)))
  case body =>
    refine t_listSort (s := { s with heap := h3 }) hoL hz (fun h' k2 => hk h' fun b o e => k2 b o (Nat.ne_of_lt (Nat.lt_succ_of_lt (Heap.lt_size e))) (kp b o e)) fun bs h' c p q k2 e => ⟨_, rfl, wpAny_pure ⟨_, rfl, ?_⟩⟩
    exact h bs h' _ c p q (Nat.le_succ _) (fun b o e => k2 b o (Nat.ne_of_lt (Nat.lt_succ_of_lt (Heap.lt_size e))) (kp b o e)) e
end
end TS
namespace TS
open PySem PyProof.Rows PySem.SeqAt PySem.W
def Q3 (h : Heap) (a : Addr) (c r k : Int) : Prop := ∃ t1 t2 t3, h.IsTuple a #[.int c t1, .int r t2, .int k t3]
def small (c : Int) : Prop := 0 ≤ c ∧ c < 16
def rank3 (c r k : Int) : Nat := ((c * 16 + r) * 16 + k).toNat
def lex3 (c r k c' r' k' : Int) : Bool := if (c == c') = true then (if (r == r') = true then (if (k == k') = true then false else decide (k < k')) else decide (r < r')) else decide (c < c')
theorem lex3_rank {c r k c' r' k' : Int} (h1 : small c) (h2 : small r) (h3 : small k) (h4 : small c') (h5 : small r') (h6 : small k') : lex3 c r k c' r' k' = decide (rank3 c r k < rank3 c' r' k') := by
  unfold small at *
  unfold lex3 rank3
  by_cases e1 : c = c'
  · rw [if_pos (by simpa using e1)]
    by_cases e2 : r = r'
    · rw [if_pos (by simpa using e2)]
      by_cases e3 : k = k'
      · rw [if_pos (by simpa using e3), eq_comm]; exact decide_eq_false (by omega)
      · rw [if_neg (by simpa using e3)]; exact decide_eq_decide.mpr (by omega)
    · rw [if_neg (by simpa using e2)]; exact decide_eq_decide.mpr (by omega)
  · rw [if_neg (by simpa using e1)]; exact decide_eq_decide.mpr (by omega)
theorem rank3_inj {c r k c' r' k' : Int} (h1 : small c) (h2 : small r) (h3 : small k) (h4 : small c') (h5 : small r') (h6 : small k') (e : rank3 c r k = rank3 c' r' k') : c = c' ∧ r = r' ∧ k = k' := by
  unfold small at *
  unfold rank3 at e
  omega
section
variable {prog : Program} {w : World} {A : Around} {s : Shared}
theorem lexOk3 (A : Around) (s : Shared) (c r k c' r' k' : Int) (t1 t2 t3 u1 u2 u3 : Tok) :
    LexOk A s ((#[.int c t1, .int r t2, .int k t3] : Array Value).toList.zip (#[.int c' u1, .int r' u2, .int k' u3] : Array Value).toList) (lex3 c r k c' r' k') := by
  refine ⟨_, EqAt.int_int c t1 c' u1, ?_⟩
  unfold lex3
  cases e1 : (c == c') with
  | false => exact .inr ⟨rfl, RlAt.int A s _ _ _ _⟩
  | true =>
    refine .inl ⟨rfl, _, EqAt.int_int r t2 r' u2, ?_⟩
    rw [if_pos rfl]
    cases e2 : (r == r') with
    | false => exact .inr ⟨rfl, RlAt.int A s _ _ _ _⟩
    | true =>
      refine .inl ⟨rfl, _, EqAt.int_int k t3 k' u3, ?_⟩
      rw [if_pos rfl]
      cases e3 : (k == k') with
      | false => exact .inr ⟨rfl, RlAt.int A s _ _ _ _⟩
      | true => exact .inl ⟨rfl, rfl⟩
theorem key3 {a b : Addr} {c r k c' r' k' : Int} (ha : Q3 s.heap a c r k) (hb : Q3 s.heap b c' r' k') {E : Value → Shared → Prop} {Q : Bool → Shared → Prop} (h : Q (lex3 c r k c' r' k') s) :
    wpAny (model prog w) A (keyLt' (tuples' true) (.ref a) (.ref b)) Q E s := by
  obtain ⟨t1, t2, t3, o, ho, _, n, hd⟩ := ha
  obtain ⟨u1, u2, u3, o', ho', _, n', hd'⟩ := hb
  refine kat_lt ho hd ho' hd' ?_
  refine kat_cons (wpAny_eqBool_int ?_)
  unfold lex3 at h
  cases e1 : (c == c') with
  | false =>
    rw [e1, if_neg (by simp)] at h
    exact kat_no (oneLt_int h)
  | true =>
    rw [e1, if_pos rfl] at h
    refine kat_yes (kat_cons (wpAny_eqBool_int ?_))
    cases e2 : (r == r') with
    | false =>
      rw [e2, if_neg (by simp)] at h
      exact kat_no (kat_one _ _ (wpAny_lt_int h))
    | true =>
      rw [e2, if_pos rfl] at h
      refine kat_yes (kat_cons (wpAny_eqBool_int ?_))
      cases e3 : (k == k') with
      | false =>
        rw [e3, if_neg (by simp)] at h
        exact kat_no (kat_one _ _ (wpAny_lt_int h))
      | true =>
        rw [e3, if_pos rfl] at h
        exact kat_yes (kat_nil h)
def QsAt (h : Heap) (f : Addr → Nat) (a : Addr) : Prop := ∃ c r k, Q3 h a c r k ∧ small c ∧ small r ∧ small k ∧ f a = rank3 c r k
theorem tups_of {h : Heap} {f : Addr → Nat} : ∀ {as : List Addr}, (∀ a ∈ as, QsAt h f a) → ∃ fs : List Value, KatTups h (as.map Value.ref) fs ∧ fs.length = as.length ∧ ∀ v ∈ fs, ∃ i t, v = Value.int i t
  | [], _ => ⟨[], trivial, rfl, fun _ h => by cases h⟩
  | a :: as, hq => by
    obtain ⟨fs, k1, k2, k3⟩ := tups_of (as := as) fun b hb => hq b (.tail _ hb)
    obtain ⟨c, r, k, ⟨t1, t2, t3, o, ho, hc, n, hd⟩, _⟩ := hq a (.head _)
    refine ⟨.int c t1 :: fs, ⟨⟨a, o, _, n, rfl, ho, hc, hd, rfl⟩, k1⟩, by simp [k2], fun v hv => ?_⟩
    rcases List.mem_cons.mp hv with rfl | hv
    · exact ⟨_, _, rfl⟩
    · exact k3 v hv
theorem asksQ {as : List Addr} {f : Addr → Nat} (hq : ∀ a ∈ as, QsAt s.heap f a) (h2 : 2 ≤ as.length) : Asks prog w A s as f := by
  refine ⟨tuples' true, fun E Q h => ?_, ⟨fun x y px py E Q h => ?_⟩⟩
  · obtain ⟨fs, k1, k2, k3⟩ := tups_of hq
    refine kat_kind (T := .type "int") k1 (by omega) (fun v hv => ?_) rfl h
    obtain ⟨i, t, rfl⟩ := k3 v hv
    exact Looks.of_pure rfl
  · obtain ⟨a, ha, rfl⟩ := px
    obtain ⟨b, hb, rfl⟩ := py
    obtain ⟨c, r, k, qa, s1, s2, s3, fa⟩ := hq a ha
    obtain ⟨c', r', k', qb, s4, s5, s6, fb⟩ := hq b hb
    refine key3 qa qb ?_
    rw [lex3_rank s1 s2 s3 s4 s5 s6]
    have e : decide (rkO f (Value.ref a, Value.ref a) < rkO f (Value.ref b, Value.ref b)) = decide (rank3 c r k < rank3 c' r' k') := by show decide (f a < f b) = _; rw [fa, fb]
    rw [e] at h
    exact h
def LsAt (h : Heap) (f : Addr → Nat) (a : Addr) : Prop := ∃ (its : Array Value) (b : Addr) (c r k : Int), h.IsList a its ∧ its[0]? = some (.ref b) ∧ Q3 h b c r k ∧ small c ∧ small r ∧ small k ∧ f a = rank3 c r k
theorem lex_same (A : Around) (s : Shared) : ∀ l : List Value, LexOk A s (l.zip l) false
  | [] => rfl
  | x :: l => ⟨true, EqAt.same x, .inl ⟨rfl, lex_same A s l⟩⟩
theorem asksL {as : List Addr} {f : Addr → Nat} (hu : A.units + 8 < cLine) (hq : ∀ a ∈ as, LsAt s.heap f a) (inj : ∀ a ∈ as, ∀ b ∈ as, f a = f b → a = b) (h2 : 2 ≤ as.length) : Asks prog w A s as f := by
  refine ⟨oneType', fun E Q h => ?_, ⟨fun x y px py E Q h => ?_⟩⟩
  · refine kas_kind (T := .type "list") (by simpa using h2) (fun v hv => ?_) rfl rfl h
    obtain ⟨a, ha, rfl⟩ := List.mem_map.mp hv
    obtain ⟨its, _, _, _, _, ⟨o, ho, hc, _⟩, _⟩ := hq a ha
    have := (show Looks (model prog w) s.heap (typeOf (.ref a)) o.cls from (Looks.ld ho).andThen .now)
    rwa [hc] at this
  · obtain ⟨a, ha, rfl⟩ := px
    obtain ⟨b, hb, rfl⟩ := py
    obtain ⟨its, p, c, r, k, la, i0, qa, s1, s2, s3, fa⟩ := hq a ha
    obtain ⟨its', p', c', r', k', lb, i0', qb, s4, s5, s6, fb⟩ := hq b hb
    have z1 : 0 < its.size := by
      rcases Nat.lt_or_ge 0 its.size with h | h
      · exact h
      · rw [Array.getElem?_eq_none h] at i0; cases i0
    have z2 : 0 < its'.size := by
      rcases Nat.lt_or_ge 0 its'.size with h | h
      · exact h
      · rw [Array.getElem?_eq_none h] at i0'; cases i0'
    have g1 : its[0] = .ref p := by rw [Array.getElem?_eq_getElem z1] at i0; exact Option.some.inj i0
    have g2 : its'[0] = .ref p' := by rw [Array.getElem?_eq_getElem z2] at i0'; exact Option.some.inj i0'
    have e : decide (rkO f (Value.ref a, Value.ref a) < rkO f (Value.ref b, Value.ref b)) = decide (f a < f b) := rfl
    rw [e] at h
    obtain ⟨⟨cls, dd, data, sl⟩, ho, hc, n, hd⟩ := id la
    obtain ⟨⟨cls2, dd2, data2, sl2⟩, ho2, hc2, n2, hd2⟩ := id lb
    simp only at hc hd hc2 hd2
    subst hc hd hc2 hd2
    show wpAny (model prog w) A (keyLt' oneType' (.ref a) (.ref b)) Q E s
    rw [keyLt'_oneType, oneLt'_eq]
    simp only [if_true]
    refine wpAny_bind (wpAny_cRoomFor (by omega) (wpAny_bind (wpAny_callSpecialIfBound?_slot (T := "list") ⟨_, ho, rfl⟩ F.slot_list_lt ?_)))
    by_cases eab : a = b
    · subst eab
      have ei : (⟨.type "list", dd, .seq its n, sl⟩ : Obj) = ⟨.type "list", dd2, .seq its' n2, sl2⟩ := Option.some.inj (ho.symm.trans ho2)
      injection ei with _ _ ei _
      injection ei with ei _
      subst ei
      refine call_meets F.slot_list_lt ⟨_, ho, rfl⟩ F.entry_list_lt (F.args_list_lt_2 _ _) (list_ltAt a a its its n n2 dd dd2 sl sl2 (decide (f a < f a)) (.inl rfl)) ⟨ho, ho2, .inl ⟨rfl, ?_⟩, ?_⟩
      · rw [decide_eq_false (Nat.lt_irrefl _)]; exact lex_same _ _ _
      · exact wpAny_truthy_bool h
    · have ne : ¬ (c = c' ∧ r = r' ∧ k = k') := fun z => eab (inj a ha b hb (by rw [fa, fb, z.1, z.2.1, z.2.2]))
      have pne : p ≠ p' := fun z => by
        subst z
        obtain ⟨t1, t2, t3, o, x1, _, _, x2⟩ := qa
        obtain ⟨u1, u2, u3, o', y1, _, _, y2⟩ := qb
        rw [x1] at y1
        cases y1
        rw [x2] at y2
        injection y2 with y2 _
        simp at y2
        exact ne ⟨y2.1.1, y2.2.1.1, y2.2.2.1⟩
      refine call_meets F.slot_list_lt ⟨_, ho, rfl⟩ F.entry_list_lt (F.args_list_lt_2 _ _) (list_ltAt a b its its' n n2 dd dd2 sl sl2 (decide (f a < f b)) (.inr ⟨z1, z2⟩)) ⟨ho, ho2, .inr ⟨z1, z2, ?_, ?_⟩, ?_⟩
      · rw [g1, g2]
        obtain ⟨t1, t2, t3, ta⟩ := qa
        obtain ⟨u1, u2, u3, tb⟩ := qb
        have rc := RcAt.tuples (A := A.in1) (e := fun j => match j with | 0 => c == c' | 1 => r == r' | _ => k == k') ta tb (by show A.units + 1 < cLine; omega) (fun j h1 h2 => by
          have hj : j = 0 ∨ j = 1 ∨ j = 2 := by simp at h1; omega
          rcases hj with rfl | rfl | rfl
          · exact EqAt.int_int c t1 c' u1
          · exact EqAt.int_int r t2 r' u2
          · exact EqAt.int_int k t3 k' u3)
        have ef : ((List.range (min (#[.int c t1, .int r t2, .int k t3] : Array Value).size (#[.int c' u1, .int r' u2, .int k' u3] : Array Value).size)).all (fun j => match j with | 0 => c == c' | 1 => r == r' | _ => k == k') && (#[.int c t1, .int r t2, .int k t3] : Array Value).size == (#[.int c' u1, .int r' u2, .int k' u3] : Array Value).size) = false := by
          show ((List.range 3).all _ && true) = false
          simp only [List.range, List.range.loop, List.all_cons, List.all_nil, Bool.and_true]
          cases e1 : (c == c') <;> cases e2 : (r == r') <;> cases e3 : (k == k') <;> first | rfl | exact absurd ⟨by simpa using e1, by simpa using e2, by simpa using e3⟩ ne
        rw [ef] at rc
        exact EqAt.of_refs pne rc
      · rw [g1, g2]
        obtain ⟨t1, t2, t3, ta⟩ := qa
        obtain ⟨u1, u2, u3, tb⟩ := qb
        rw [fa, fb, ← lex3_rank s1 s2 s3 s4 s5 s6]
        exact RlAt.tuples ta tb rfl (by show A.units + 1 < cLine; omega) (lexOk3 _ _ _ _ _ _ _ _ _ _ _ _ _ _)
      · exact wpAny_truthy_bool h
end
end TS
namespace L2
section
variable {α : Type}
def msort (f : α → Nat) (l : List α) : List α := l.mergeSort fun a b => decide (f a ≤ f b)
theorem msort_perm (f : α → Nat) (l : List α) : (msort f l).Perm l := List.mergeSort_perm _ _
theorem msort_pw (f : α → Nat) (l : List α) : (msort f l).Pairwise fun a b => f a ≤ f b := by
  have := List.pairwise_mergeSort (le := fun a b => decide (f a ≤ f b)) (fun a b c h1 h2 => by simp at *; omega) (fun a b => by simp; omega) l
  exact this.imp fun h => by simpa using h
theorem pw_unique {f : α → Nat} : ∀ {l m : List α}, (∀ a ∈ l, ∀ b ∈ l, f a = f b → a = b) → l.Pairwise (fun a b => f a ≤ f b) → m.Pairwise (fun a b => f a ≤ f b) → l.Perm m → l = m
  | [], m, _, _, _, p => by rw [p.nil_eq]
  | x :: l, [], _, _, _, p => absurd p.length_eq (by simp)
  | x :: l, y :: m, hi, hl, hm, p => by
    have e : x = y := by
      have h1 : x ∈ y :: m := p.mem_iff.mp (.head _)
      have h2 : y ∈ x :: l := p.mem_iff.mpr (.head _)
      have a1 : f x ≤ f y := by
        rcases List.mem_cons.mp h2 with rfl | h2
        · exact Nat.le_refl _
        · exact (List.pairwise_cons.mp hl).1 y h2
      have a2 : f y ≤ f x := by
        rcases List.mem_cons.mp h1 with rfl | h1
        · exact Nat.le_refl _
        · exact (List.pairwise_cons.mp hm).1 x h1
      exact hi x (.head _) y h2 (Nat.le_antisymm a1 a2)
    subst e
    rw [pw_unique (fun a ha b hb => hi a (.tail _ ha) b (.tail _ hb)) (List.pairwise_cons.mp hl).2 (List.pairwise_cons.mp hm).2 ((List.perm_cons x).mp p)]
theorem msort_unique {f : α → Nat} {l m : List α} (hi : ∀ a ∈ l, ∀ b ∈ l, f a = f b → a = b) (hm : m.Pairwise fun a b => f a ≤ f b) (p : m.Perm l) : m = msort f l :=
  (pw_unique (fun a ha b hb => hi a ((msort_perm f l).mem_iff.mp ha) b ((msort_perm f l).mem_iff.mp hb)) (msort_pw f l) hm ((msort_perm f l).trans p.symm)).symm
theorem msort_congr {f : α → Nat} {l m : List α} (hi : ∀ a ∈ l, ∀ b ∈ l, f a = f b → a = b) (p : l.Perm m) : msort f l = msort f m :=
  (msort_unique hi (msort_pw f m) ((msort_perm f m).trans p.symm)).symm
theorem msort_mem {f : α → Nat} {l : List α} {x : α} : x ∈ msort f l ↔ x ∈ l := (msort_perm f l).mem_iff
theorem msort_len (f : α → Nat) (l : List α) : (msort f l).length = l.length := (msort_perm f l).length_eq
end
end L2
namespace L2
open PySem PySem.Spec PyProof.Rows
section
variable {X : Cx}
def TupQ (H : Hp) (f : Addr → Nat) (a : Addr) : Prop := ∃ c r k : Int, H a = some (.tup [.int c, .int r, .int k]) ∧ TS.small c ∧ TS.small r ∧ TS.small k ∧ f a = TS.rank3 c r k
def LstQ (H : Hp) (f : Addr → Nat) (a : Addr) : Prop := ∃ (b : Addr) (rest : List V) (c r k : Int), H a = some (.lst (.ref b :: rest)) ∧ H b = some (.tup [.int c, .int r, .int k]) ∧ TS.small c ∧ TS.small r ∧ TS.small k ∧ f a = TS.rank3 c r k
def rSortQ (K : PySem.W.Frag) : List V → Hp → VK → Prop := fun xs H Q => ∃ (p : Addr) (as : List Addr) (f : Addr → Nat), xs = [.ref p] ∧ SqL K H p (as.map V.ref) ∧ as.length ≤ 1000 ∧ (∀ a ∈ as, TupQ H f a) ∧
  ∀ (bs : List Addr) (l : Addr), bs.Perm as → bs.Pairwise (fun x y => f x ≤ f y) → H l = none → Q (.ref l) (upd H l (.lst (bs.map V.ref)))
def rSortL (K : PySem.W.Frag) : List V → Hp → VK → Prop := fun xs H Q => ∃ (p : Addr) (as : List Addr) (f : Addr → Nat), xs = [.ref p] ∧ SqL K H p (as.map V.ref) ∧ as.length ≤ 1000 ∧ (∀ a ∈ as, LstQ H f a) ∧ (∀ a ∈ as, ∀ b ∈ as, f a = f b → a = b) ∧
  ∀ (bs : List Addr) (l : Addr), bs.Perm as → bs.Pairwise (fun x y => f x ≤ f y) → H l = none → Q (.ref l) (upd H l (.lst (bs.map V.ref)))
theorem vals_refs_eq : ∀ {as : List Addr} {us : List Value}, Vals (as.map V.ref) us → us = as.map Value.ref
  | [], _, .nil => rfl
  | a :: as, _, .cons h t => by
    cases (show _ = Value.ref a from h)
    rw [vals_refs_eq (as := as) t]
    rfl
theorem tup3_at {pins : List (Addr × Obj)} {σ : St} {H : Hp} {s : Shared} (I : Inv X pins σ H s) {a : Addr} {c r k : Int} (e : H a = some (.tup [.int c, .int r, .int k])) : TS.Q3 s.heap a c r k := by
  obtain ⟨_, its, rv, it⟩ := I.hok _ _ e
  cases rv with
  | cons h1 rv =>
    cases rv with
    | cons h2 rv =>
      cases rv with
      | cons h3 rv =>
        cases rv
        obtain ⟨t1, rfl⟩ := h1
        obtain ⟨t2, rfl⟩ := h2
        obtain ⟨t3, rfl⟩ := h3
        exact ⟨t1, t2, t3, it⟩
theorem sort_end {pins : List (Addr × Obj)} {σ : St} {H : Hp} {s : Shared} {Q : VK} (I : Inv X pins σ H s) {as bs : List Addr} {h' : Heap} {D c : Nat} (hz : as.length ≤ 1000) (pm : bs.Perm as) (hD : s.heap.objs.size ≤ D) (kp : ∀ b o, s.heap.get? b = some o → h'.get? b = some o)
    (e : h'.get? D = some (seqObj "list" (bs.map Value.ref).toArray c)) (q : H D = none → Q (.ref D) (upd H D (.lst (bs.map V.ref)))) : EP X pins σ Q (.ref D) { s with heap := h' } := by
  have hl : (bs.map V.ref).length ≤ sizeLine := by rw [List.length_map, pm.length_eq, sizeLine_eq]; omega
  exact ⟨.ref D, _, I.laid (t' := s.toks) kp hD (show ObjOk X.prog X.w _ h' _ (.lst (bs.map V.ref)) from ⟨hl, _, c, vals_refs bs, e⟩), rfl, q (I.hok.fresh hD)⟩
theorem call_sortQ {K : PySem.W.Frag} (eK : X.K = K) : CallR X (.builtin "sorted") (rSortQ K) := by
  subst eK
  intro pins s σ H xs us Q I r h
  obtain ⟨p, as, f, rfl, hq, hz, ht, q⟩ := h
  obtain ⟨u, rfl, rx⟩ := vals1 r
  cases rx
  obtain ⟨its, r', pl, hz'⟩ := I.list hq
  cases vals_refs_eq r'
  refine TS.t_sorted (f := f) pl.isList hz (fun h' kp h2 => TS.asksQ (fun a ha => ?_) h2) (fun bs h' D c pm pw hD kp e => sort_end I hz pm hD kp e (q bs D pm pw))
  have I' : Inv X pins σ H { s with heap := h' } := I.kept (t' := s.toks) kp
  obtain ⟨c, r, k, e, s1, s2, s3, fa⟩ := ht a ha
  exact ⟨c, r, k, tup3_at I' e, s1, s2, s3, fa⟩
theorem call_sortL {K : PySem.W.Frag} (eK : X.K = K) (hu : X.A.units + 64 < cLine) : CallR X (.builtin "sorted") (rSortL K) := by
  subst eK
  intro pins s σ H xs us Q I r h
  obtain ⟨p, as, f, rfl, hq, hz, ht, inj, q⟩ := h
  obtain ⟨u, rfl, rx⟩ := vals1 r
  cases rx
  obtain ⟨its, r', pl, hz'⟩ := I.list hq
  cases vals_refs_eq r'
  refine TS.t_sorted (f := f) pl.isList hz (fun h' kp h2 => TS.asksL (by show X.A.units + 1 + 1 + 8 < cLine; omega) (fun a ha => ?_) inj h2) (fun bs h' D c pm pw hD kp e => sort_end I hz pm hD kp e (q bs D pm pw))
  have I' : Inv X pins σ H { s with heap := h' } := I.kept (t' := s.toks) kp
  obtain ⟨b, rest, c, r, k, e, e', s1, s2, s3, fa⟩ := ht a ha
  obtain ⟨_, its, n, rv, it⟩ := I'.hok _ _ e
  cases rv with
  | cons hb t =>
    cases hb
    exact ⟨_, b, c, r, k, ⟨_, it, rfl, n, rfl⟩, rfl, tup3_at I' e', s1, s2, s3, fa⟩
end
end L2
namespace Sl
open PySem L2
def Tk (H H' : Hp) : Prop := ∀ b ys, H b = some (.tup ys) → H' b = some (.tup ys)
theorem Tk.of {H H' : Hp} (s : Same H H') : Tk H H' := fun b ys e => s b _ e
theorem Tk.refl (H : Hp) : Tk H H := fun _ _ e => e
theorem Tk.trans {H H1 H2 : Hp} (a : Tk H H1) (b : Tk H1 H2) : Tk H H2 := fun c ys e => b c ys (a c ys e)
theorem Tk.new {H H1 : Hp} {t : Addr} {o : HO} (s : Tk H H1) (ht : H1 t = none) : Tk H (upd H1 t o) := fun b ys e => by
  rw [upd_ne (ne_of_none (s b ys e) ht)]
  exact s b ys e
theorem Tk.lst {H H1 : Hp} {l : Addr} {xs : List V} {o : HO} (s : Tk H H1) (hl : H1 l = some (.lst xs)) : Tk H (upd H1 l o) := fun b ys e => by
  rw [upd_ne (ne_of (s b ys e) hl (fun z => nomatch z))]
  exact s b ys e
theorem Tk.dT {H H1 : Hp} {l : Addr} {kvs : List (List Key × V)} {o : HO} (s : Tk H H1) (hl : H1 l = some (.dT kvs)) : Tk H (upd H1 l o) := fun b ys e => by
  rw [upd_ne (ne_of (s b ys e) hl (fun z => nomatch z))]
  exact s b ys e
theorem Same.new {H H1 : Hp} {t : Addr} {o : HO} (s : Same H H1) (ht : H1 t = none) : Same H (upd H1 t o) := fun b u e => by
  rw [upd_ne (ne_of_none (s b u e) ht)]
  exact s b u e
theorem Same.own {H H1 : Hp} {l : Addr} {o : HO} (s : Same H H1) (hl : H l = none) : Same H (upd H1 l o) := fun b u e => by
  rw [upd_ne (ne_of_none e hl)]
  exact s b u e
def TupIs (H : Hp) (x : V) (k : List Key) : Prop := ∃ a, x = V.ref a ∧ H a = some (.tup (k.map kV))
def TL (H : Hp) (xs : List V) (ks : List (List Key)) : Prop := Paired (TupIs H) xs ks
theorem TL.keep {H H' : Hp} {xs : List V} {ks : List (List Key)} (t : TL H xs ks) (k : Tk H H') : TL H' xs ks := Paired.mapP t fun _ _ ⟨a, e, h⟩ => ⟨a, e, k a _ h⟩
theorem TL.snoc : ∀ {H : Hp} {xs : List V} {ks : List (List Key)} {x : V} {k : List Key}, TL H xs ks → TupIs H x k → TL H (xs ++ [x]) (ks ++ [k])
  | _, _, _, _, _, .nil, h => .cons h .nil
  | _, _, _, _, _, .cons a t, h => .cons a (TL.snoc t h)
theorem TL.append : ∀ {H : Hp} {xs ys : List V} {ks js : List (List Key)}, TL H xs ks → TL H ys js → TL H (xs ++ ys) (ks ++ js)
  | _, _, _, _, _, .nil, h => h
  | _, _, _, _, _, .cons a t, h => .cons a (TL.append t h)
theorem TL.length {H : Hp} {xs : List V} {ks : List (List Key)} (t : TL H xs ks) : xs.length = ks.length := Paired.length t
theorem TL.get : ∀ {H : Hp} {xs : List V} {ks : List (List Key)} {i : Nat} {k : List Key}, TL H xs ks → ks[i]? = some k → ∃ x, xs[i]? = some x ∧ TupIs H x k
  | _, _, _, _, _, .nil, e => by simp at e
  | _, _, _, 0, _, .cons a t, e => by simp at e; subst e; exact ⟨_, rfl, a⟩
  | _, _, _, i + 1, k, .cons a t, e => by
    obtain ⟨x, h1, h2⟩ := TL.get (i := i) (k := k) t (by simpa using e)
    exact ⟨x, by simpa using h1, h2⟩
theorem TL.at : ∀ {H : Hp} {xs : List V} {ks : List (List Key)} {i : Nat} {x : V}, TL H xs ks → xs[i]? = some x → ∃ k, ks[i]? = some k ∧ TupIs H x k
  | _, _, _, _, _, .nil, e => by simp at e
  | _, _, _, 0, _, .cons a t, e => by simp at e; subst e; exact ⟨_, rfl, a⟩
  | _, _, _, i + 1, x, .cons a t, e => by
    obtain ⟨k, h1, h2⟩ := TL.at (i := i) (x := x) t (by simpa using e)
    exact ⟨k, by simpa using h1, h2⟩
def kD : Key → PyData
  | .inl i => .int i
  | .inr x => .str x
theorem rdv_keys {H : Hp} : ∀ ks : List Key, RdVs H (ks.map kV) (ks.map kD)
  | [] => .nil
  | .inl i :: r => .cons (.int i) (rdv_keys r)
  | .inr x :: r => .cons (.str x) (rdv_keys r)
theorem TupIs.rdv {H : Hp} {x : V} {k : List Key} (t : TupIs H x k) : RdV H x (.tuple (k.map kD)) := by
  obtain ⟨a, rfl, h⟩ := t
  exact .tup h (rdv_keys k)
theorem TL.rdv : ∀ {H : Hp} {xs : List V} {ks : List (List Key)}, TL H xs ks → RdVs H xs (ks.map fun k => .tuple (k.map kD))
  | _, _, _, .nil => .nil
  | _, _, _, .cons a t => .cons a.rdv (TL.rdv t)
def keyOk : Key → Bool
  | .inl _ => true
  | .inr x => PyData.canLay0 (.str x)
theorem lay_key : ∀ k : Key, keyOk k = true → (kD k).canLay0 = true
  | .inl i, _ => by simp [kD, PyData.canLay0]
  | .inr x, h => h
theorem lay_keys : ∀ ks : List Key, ks.all keyOk = true → PyData.canLayAll0 (ks.map kD) = true
  | [], _ => by simp [PyData.canLayAll0]
  | k :: r, h => by
    rw [List.all_cons, Bool.and_eq_true] at h
    rw [List.map_cons, PyData.canLayAll0, lay_key k h.1, lay_keys r h.2]
    rfl
theorem depth_key : ∀ k : Key, (kD k).depth = 0
  | .inl i => by simp [kD, PyData.depth]
  | .inr x => by simp [kD, PyData.depth]
theorem depth_keys : ∀ ks : List Key, PyData.depthAll (ks.map kD) = 0
  | [] => by simp [PyData.depthAll]
  | k :: r => by rw [List.map_cons, PyData.depthAll, depth_key, depth_keys r]; rfl
theorem eqv_key : ∀ a b : Key, PyData.eqv (kD a) (kD b) = decide (a = b)
  | .inl i, .inl j => by
    simp only [kD, PyData.eqv]
    by_cases e : i = j
    · subst e; simp
    · have h : ¬ (Sum.inl i : Key) = .inl j := fun z => e (Sum.inl.inj z)
      rw [decide_eq_false h]; simpa using e
  | .inr x, .inr y => by
    simp only [kD, PyData.eqv]
    by_cases e : x = y
    · subst e; simp
    · have h : ¬ (Sum.inr x : Key) = .inr y := fun z => e (Sum.inr.inj z)
      rw [decide_eq_false h]; simpa using e
  | .inl i, .inr y => by simp [kD, PyData.eqv]
  | .inr x, .inl j => by simp [kD, PyData.eqv]
theorem eqv_keys : ∀ a b : List Key, PyData.eqvAll (a.map kD) (b.map kD) = decide (a = b)
  | [], [] => by simp [PyData.eqvAll]
  | [], _ :: _ => by simp [PyData.eqvAll]
  | _ :: _, [] => by simp [PyData.eqvAll]
  | x :: a, y :: b => by
    rw [List.map_cons, List.map_cons, PyData.eqvAll, eqv_key, eqv_keys a b]
    by_cases h1 : x = y
    · by_cases h2 : a = b
      · subst h1 h2; simp
      · have : ¬ x :: a = y :: b := fun z => h2 (List.cons.inj z).2
        rw [decide_eq_false h2, decide_eq_false this, Bool.and_false]
    · have : ¬ x :: a = y :: b := fun z => h1 (List.cons.inj z).1
      rw [decide_eq_false h1, decide_eq_false this, Bool.false_and]
def tD (k : List Key) : PyData := .tuple (k.map kD)
theorem eqv_tD (a b : List Key) : PyData.eqv (tD a) (tD b) = decide (a = b) := by
  unfold tD
  rw [PyData.eqv]
  exact eqv_keys a b
theorem lay_tD {k : List Key} (h : k.all keyOk = true) : (tD k).canLay0 = true := by
  unfold tD
  rw [PyData.canLay0]
  exact lay_keys k h
theorem depth_tD (k : List Key) : (tD k).depth = 1 := by
  unfold tD
  rw [PyData.depth, depth_keys]
def rowD (c r : Int) : List Key := [.inr "row", .inl c, .inl r]
def colD (c r : Int) : List Key := [.inr "column", .inl c, .inl r]
theorem row_ne_col {a b c d : Int} : rowD a b ≠ colD c d := by
  intro e
  have := Sum.inr.inj (List.cons.inj e).1
  exact absurd this (by decide +kernel)
theorem rowD_inj {a b c d : Int} (e : rowD a b = rowD c d) : a = c ∧ b = d := by
  have h := (List.cons.inj e).2
  exact ⟨Sum.inl.inj (List.cons.inj h).1, Sum.inl.inj (List.cons.inj (List.cons.inj h).2).1⟩
theorem colD_inj {a b c d : Int} (e : colD a b = colD c d) : a = c ∧ b = d := by
  have h := (List.cons.inj e).2
  exact ⟨Sum.inl.inj (List.cons.inj h).1, Sum.inl.inj (List.cons.inj (List.cons.inj h).2).1⟩
def doorsAt (w h r c : Nat) : List (List Key) := (if c + 1 < w then [rowD c r] else []) ++ (if r + 1 < h then [colD c r] else [])
def doorsRow (w h r n : Nat) : List (List Key) := (List.range n).flatMap (doorsAt w h r)
def doorsTo (w h n : Nat) : List (List Key) := (List.range n).flatMap fun r => doorsRow w h r w
def doors (w h : Nat) : List (List Key) := doorsTo w h h
theorem doorsRow_succ (w h r n : Nat) : doorsRow w h r (n + 1) = doorsRow w h r n ++ doorsAt w h r n := by
  unfold doorsRow
  rw [List.range_succ, List.flatMap_append]
  simp
theorem doorsTo_succ (w h n : Nat) : doorsTo w h (n + 1) = doorsTo w h n ++ doorsRow w h n w := by
  unfold doorsTo
  rw [List.range_succ, List.flatMap_append]
  simp
theorem doorsAt_len (w h r c : Nat) : (doorsAt w h r c).length ≤ 2 := by
  unfold doorsAt
  split <;> split <;> simp
theorem doorsRow_len (w h r : Nat) : ∀ n, (doorsRow w h r n).length ≤ 2 * n
  | 0 => by simp [doorsRow]
  | n + 1 => by
    rw [doorsRow_succ, List.length_append]
    have := doorsRow_len w h r n
    have := doorsAt_len w h r n
    omega
theorem doorsTo_len (w h : Nat) : ∀ n, (doorsTo w h n).length ≤ 2 * (n * w)
  | 0 => by simp [doorsTo]
  | n + 1 => by
    rw [doorsTo_succ, List.length_append]
    have := doorsTo_len w h n
    have := doorsRow_len w h n w
    rw [Nat.add_mul, Nat.one_mul]
    omega
theorem mem_doorsAt {w h r c : Nat} {k : List Key} : k ∈ doorsAt w h r c ↔ (k = rowD c r ∧ c + 1 < w) ∨ (k = colD c r ∧ r + 1 < h) := by
  unfold doorsAt
  rw [List.mem_append]
  by_cases h1 : c + 1 < w <;> by_cases h2 : r + 1 < h <;> simp [h1, h2]
theorem mem_doors {w h : Nat} {k : List Key} : k ∈ doors w h ↔ ∃ r c : Nat, r < h ∧ c < w ∧ ((k = rowD c r ∧ c + 1 < w) ∨ (k = colD c r ∧ r + 1 < h)) := by
  unfold doors doorsTo doorsRow
  rw [List.mem_flatMap]
  constructor
  · rintro ⟨r, hr, hk⟩
    rw [List.mem_flatMap] at hk
    obtain ⟨c, hc, hk⟩ := hk
    exact ⟨r, c, List.mem_range.mp hr, List.mem_range.mp hc, mem_doorsAt.mp hk⟩
  · rintro ⟨r, c, hr, hc, hk⟩
    exact ⟨r, List.mem_range.mpr hr, List.mem_flatMap.mpr ⟨c, List.mem_range.mpr hc, mem_doorsAt.mpr hk⟩⟩
theorem mem_rowD {w h : Nat} {c r : Int} : rowD c r ∈ doors w h ↔ 0 ≤ c ∧ c + 1 < w ∧ 0 ≤ r ∧ r < h := by
  rw [mem_doors]
  constructor
  · rintro ⟨r', c', hr, hc, ⟨e, h1⟩ | ⟨e, h1⟩⟩
    · obtain ⟨rfl, rfl⟩ := rowD_inj e
      omega
    · exact absurd e row_ne_col
  · rintro ⟨h1, h2, h3, h4⟩
    refine ⟨r.toNat, c.toNat, by omega, by omega, .inl ⟨?_, by omega⟩⟩
    rw [Int.toNat_of_nonneg h1, Int.toNat_of_nonneg h3]
theorem mem_colD {w h : Nat} {c r : Int} : colD c r ∈ doors w h ↔ 0 ≤ c ∧ c < w ∧ 0 ≤ r ∧ r + 1 < h := by
  rw [mem_doors]
  constructor
  · rintro ⟨r', c', hr, hc, ⟨e, h1⟩ | ⟨e, h1⟩⟩
    · exact absurd e.symm row_ne_col
    · obtain ⟨rfl, rfl⟩ := colD_inj e
      omega
  · rintro ⟨h1, h2, h3, h4⟩
    refine ⟨r.toNat, c.toNat, by omega, by omega, .inr ⟨?_, by omega⟩⟩
    rw [Int.toNat_of_nonneg h1, Int.toNat_of_nonneg h3]
theorem nd_doorsAt (w h r c : Nat) : (doorsAt w h r c).Nodup := by
  unfold doorsAt
  by_cases h1 : c + 1 < w <;> by_cases h2 : r + 1 < h <;> simp [h1, h2, row_ne_col]
theorem doorsAt_place {w h r c : Nat} {k : List Key} (hk : k ∈ doorsAt w h r c) : ∃ x, k = [.inr x, .inl (c : Int), .inl (r : Int)] := by
  rcases mem_doorsAt.mp hk with ⟨e, _⟩ | ⟨e, _⟩
  · exact ⟨_, e⟩
  · exact ⟨_, e⟩
theorem nd_doorsRow (w h r : Nat) : ∀ n, (doorsRow w h r n).Nodup
  | 0 => by simp [doorsRow]
  | n + 1 => by
    rw [doorsRow_succ]
    refine List.nodup_append.mpr ⟨nd_doorsRow w h r n, nd_doorsAt w h r n, fun a ha b hb e => ?_⟩
    subst e
    unfold doorsRow at ha
    obtain ⟨c, hc, ha⟩ := List.mem_flatMap.mp ha
    obtain ⟨x, ex⟩ := doorsAt_place ha
    obtain ⟨y, ey⟩ := doorsAt_place hb
    rw [ex] at ey
    have := Sum.inl.inj (List.cons.inj (List.cons.inj ey).2).1
    have := List.mem_range.mp hc
    omega
theorem nd_doorsTo (w h : Nat) : ∀ n, (doorsTo w h n).Nodup
  | 0 => by simp [doorsTo]
  | n + 1 => by
    rw [doorsTo_succ]
    refine List.nodup_append.mpr ⟨nd_doorsTo w h n, nd_doorsRow w h n w, fun a ha b hb e => ?_⟩
    subst e
    unfold doorsTo at ha
    obtain ⟨r, hr, ha⟩ := List.mem_flatMap.mp ha
    unfold doorsRow at ha hb
    obtain ⟨c, hc, ha⟩ := List.mem_flatMap.mp ha
    obtain ⟨c', hc', hb⟩ := List.mem_flatMap.mp hb
    obtain ⟨x, ex⟩ := doorsAt_place ha
    obtain ⟨y, ey⟩ := doorsAt_place hb
    rw [ex] at ey
    have := Sum.inl.inj (List.cons.inj (List.cons.inj (List.cons.inj ey).2).2).1
    have := List.mem_range.mp hr
    omega
theorem nd_doors (w h : Nat) : (doors w h).Nodup := nd_doorsTo w h h
def okSize (w h : Nat) : Prop := 1 ≤ w ∧ w ≤ 12 ∧ 1 ≤ h ∧ h ≤ 12 ∧ w * h ≤ 36
theorem doors_len {w h : Nat} (s : okSize w h) : (doors w h).length ≤ 72 := by
  have := doorsTo_len w h h
  have : h * w = w * h := Nat.mul_comm h w
  have := s.2.2.2.2
  show (doorsTo w h h).length ≤ 72
  omega
def signs3 : List Str := [".", "|", "-"]
structure Tab (w h : Nat) (kvs : List (List Key × V)) : Prop where
  keys : kvs.map (·.1) = doors w h
  vals : ∀ p ∈ kvs, ∃ x ∈ signs3, p.2 = .str x
def sgAt (kvs : List (List Key × V)) (k : List Key) : Str := match valV kvs k with
  | some (.str x) => x
  | _ => ""
def bare (w h : Nat) : List (List Key × V) := (doors w h).map fun k => (k, V.str ".")
theorem bare_keys (w h : Nat) : (bare w h).map (·.1) = doors w h := by
  unfold bare
  rw [List.map_map]
  exact List.map_id _
theorem bare_tab (w h : Nat) : Tab w h (bare w h) := ⟨bare_keys w h, fun p hp => by
  obtain ⟨k, _, e⟩ := List.mem_map.mp hp
  subst e
  exact ⟨".", List.mem_cons_self, rfl⟩⟩
section
variable {κ : Type} [DecidableEq κ]
theorem valV_mem : ∀ {kvs : List (κ × V)} {k : κ} {v : V}, valV kvs k = some v → (k, v) ∈ kvs
  | [], _, _, h => by cases h
  | p :: r, k, v, h => by
    by_cases e : p.1 = k
    · rw [valV_pos e] at h
      cases h
      subst e
      exact List.mem_cons_self
    · rw [valV_neg e] at h
      exact List.mem_cons_of_mem _ (valV_mem h)
theorem valV_some : ∀ {kvs : List (κ × V)} {k : κ}, k ∈ kvs.map (·.1) → ∃ v, valV kvs k = some v
  | [], _, h => by cases h
  | p :: r, k, h => by
    by_cases e : p.1 = k
    · exact ⟨_, valV_pos e⟩
    · rw [valV_neg e]
      rw [List.map_cons] at h
      rcases List.mem_cons.mp h with z | z
      · exact absurd z.symm e
      · exact valV_some z
theorem valV_none : ∀ {kvs : List (κ × V)} {k : κ}, ¬ k ∈ kvs.map (·.1) → valV kvs k = none
  | [], _, _ => rfl
  | p :: r, k, h => by
    rw [List.map_cons, List.mem_cons] at h
    rw [valV_neg fun e => h (.inl e.symm)]
    exact valV_none fun m => h (.inr m)
theorem putK_keys {kvs : List (κ × V)} {k : κ} (v : V) (h : k ∈ kvs.map (·.1)) : (putK kvs k v).map (·.1) = kvs.map (·.1) := by
  obtain ⟨u, e⟩ := valV_some h
  unfold putK
  rw [if_pos (by rw [valV_any, e]; rfl), List.map_map]
  refine List.map_congr_left fun p _ => ?_
  show (if p.1 = k then (p.1, v) else p).1 = p.1
  split <;> rfl
theorem kvs_ext : ∀ {a b : List (κ × V)}, a.map (·.1) = b.map (·.1) → (a.map (·.1)).Nodup → (∀ k ∈ a.map (·.1), valV a k = valV b k) → a = b
  | [], [], _, _, _ => rfl
  | [], _ :: _, h, _, _ => by simp at h
  | _ :: _, [], h, _, _ => by simp at h
  | p :: a, q :: b, h, hn, hv => by
    rw [List.map_cons, List.map_cons] at h
    injection h with h1 h2
    rw [List.map_cons] at hn hv
    obtain ⟨n1, n2⟩ := List.nodup_cons.mp hn
    have e := hv p.1 List.mem_cons_self
    rw [valV_pos rfl, valV_pos h1.symm] at e
    have ih : a = b := kvs_ext h2 n2 fun k hk => by
      have z := hv k (List.mem_cons_of_mem _ hk)
      have ne : ¬ p.1 = k := fun e => n1 (by rw [e]; exact hk)
      rw [valV_neg ne, valV_neg (by rw [← h1]; exact ne)] at z
      exact z
    have e2 : p.2 = q.2 := Option.some.inj e
    rw [ih, show p = q from Prod.ext h1 e2]
end
theorem Tab.sg {w h : Nat} {kvs : List (List Key × V)} (t : Tab w h kvs) {k : List Key} (hk : k ∈ doors w h) : valV kvs k = some (.str (sgAt kvs k)) ∧ sgAt kvs k ∈ signs3 := by
  obtain ⟨v, e⟩ := valV_some (kvs := kvs) (k := k) (by rw [t.keys]; exact hk)
  obtain ⟨x, hx, ev⟩ := t.vals _ (valV_mem e)
  have ev' : v = .str x := ev
  subst ev'
  have : sgAt kvs k = x := by unfold sgAt; rw [e]
  rw [this]
  exact ⟨e, hx⟩
theorem Tab.put {w h : Nat} {kvs : List (List Key × V)} (t : Tab w h kvs) {k : List Key} (hk : k ∈ doors w h) {x : Str} (hx : x ∈ signs3) : Tab w h (putK kvs k (.str x)) where
  keys := by rw [putK_keys _ (by rw [t.keys]; exact hk)]; exact t.keys
  vals := fun p hp => by
    obtain ⟨j, v⟩ := p
    have hj : j ∈ (putK kvs k (.str x)).map (·.1) := List.mem_map.mpr ⟨_, hp, rfl⟩
    unfold putK at hp
    split at hp
    · obtain ⟨q, hq, e⟩ := List.mem_map.mp hp
      split at e
      · cases e; exact ⟨x, hx, rfl⟩
      · cases e; exact t.vals _ hq
    · rcases List.mem_append.mp hp with hq | hq
      · exact t.vals _ hq
      · cases List.mem_singleton.mp hq; exact ⟨x, hx, rfl⟩
theorem Tab.nd {w h : Nat} {kvs : List (List Key × V)} (t : Tab w h kvs) : (kvs.map (·.1)).Nodup := by rw [t.keys]; exact nd_doors w h
theorem Tab.len {w h : Nat} {kvs : List (List Key × V)} (t : Tab w h kvs) (s : okSize w h) : kvs.length ≤ 72 := by
  have := congrArg List.length t.keys
  rw [List.length_map] at this
  rw [this]
  exact doors_len s
theorem n1 : ¬ (("wide" : Str) = "high") := by decide +kernel
theorem n2 : ¬ (("wide" : Str) = "signs") := by decide +kernel
theorem n3 : ¬ (("high" : Str) = "signs") := by decide +kernel
def flds (w h : Nat) (d : Addr) : List (Str × V) := putF "signs" (.ref d) (putF "high" (.int h) (putF "wide" (.int w) []))
theorem flds_wide (w h : Nat) (d : Addr) : (flds w h d).lookup ("wide" : Str) = some (.int w) := by
  unfold flds
  rw [lookup_putF, if_neg n2, lookup_putF, if_neg n1, lookup_putF, if_pos rfl]
theorem flds_high (w h : Nat) (d : Addr) : (flds w h d).lookup ("high" : Str) = some (.int h) := by
  unfold flds
  rw [lookup_putF, if_neg n3, lookup_putF, if_pos rfl]
theorem flds_signs (w h : Nat) (d : Addr) : (flds w h d).lookup ("signs" : Str) = some (.ref d) := by
  unfold flds
  rw [lookup_putF, if_pos rfl]
theorem flds_no (w h : Nat) (d : Addr) {m : Str} (h1 : ¬ m = "wide") (h2 : ¬ m = "high") (h3 : ¬ m = "signs") : (flds w h d).lookup m = none := by
  unfold flds
  rw [lookup_putF, if_neg h3, lookup_putF, if_neg h2, lookup_putF, if_neg h1]
  rfl
structure BoardAt (C : Addr) (H : Hp) (p : Addr) (w h : Nat) (kvs : List (List Key × V)) : Prop where
  ob : ∃ dx d, H p = some (.ins C dx (flds w h d)) ∧ H d = some (.dT kvs)
  sz : okSize w h
  tb : Tab w h kvs
theorem BoardAt.keep {C : Addr} {H H' : Hp} {p : Addr} {w h : Nat} {kvs : List (List Key × V)} (b : BoardAt C H p w h kvs) (s : Same H H') : BoardAt C H' p w h kvs := by
  obtain ⟨⟨dx, d, h1, h2⟩, sz, tb⟩ := b
  exact ⟨⟨dx, d, s _ _ h1, s _ _ h2⟩, sz, tb⟩
end Sl
namespace Sl
open PySem L2
def wallS (lv : Bool) : Str := if lv then "|" else "-"
def nbC (c k : Int) (lv : Bool) : Int := if lv then (if k = 1 ∨ k = 2 then c + 1 else c - 1) else c
def nbR (r k : Int) (lv : Bool) : Int := if lv then r else (if k = 2 ∨ k = 3 then r + 1 else r - 1)
def inside (w h : Nat) (c r : Int) : Prop := 0 ≤ c ∧ c < w ∧ 0 ≤ r ∧ r < h
instance (w h : Nat) (c r : Int) : Decidable (inside w h c r) := by unfold inside; exact inferInstance
def doorB (c r k : Int) (lv : Bool) : List Key := if lv then rowD (min c (nbC c k lv)) r else colD c (min r (nbR r k lv))
def beside (w h : Nat) (kvs : List (List Key × V)) (c r k : Int) (lv : Bool) : Str := if inside w h (nbC c k lv) (nbR r k lv) then sgAt kvs (doorB c r k lv) else wallS lv
def turnM (x : Str) (k : Int) : Int := if x = "." then (if k = 0 then 2 else if k = 1 then 3 else if k = 2 then 0 else 1) else if x = "|" then (if k = 0 then 3 else if k = 1 then 2 else if k = 2 then 1 else 0) else (if k = 0 then 1 else if k = 1 then 0 else if k = 2 then 3 else 2)
structure Qr where
  c : Int
  r : Int
  k : Int
  deriving DecidableEq
def Qr.key (q : Qr) : List Key := [.inl q.c, .inl q.r, .inl q.k]
theorem Qr.key_inj {a b : Qr} (e : a.key = b.key) : a = b := by
  obtain ⟨a1, a2, a3⟩ := a
  obtain ⟨b1, b2, b3⟩ := b
  have h := List.cons.inj e
  have h2 := List.cons.inj h.2
  have h3 := List.cons.inj h2.2
  have e1 : a1 = b1 := Sum.inl.inj h.1
  have e2 : a2 = b2 := Sum.inl.inj h2.1
  have e3 : a3 = b3 := Sum.inl.inj h3.1
  rw [e1, e2, e3]
theorem Qr.key_ok (q : Qr) : q.key.all keyOk = true := rfl
def Qr.on (w h : Nat) (q : Qr) : Prop := 0 ≤ q.c ∧ q.c < w ∧ 0 ≤ q.r ∧ q.r < h ∧ 0 ≤ q.k ∧ q.k < 4
def ledM (w h : Nat) (kvs : List (List Key × V)) (q : Qr) (lv : Bool) : Qr :=
  if beside w h kvs q.c q.r q.k lv = wallS lv then ⟨q.c, q.r, turnM (wallS lv) q.k⟩ else ⟨nbC q.c q.k lv, nbR q.r q.k lv, turnM (beside w h kvs q.c q.r q.k lv) q.k⟩
theorem wall_sign (lv : Bool) : wallS lv ∈ signs3 := by cases lv <;> simp [wallS, signs3]
theorem k_cases {k : Int} (h0 : 0 ≤ k) (h4 : k < 4) : k = 0 ∨ k = 1 ∨ k = 2 ∨ k = 3 := by omega
theorem doorB_mem {w h : Nat} {q : Qr} (hq : q.on w h) (lv : Bool) (hi : inside w h (nbC q.c q.k lv) (nbR q.r q.k lv)) : doorB q.c q.r q.k lv ∈ doors w h := by
  obtain ⟨c, r, k⟩ := q
  obtain ⟨h1, h2, h3, h4, h5, h6⟩ := hq
  unfold inside at hi
  unfold doorB
  dsimp only at *
  cases lv with
  | true =>
    rw [if_pos rfl, mem_rowD]
    simp only [nbC, nbR, if_true] at hi ⊢
    split at hi <;> rename_i hk
    · rw [if_pos hk]; omega
    · rw [if_neg hk]; omega
  | false =>
    rw [if_neg (by decide), mem_colD]
    simp only [nbC, nbR, Bool.false_eq_true, if_false] at hi ⊢
    split at hi <;> rename_i hk
    · rw [if_pos hk]; omega
    · rw [if_neg hk]; omega
theorem beside_sign {w h : Nat} {kvs : List (List Key × V)} (t : Tab w h kvs) {q : Qr} (hq : q.on w h) (lv : Bool) : beside w h kvs q.c q.r q.k lv ∈ signs3 := by
  unfold beside
  split
  · rename_i hi
    exact (t.sg (doorB_mem hq lv hi)).2
  · exact wall_sign lv
theorem turn_dot {k : Int} (h0 : 0 ≤ k) (h4 : k < 4) : atI ([.int 2, .int 3, .int 0, .int 1] : List V) k = some (.int (turnM "." k)) := by
  rcases k_cases h0 h4 with rfl | rfl | rfl | rfl <;> decide +kernel
theorem turn_bar {k : Int} (h0 : 0 ≤ k) (h4 : k < 4) : atI ([.int 3, .int 2, .int 1, .int 0] : List V) k = some (.int (turnM "|" k)) := by
  rcases k_cases h0 h4 with rfl | rfl | rfl | rfl <;> decide +kernel
theorem turn_dash {k : Int} (h0 : 0 ≤ k) (h4 : k < 4) : atI ([.int 1, .int 0, .int 3, .int 2] : List V) k = some (.int (turnM "-" k)) := by
  rcases k_cases h0 h4 with rfl | rfl | rfl | rfl <;> decide +kernel
def qAt (w : Nat) (n : Nat) : Qr := ⟨(n / 4 % w : Nat), (n / 4 / w : Nat), (n % 4 : Nat)⟩
def quartersM (w h : Nat) : List Qr := (List.range (4 * w * h)).map (qAt w)
theorem qAt_on {w h n : Nat} (hw : 1 ≤ w) (hn : n < 4 * w * h) : (qAt w n).on w h := by
  have h1 : n / 4 % w < w := Nat.mod_lt _ hw
  have h2 : n / 4 / w < h := by
    rw [Nat.div_div_eq_div_mul]
    exact Nat.div_lt_of_lt_mul hn
  have h3 : n % 4 < 4 := Nat.mod_lt _ (by decide)
  exact ⟨Int.natCast_nonneg _, Int.ofNat_lt.mpr h1, Int.natCast_nonneg _, Int.ofNat_lt.mpr h2, Int.natCast_nonneg _, Int.ofNat_lt.mpr h3⟩
theorem mem_quarters {w h : Nat} (hw : 1 ≤ w) {q : Qr} : q ∈ quartersM w h ↔ q.on w h := by
  unfold quartersM
  rw [List.mem_map]
  constructor
  · rintro ⟨n, hn, rfl⟩
    exact qAt_on hw (List.mem_range.mp hn)
  · rintro ⟨h1, h2, h3, h4, h5, h6⟩
    obtain ⟨c, r, k⟩ := q
    dsimp only at *
    obtain ⟨c, rfl⟩ := Int.eq_ofNat_of_zero_le h1
    obtain ⟨r, rfl⟩ := Int.eq_ofNat_of_zero_le h3
    obtain ⟨k, rfl⟩ := Int.eq_ofNat_of_zero_le h5
    have e1 : (4 * (r * w + c) + k) / 4 = r * w + c := by omega
    have e2 : (4 * (r * w + c) + k) % 4 = k := by omega
    have hc : c < w := by omega
    have e3 : (r * w + c) % w = c := by rw [Nat.add_comm, Nat.add_mul_mod_self_right]; exact Nat.mod_eq_of_lt hc
    have e4 : (r * w + c) / w = r := by rw [Nat.add_comm, Nat.add_mul_div_right _ _ hw, Nat.div_eq_of_lt hc, Nat.zero_add]
    refine ⟨4 * (r * w + c) + k, List.mem_range.mpr ?_, ?_⟩
    · have a1 : r * w + w ≤ h * w := by
        have : (r + 1) * w ≤ h * w := Nat.mul_le_mul_right _ (by omega)
        rw [Nat.add_mul, Nat.one_mul] at this
        exact this
      have a2 : 4 * w * h = 4 * (h * w) := by rw [Nat.mul_assoc, Nat.mul_comm w h]
      rw [a2]
      omega
    · unfold qAt
      rw [e1, e2, e3, e4]
theorem dec_key (q q' : Qr) : decide (q.key = q'.key) = decide (q = q') := by
  by_cases e : q = q'
  · subst e; simp
  · rw [decide_eq_false e, decide_eq_false fun z => e (Qr.key_inj z)]
end Sl
namespace Sl
open PySem L2
def PairIs (H : Hp) (x : V) (p : List Key × Str) : Prop := ∃ a ta, x = V.ref a ∧ H a = some (.tup [.ref ta, .str p.2]) ∧ H ta = some (.tup (p.1.map kV))
def PL (H : Hp) (xs : List V) (ps : List (List Key × Str)) : Prop := Paired (PairIs H) xs ps
theorem PL.keep {H H' : Hp} {xs : List V} {ps : List (List Key × Str)} (t : PL H xs ps) (k : Tk H H') : PL H' xs ps := Paired.mapP t fun _ _ ⟨a, ta, e, h1, h2⟩ => ⟨a, ta, e, k a _ h1, k ta _ h2⟩
theorem PL.snoc : ∀ {H : Hp} {xs : List V} {ps : List (List Key × Str)} {x : V} {p : List Key × Str}, PL H xs ps → PairIs H x p → PL H (xs ++ [x]) (ps ++ [p])
  | _, _, _, _, _, .nil, h => .cons h .nil
  | _, _, _, _, _, .cons a t, h => .cons a (PL.snoc t h)
theorem PL.length {H : Hp} {xs : List V} {ps : List (List Key × Str)} (t : PL H xs ps) : xs.length = ps.length := Paired.length t
theorem PL.at : ∀ {H : Hp} {xs : List V} {ps : List (List Key × Str)} {i : Nat} {x : V}, PL H xs ps → xs[i]? = some x → ∃ p, ps[i]? = some p ∧ PairIs H x p
  | _, _, _, _, _, .nil, e => by simp at e
  | _, _, _, 0, _, .cons a t, e => by simp at e; subst e; exact ⟨_, rfl, a⟩
  | _, _, _, i + 1, x, .cons a t, e => by
    obtain ⟨k, h1, h2⟩ := PL.at (i := i) (x := x) t (by simpa using e)
    exact ⟨k, by simpa using h1, h2⟩
theorem atKeys_tl {H : Hp} : ∀ {ks : List (List Key)} {as : List Addr}, AtKeys H ks as → TL H (as.map V.ref) ks
  | [], [], _ => .nil
  | _ :: _, a :: _, h => .cons ⟨a, rfl, h.1⟩ (atKeys_tl h.2)
  | [], _ :: _, h => h.elim
  | _ :: _, [], h => h.elim
def putAll (kb : List (List Key × V)) (ps : List (List Key × Str)) : List (List Key × V) := ps.foldl (fun kb p => putK kb p.1 (.str p.2)) kb
theorem putAll_take {kb : List (List Key × V)} {ps : List (List Key × Str)} {i : Nat} {p : List Key × Str} (e : ps[i]? = some p) : putAll kb (ps.take (i + 1)) = putK (putAll kb (ps.take i)) p.1 (.str p.2) := by
  unfold putAll
  rw [List.take_add_one, e, Option.toList_some, List.foldl_append]
  rfl
theorem putAll_off : ∀ (ps : List (List Key × Str)) (kb : List (List Key × V)) (k : List Key), (¬ k ∈ ps.map (·.1)) → valV (putAll kb ps) k = valV kb k
  | [], _, _, _ => rfl
  | p :: r, kb, k, h => by
    rw [List.map_cons, List.mem_cons] at h
    show valV (putAll (putK kb p.1 (.str p.2)) r) k = _
    rw [putAll_off r _ k fun m => h (.inr m), valV_put, if_neg fun e => h (.inl e)]
theorem putAll_on : ∀ (ps : List (List Key × Str)) (kb : List (List Key × V)) (p : List Key × Str), (ps.map (·.1)).Nodup → p ∈ ps → valV (putAll kb ps) p.1 = some (.str p.2)
  | [], _, _, _, h => by cases h
  | q :: r, kb, p, hn, h => by
    rw [List.map_cons, List.nodup_cons] at hn
    show valV (putAll (putK kb q.1 (.str q.2)) r) p.1 = _
    rcases List.mem_cons.mp h with e | h
    · subst e
      rw [putAll_off r _ _ hn.1, valV_put, if_pos rfl]
    · exact putAll_on r _ p hn.2 h
theorem sgAt_of {kvs : List (List Key × V)} {k : List Key} {x : Str} (e : valV kvs k = some (.str x)) : sgAt kvs k = x := by unfold sgAt; rw [e]
theorem row_col_ne : ¬ (("column" : Str) = "row") := by decide +kernel
def tkey (h : Int) : List Key → List Key
  | [.inr x, .inl c, .inl r] => if x = "row" then colD (h - 1 - r) c else rowD (h - 2 - r) c
  | k => k
def fkey (w : Int) : List Key → List Key
  | [.inr x, .inl c, .inl r] => if x = "row" then rowD (w - 2 - c) r else colD (w - 1 - c) r
  | k => k
theorem tkey_row (h c r : Int) : tkey h (rowD c r) = colD (h - 1 - r) c := by
  show (if ("row" : Str) = "row" then colD (h - 1 - r) c else rowD (h - 2 - r) c) = _
  exact if_pos rfl
theorem tkey_col (h c r : Int) : tkey h (colD c r) = rowD (h - 2 - r) c := by
  show (if ("column" : Str) = "row" then colD (h - 1 - r) c else rowD (h - 2 - r) c) = _
  exact if_neg row_col_ne
theorem fkey_row (w c r : Int) : fkey w (rowD c r) = rowD (w - 2 - c) r := by
  show (if ("row" : Str) = "row" then rowD (w - 2 - c) r else colD (w - 1 - c) r) = _
  exact if_pos rfl
theorem fkey_col (w c r : Int) : fkey w (colD c r) = colD (w - 1 - c) r := by
  show (if ("column" : Str) = "row" then rowD (w - 2 - c) r else colD (w - 1 - c) r) = _
  exact if_neg row_col_ne
theorem door_cases {w h : Nat} {k : List Key} (hk : k ∈ doors w h) : (∃ c r : Int, k = rowD c r ∧ 0 ≤ c ∧ c + 1 < w ∧ 0 ≤ r ∧ r < h) ∨ (∃ c r : Int, k = colD c r ∧ 0 ≤ c ∧ c < w ∧ 0 ≤ r ∧ r + 1 < h) := by
  obtain ⟨r, c, h1, h2, h3⟩ := mem_doors.mp hk
  rcases h3 with ⟨rfl, h3⟩ | ⟨rfl, h3⟩
  · exact .inl ⟨c, r, rfl, mem_rowD.mp hk⟩
  · exact .inr ⟨c, r, rfl, mem_colD.mp hk⟩
theorem tkey_mem {w h : Nat} {k : List Key} (hk : k ∈ doors w h) : tkey h k ∈ doors h w := by
  rcases door_cases hk with ⟨c, r, rfl, h1, h2, h3, h4⟩ | ⟨c, r, rfl, h1, h2, h3, h4⟩
  · rw [tkey_row]; exact mem_colD.mpr ⟨by omega, by omega, by omega, by omega⟩
  · rw [tkey_col]; exact mem_rowD.mpr ⟨by omega, by omega, by omega, by omega⟩
theorem fkey_mem {w h : Nat} {k : List Key} (hk : k ∈ doors w h) : fkey w k ∈ doors w h := by
  rcases door_cases hk with ⟨c, r, rfl, h1, h2, h3, h4⟩ | ⟨c, r, rfl, h1, h2, h3, h4⟩
  · rw [fkey_row]; exact mem_rowD.mpr ⟨by omega, by omega, by omega, by omega⟩
  · rw [fkey_col]; exact mem_colD.mpr ⟨by omega, by omega, by omega, by omega⟩
theorem tkey4 {w h : Nat} {k : List Key} (hk : k ∈ doors w h) : tkey w (tkey h (tkey w (tkey h k))) = k := by
  rcases door_cases hk with ⟨c, r, rfl, h1, h2, h3, h4⟩ | ⟨c, r, rfl, h1, h2, h3, h4⟩
  · rw [tkey_row, tkey_col, tkey_row, tkey_col]
    congr 1 <;> omega
  · rw [tkey_col, tkey_row, tkey_col, tkey_row]
    congr 1 <;> omega
theorem fkey2 {w h : Nat} {k : List Key} (hk : k ∈ doors w h) : fkey w (fkey w k) = k := by
  rcases door_cases hk with ⟨c, r, rfl, h1, h2, h3, h4⟩ | ⟨c, r, rfl, h1, h2, h3, h4⟩
  · rw [fkey_row, fkey_row]; congr 1; omega
  · rw [fkey_col, fkey_col]; congr 1; omega
theorem tkey_inj {w h : Nat} {a b : List Key} (ha : a ∈ doors w h) (hb : b ∈ doors w h) (e : tkey h a = tkey h b) : a = b := by
  rw [← tkey4 ha, e, tkey4 hb]
theorem fkey_inj {w h : Nat} {a b : List Key} (ha : a ∈ doors w h) (hb : b ∈ doors w h) (e : fkey w a = fkey w b) : a = b := by
  rw [← fkey2 ha, e, fkey2 hb]
def tsg (x : Str) : Str := if x = "." then "." else if x = "|" then "-" else "|"
theorem tsg_in {x : Str} (hx : x ∈ signs3) : tsg x ∈ signs3 := by
  unfold signs3 at hx
  simp only [List.mem_cons, List.not_mem_nil, or_false] at hx
  rcases hx with rfl | rfl | rfl <;> decide +kernel
theorem tsg2 {x : Str} (hx : x ∈ signs3) : tsg (tsg x) = x := by
  unfold signs3 at hx
  simp only [List.mem_cons, List.not_mem_nil, or_false] at hx
  rcases hx with rfl | rfl | rfl <;> decide +kernel
theorem nodup_on {f : List Key → List Key} : ∀ (l : List (List Key)), l.Nodup → (∀ a ∈ l, ∀ b ∈ l, f a = f b → a = b) → (l.map f).Nodup
  | [], _, _ => .nil
  | a :: r, hn, hf => by
    rw [List.nodup_cons] at hn
    rw [List.map_cons, List.nodup_cons]
    refine ⟨fun m => ?_, nodup_on r hn.2 fun x hx y hy => hf x (List.mem_cons_of_mem _ hx) y (List.mem_cons_of_mem _ hy)⟩
    obtain ⟨b, hb, e⟩ := List.mem_map.mp m
    exact hn.1 (by rw [← hf b (List.mem_cons_of_mem _ hb) a List.mem_cons_self e]; exact hb)
def Moved (m : List Key → List Key) (g : Str → Str) (w h : Nat) (kvs kb : List (List Key × V)) : Prop := ∀ k ∈ doors w h, sgAt kb (m k) = g (sgAt kvs k)
def movedPs (m : List Key → List Key) (g : Str → Str) (w h : Nat) (kvs : List (List Key × V)) : List (List Key × Str) := (doors w h).map fun k => (m k, g (sgAt kvs k))
theorem moved_of {m : List Key → List Key} {g : Str → Str} {w h : Nat} {kvs kb : List (List Key × V)} (hi : ∀ a ∈ doors w h, ∀ b ∈ doors w h, m a = m b → a = b) : Moved m g w h kvs (putAll kb (movedPs m g w h kvs)) := fun k hk => by
  refine sgAt_of (putAll_on _ _ (m k, g (sgAt kvs k)) ?_ (List.mem_map.mpr ⟨k, hk, rfl⟩))
  unfold movedPs
  rw [List.map_map]
  exact nodup_on _ (nd_doors w h) hi
end Sl
namespace Sl
open PySem L2
def side (k : Int) (lv : Bool) : Bool := if lv then decide (k = 1 ∨ k = 2) else decide (k = 2 ∨ k = 3)
theorem nbC_side (c k : Int) (lv : Bool) : nbC c k lv = if lv then (if side k lv then c + 1 else c - 1) else c := by
  cases lv with
  | true => simp [nbC, side]
  | false => simp [nbC]
theorem nbR_side (r k : Int) (lv : Bool) : nbR r k lv = if lv then r else (if side k lv then r + 1 else r - 1) := by
  cases lv with
  | true => simp [nbR]
  | false => simp [nbR, side]
theorem turn_in {x : Str} {k : Int} (hx : x ∈ signs3) (h0 : 0 ≤ k) (h4 : k < 4) : 0 ≤ turnM x k ∧ turnM x k < 4 := by
  unfold signs3 at hx
  simp only [List.mem_cons, List.not_mem_nil, or_false] at hx
  rcases k_cases h0 h4 with rfl | rfl | rfl | rfl <;> rcases hx with rfl | rfl | rfl <;> decide +kernel
theorem turn_turn {x : Str} {k : Int} (hx : x ∈ signs3) (h0 : 0 ≤ k) (h4 : k < 4) : turnM x (turnM x k) = k := by
  unfold signs3 at hx
  simp only [List.mem_cons, List.not_mem_nil, or_false] at hx
  rcases k_cases h0 h4 with rfl | rfl | rfl | rfl <;> rcases hx with rfl | rfl | rfl <;> decide +kernel
theorem turn_ne {x : Str} {k : Int} (hx : x ∈ signs3) (h0 : 0 ≤ k) (h4 : k < 4) : turnM x k ≠ k := by
  unfold signs3 at hx
  simp only [List.mem_cons, List.not_mem_nil, or_false] at hx
  rcases k_cases h0 h4 with rfl | rfl | rfl | rfl <;> rcases hx with rfl | rfl | rfl <;> decide +kernel
theorem side_wall {k : Int} (lv : Bool) (h0 : 0 ≤ k) (h4 : k < 4) : side (turnM (wallS lv) k) lv = side k lv := by
  cases lv <;> rcases k_cases h0 h4 with rfl | rfl | rfl | rfl <;> decide +kernel
theorem side_flip {x : Str} {k : Int} {lv : Bool} (hx : x ∈ signs3) (hw : x ≠ wallS lv) (h0 : 0 ≤ k) (h4 : k < 4) : side (turnM x k) lv = !side k lv := by
  unfold signs3 at hx
  simp only [List.mem_cons, List.not_mem_nil, or_false] at hx
  cases lv <;> rcases k_cases h0 h4 with rfl | rfl | rfl | rfl <;> rcases hx with rfl | rfl | rfl <;> first | decide +kernel | exact absurd rfl hw
theorem nb_inside {w h : Nat} {kvs : List (List Key × V)} {q : Qr} {lv : Bool} (hb : beside w h kvs q.c q.r q.k lv ≠ wallS lv) : inside w h (nbC q.c q.k lv) (nbR q.r q.k lv) := by
  by_cases hi : inside w h (nbC q.c q.k lv) (nbR q.r q.k lv)
  · exact hi
  · exact absurd (by unfold beside; rw [if_neg hi]) hb
theorem led_on {w h : Nat} {kvs : List (List Key × V)} (t : Tab w h kvs) {q : Qr} (hq : q.on w h) (lv : Bool) : (ledM w h kvs q lv).on w h := by
  obtain ⟨h1, h2, h3, h4, h5, h6⟩ := id hq
  unfold ledM
  split
  · exact ⟨h1, h2, h3, h4, turn_in (wall_sign lv) h5 h6⟩
  · rename_i hb
    obtain ⟨a, b, c, d⟩ := nb_inside hb
    exact ⟨a, b, c, d, turn_in (beside_sign t hq lv) h5 h6⟩
theorem led_ne {w h : Nat} {kvs : List (List Key × V)} (t : Tab w h kvs) {q : Qr} (hq : q.on w h) (lv : Bool) : ledM w h kvs q lv ≠ q := by
  obtain ⟨h1, h2, h3, h4, h5, h6⟩ := id hq
  unfold ledM
  split
  · exact fun e => turn_ne (wall_sign lv) h5 h6 (congrArg Qr.k e)
  · exact fun e => turn_ne (beside_sign t hq lv) h5 h6 (congrArg Qr.k e)
theorem led_back {w h : Nat} {kvs : List (List Key × V)} (t : Tab w h kvs) {q : Qr} (hq : q.on w h) (lv : Bool) : ledM w h kvs (ledM w h kvs q lv) lv = q := by
  obtain ⟨h1, h2, h3, h4, h5, h6⟩ := id hq
  by_cases hb : beside w h kvs q.c q.r q.k lv = wallS lv
  · have e1 : ledM w h kvs q lv = ⟨q.c, q.r, turnM (wallS lv) q.k⟩ := by unfold ledM; rw [if_pos hb]
    have es := side_wall lv h5 h6
    have eC : nbC q.c (turnM (wallS lv) q.k) lv = nbC q.c q.k lv := by rw [nbC_side, nbC_side, es]
    have eR : nbR q.r (turnM (wallS lv) q.k) lv = nbR q.r q.k lv := by rw [nbR_side, nbR_side, es]
    have e2 : beside w h kvs q.c q.r (turnM (wallS lv) q.k) lv = wallS lv := by
      have e3 : beside w h kvs q.c q.r (turnM (wallS lv) q.k) lv = beside w h kvs q.c q.r q.k lv := by
        unfold beside doorB
        rw [eC, eR]
      rw [e3]
      exact hb
    rw [e1]
    unfold ledM
    rw [if_pos e2, turn_turn (wall_sign lv) h5 h6]
  · have hi := nb_inside hb
    have hx := beside_sign t hq lv
    have e1 : ledM w h kvs q lv = ⟨nbC q.c q.k lv, nbR q.r q.k lv, turnM (beside w h kvs q.c q.r q.k lv) q.k⟩ := by unfold ledM; rw [if_neg hb]
    have es := side_flip hx hb h5 h6
    generalize hX : beside w h kvs q.c q.r q.k lv = x at *
    have eC : nbC (nbC q.c q.k lv) (turnM x q.k) lv = q.c := by
      rw [nbC_side, nbC_side, es]
      cases lv with
      | false => rfl
      | true => cases side q.k true <;> simp <;> omega
    have eR : nbR (nbR q.r q.k lv) (turnM x q.k) lv = q.r := by
      rw [nbR_side, nbR_side, es]
      cases lv with
      | true => rfl
      | false => cases side q.k false <;> simp <;> omega
    have eD : doorB (nbC q.c q.k lv) (nbR q.r q.k lv) (turnM x q.k) lv = doorB q.c q.r q.k lv := by
      unfold doorB
      rw [eC, eR]
      cases lv with
      | true =>
        rw [if_pos rfl, if_pos rfl, Int.min_comm]
        rfl
      | false =>
        rw [if_neg (by decide), if_neg (by decide), Int.min_comm]
        rfl
    have e2 : beside w h kvs (nbC q.c q.k lv) (nbR q.r q.k lv) (turnM x q.k) lv = x := by
      unfold beside at hX ⊢
      rw [if_pos hi] at hX
      rw [eC, eR, eD, if_pos ⟨h1, h2, h3, h4⟩]
      exact hX
    rw [e1]
    unfold ledM
    dsimp only
    rw [e2, if_neg hb, eC, eR, turn_turn hx h5 h6]
end Sl
namespace Sl
open PySem L2
section
variable {α : Type} [DecidableEq α]
def walkG (step : α → Bool → α) (first : α) : Nat → α → Bool → List α
  | 0, _, _ => []
  | n + 1, q, lv => if q = first then [] else q :: walkG step first n (step q (!lv)) (!lv)
def lineG (step : α → Bool → α) (F : Nat) (q : α) : List α := q :: walkG step q F (step q true) true
def linesStep (step : α → Bool → α) (F : Nat) (found : List (List α)) (q : α) : List (List α) := if found.any (fun l => decide (q ∈ l)) then found else found ++ [lineG step F q]
def linesG (step : α → Bool → α) (F : Nat) (L : List α) : List (List α) := L.foldl (linesStep step F) []
def pathG (step : α → Bool → α) (q : α) : Nat → α
  | 0 => q
  | n + 1 => step (pathG step q n) (n % 2 == 0)
structure Per (step : α → Bool → α) (q : α) (n : Nat) : Prop where
  pos : 0 < n
  back : pathG step q n = q
  min : ∀ j, 0 < j → j < n → pathG step q j ≠ q
theorem flip_even (i : Nat) : (!(i % 2 == 0)) = ((i + 1) % 2 == 0) := by
  rcases Nat.mod_two_eq_zero_or_one i with h | h
  · rw [h, show (i + 1) % 2 = 1 by omega]; rfl
  · rw [h, show (i + 1) % 2 = 0 by omega]; rfl
theorem walk_path {step : α → Bool → α} {q : α} {n : Nat} (P : Per step q n) : ∀ (m i F : Nat), m = n - (i + 1) → i + 1 ≤ n → m < F → walkG step q F (pathG step q (i + 1)) (i % 2 == 0) = (List.range m).map fun j => pathG step q (i + 1 + j)
  | 0, i, F, hm, hi, hF => by
    have e : i + 1 = n := by omega
    obtain ⟨F, rfl⟩ : ∃ G, F = G + 1 := ⟨F - 1, by omega⟩
    rw [e, P.back]
    show (if q = q then [] else _) = _
    rw [if_pos rfl]
    rfl
  | m + 1, i, F, hm, hi, hF => by
    obtain ⟨F, rfl⟩ : ∃ G, F = G + 1 := ⟨F - 1, by omega⟩
    have ne := P.min (i + 1) (by omega) (by omega)
    show (if pathG step q (i + 1) = q then [] else _) = _
    rw [if_neg ne, flip_even]
    have ih := walk_path P m (i + 1) F (by omega) (by omega) (by omega)
    have e : step (pathG step q (i + 1)) ((i + 1) % 2 == 0) = pathG step q (i + 1 + 1) := rfl
    rw [e, ih, List.range_succ_eq_map, List.map_cons, List.map_map]
    congr 1
    apply List.map_congr_left
    intro j _
    show pathG step q (i + 1 + 1 + j) = pathG step q (i + 1 + (j + 1))
    congr 1
    omega
theorem line_path {step : α → Bool → α} {q : α} {n F : Nat} (P : Per step q n) (hF : n ≤ F) : lineG step F q = (List.range n).map (pathG step q) := by
  have hp := P.pos
  unfold lineG
  have e := walk_path P (n - 1) 0 F (by omega) (by omega) (by omega)
  have e' : walkG step q F (step q true) true = (List.range (n - 1)).map fun j => pathG step q (0 + 1 + j) := e
  rw [e', show n = (n - 1) + 1 by omega, List.range_succ_eq_map, List.map_cons, List.map_map]
  congr 1
  apply List.map_congr_left
  intro j _
  show pathG step q (0 + 1 + j) = pathG step q (j + 1)
  congr 1
  omega
theorem nodup_le : ∀ (l m : List α), l.Nodup → (∀ x ∈ l, x ∈ m) → l.length ≤ m.length
  | [], m, _, _ => Nat.zero_le _
  | a :: l, m, hn, hs => by
    obtain ⟨h1, h2⟩ := List.nodup_cons.mp hn
    have ha : a ∈ m := hs a List.mem_cons_self
    have ih := nodup_le l (m.erase a) h2 fun x hx => by
      have ne : x ≠ a := fun e => h1 (by rw [← e]; exact hx)
      exact (List.mem_erase_of_ne ne).mpr (hs x (List.mem_cons_of_mem _ hx))
    have := List.length_erase_of_mem ha
    have : 0 < m.length := List.length_pos_of_mem ha
    rw [List.length_cons]
    omega
theorem pigeon (L : List α) (f : Nat → α) (h : ∀ i, i ≤ L.length → f i ∈ L) : ∃ i j, i < j ∧ j ≤ L.length ∧ f i = f j := by
  apply Classical.byContradiction
  intro hno
  have hn : ((List.range (L.length + 1)).map f).Nodup := by
    unfold List.Nodup
    rw [List.pairwise_map]
    refine List.Pairwise.imp_of_mem ?_ List.pairwise_lt_range
    intro a b ha hb hab e
    exact hno ⟨a, b, hab, by have := List.mem_range.mp hb; omega, e⟩
  have := nodup_le _ L hn fun x hx => by
    obtain ⟨i, hi, rfl⟩ := List.mem_map.mp hx
    exact h i (by have := List.mem_range.mp hi; omega)
  rw [List.length_map, List.length_range] at this
  omega
theorem least {p : Nat → Prop} [DecidablePred p] : ∀ n, p n → ∃ m, m ≤ n ∧ p m ∧ ∀ j, j < m → ¬ p j := by
  intro n
  induction n using Nat.strongRecOn with
  | _ n ih =>
    intro hn
    by_cases h : ∃ j, j < n ∧ p j
    · obtain ⟨j, hj, pj⟩ := h
      obtain ⟨m, h1, h2, h3⟩ := ih j hj pj
      exact ⟨m, by omega, h2, h3⟩
    · exact ⟨n, Nat.le_refl _, hn, fun j hj pj => h ⟨j, hj, pj⟩⟩
structure Inv2 (step : α → Bool → α) (L : List α) : Prop where
  on : ∀ q ∈ L, ∀ lv, step q lv ∈ L
  ne : ∀ q ∈ L, ∀ lv, step q lv ≠ q
  back : ∀ q ∈ L, ∀ lv, step (step q lv) lv = q
section
variable {step : α → Bool → α} {L : List α} (I : Inv2 step L) {q : α} (hq : q ∈ L)
include I hq
theorem path_on : ∀ n, pathG step q n ∈ L
  | 0 => hq
  | n + 1 => I.on _ (path_on n) _
theorem path_prev (n : Nat) : step (pathG step q (n + 1)) (n % 2 == 0) = pathG step q n := I.back _ (path_on I hq n) _
theorem path_shift : ∀ i j, i % 2 = j % 2 → i ≤ j → pathG step q i = pathG step q j → q = pathG step q (j - i)
  | 0, j, _, _, e => e
  | i + 1, j, hp, hl, e => by
    obtain ⟨j, rfl⟩ : ∃ k, j = k + 1 := ⟨j - 1, by omega⟩
    have h1 := path_prev I hq i
    have h2 := path_prev I hq j
    rw [e, show i % 2 = j % 2 by omega, h2] at h1
    have := path_shift i j (by omega) (by omega) h1.symm
    rw [show j + 1 - (i + 1) = j - i by omega]
    exact this
theorem path_mirror {n : Nat} (hn : n % 2 = 1) (e : pathG step q n = q) : ∀ m, m ≤ n → pathG step q (n - m) = pathG step q m
  | 0, _ => e
  | m + 1, h => by
    have ih := path_mirror hn e m (by omega)
    have h1 := path_prev I hq (n - (m + 1))
    rw [show n - (m + 1) + 1 = n - m by omega, ih] at h1
    rw [← h1]
    show step (pathG step q m) _ = step (pathG step q m) (m % 2 == 0)
    congr 1
    rw [show (n - (m + 1)) % 2 = m % 2 by omega]
theorem path_even {n : Nat} (e : pathG step q n = q) : n % 2 = 0 := by
  rcases Nat.mod_two_eq_zero_or_one n with h | h
  · exact h
  · exfalso
    have e2 := path_mirror I hq h e (n / 2) (by omega)
    rw [show n - n / 2 = n / 2 + 1 by omega] at e2
    exact I.ne _ (path_on I hq (n / 2)) _ e2
theorem per_exists : ∃ n, Per step q n ∧ n ≤ 2 * L.length := by
  obtain ⟨i, j, hij, hj, e⟩ := pigeon L (fun i => pathG step q (2 * i)) fun i _ => path_on I hq _
  have h1 := path_shift I hq (2 * i) (2 * j) (by omega) (by omega) e
  obtain ⟨m, h2, h3, h4⟩ := least (p := fun n => pathG step q (n + 1) = q) (2 * j - 2 * i - 1) (by
    show pathG step q (2 * j - 2 * i - 1 + 1) = q
    rw [show 2 * j - 2 * i - 1 + 1 = 2 * j - 2 * i by omega]
    exact h1.symm)
  refine ⟨m + 1, ⟨Nat.succ_pos _, h3, fun k hk hkm => ?_⟩, by omega⟩
  have := h4 (k - 1) (by omega)
  rw [show k - 1 + 1 = k by omega] at this
  exact this
end
end
def lineM (w h : Nat) (kvs : List (List Key × V)) (q : Qr) : List Qr := lineG (ledM w h kvs) 288 q
def linesM (w h : Nat) (kvs : List (List Key × V)) : List (List Qr) := linesG (ledM w h kvs) 288 (quartersM w h)
theorem inv2 {w h : Nat} {kvs : List (List Key × V)} (hw : 1 ≤ w) (t : Tab w h kvs) : Inv2 (ledM w h kvs) (quartersM w h) where
  on := fun q hq lv => (mem_quarters hw).mpr (led_on t ((mem_quarters hw).mp hq) lv)
  ne := fun q hq lv => led_ne t ((mem_quarters hw).mp hq) lv
  back := fun q hq lv => led_back t ((mem_quarters hw).mp hq) lv
theorem quarters_len (w h : Nat) : (quartersM w h).length = 4 * w * h := by
  unfold quartersM
  rw [List.length_map, List.length_range]
theorem per_of {w h : Nat} {kvs : List (List Key × V)} (s : okSize w h) (t : Tab w h kvs) {q : Qr} (hq : q.on w h) : ∃ n, Per (ledM w h kvs) q n ∧ n ≤ 288 := by
  obtain ⟨n, P, hn⟩ := per_exists (inv2 s.1 t) ((mem_quarters s.1).mpr hq)
  refine ⟨n, P, ?_⟩
  rw [quarters_len] at hn
  have := s.2.2.2.2
  have : 4 * w * h = 4 * (w * h) := Nat.mul_assoc _ _ _
  omega
def four (c r : Nat) : List Qr := [⟨c, r, 0⟩, ⟨c, r, 1⟩, ⟨c, r, 2⟩, ⟨c, r, 3⟩]
def qRow (r n : Nat) : List Qr := (List.range n).flatMap fun c => four c r
def qTo (w n : Nat) : List Qr := (List.range n).flatMap fun r => qRow r w
theorem qRow_succ (r n : Nat) : qRow r (n + 1) = qRow r n ++ four n r := by
  unfold qRow
  rw [List.range_succ, List.flatMap_append]
  simp
theorem qTo_succ (w n : Nat) : qTo w (n + 1) = qTo w n ++ qRow n w := by
  unfold qTo
  rw [List.range_succ, List.flatMap_append]
  simp
theorem qAt_mk {w c r k : Nat} (hc : c < w) (hk : k < 4) : qAt w (4 * (r * w + c) + k) = ⟨c, r, k⟩ := by
  have hw : 0 < w := by omega
  have e1 : (4 * (r * w + c) + k) / 4 = r * w + c := by omega
  have e2 : (4 * (r * w + c) + k) % 4 = k := by omega
  have e3 : (r * w + c) % w = c := by rw [Nat.add_comm, Nat.add_mul_mod_self_right]; exact Nat.mod_eq_of_lt hc
  have e4 : (r * w + c) / w = r := by rw [Nat.add_comm, Nat.add_mul_div_right _ _ hw, Nat.div_eq_of_lt hc, Nat.zero_add]
  unfold qAt
  rw [e1, e2, e3, e4]
theorem range_four (a : Nat) : List.range (a + 4) = List.range a ++ [a, a + 1, a + 2, a + 3] := by
  rw [List.range_succ, List.range_succ, List.range_succ, List.range_succ]
  simp
theorem qRow_eq (w r : Nat) : ∀ n, n ≤ w → (List.range (4 * (r * w) + 4 * n)).map (qAt w) = (List.range (4 * (r * w))).map (qAt w) ++ qRow r n
  | 0, _ => by simp [qRow]
  | n + 1, h => by
    have ih := qRow_eq w r n (by omega)
    rw [show 4 * (r * w) + 4 * (n + 1) = (4 * (r * w) + 4 * n) + 4 by omega, range_four, List.map_append, ih, qRow_succ, List.append_assoc]
    congr 2
    have e0 := qAt_mk (w := w) (c := n) (r := r) (k := 0) (by omega) (by omega)
    have e1 := qAt_mk (w := w) (c := n) (r := r) (k := 1) (by omega) (by omega)
    have e2 := qAt_mk (w := w) (c := n) (r := r) (k := 2) (by omega) (by omega)
    have e3 := qAt_mk (w := w) (c := n) (r := r) (k := 3) (by omega) (by omega)
    rw [show 4 * (r * w + n) + 0 = 4 * (r * w) + 4 * n by omega] at e0
    rw [show 4 * (r * w + n) + 1 = 4 * (r * w) + 4 * n + 1 by omega] at e1
    rw [show 4 * (r * w + n) + 2 = 4 * (r * w) + 4 * n + 2 by omega] at e2
    rw [show 4 * (r * w + n) + 3 = 4 * (r * w) + 4 * n + 3 by omega] at e3
    show [qAt w _, qAt w _, qAt w _, qAt w _] = four n r
    rw [e0, e1, e2, e3]
    rfl
theorem qTo_eq (w : Nat) : ∀ n, (List.range (4 * (n * w))).map (qAt w) = qTo w n
  | 0 => by simp [qTo]
  | n + 1 => by
    have ih := qTo_eq w n
    have := qRow_eq w n w (Nat.le_refl _)
    rw [qTo_succ, ← ih, ← this]
    congr 2
    rw [Nat.add_mul, Nat.one_mul]
    omega
theorem quarters_eq (w h : Nat) : quartersM w h = qTo w h := by
  rw [← qTo_eq]
  unfold quartersM
  congr 2
  rw [Nat.mul_assoc, Nat.mul_comm w h]
theorem qRow_len (r : Nat) : ∀ n, (qRow r n).length = 4 * n
  | 0 => rfl
  | n + 1 => by rw [qRow_succ, List.length_append, qRow_len r n]; rfl
theorem qTo_len (w : Nat) : ∀ n, (qTo w n).length = 4 * (n * w)
  | 0 => by simp [qTo]
  | n + 1 => by rw [qTo_succ, List.length_append, qTo_len w n, qRow_len, Nat.add_mul, Nat.one_mul]; omega
end Sl
namespace Sl
open PySem L2
theorem lt_line {n : Nat} (h : n ≤ 100000) : n < sizeLine := by rw [sizeLine_eq]; omega
end Sl
namespace Sl
open PySem L2
section
variable {α : Type}
structure Eqv (E : α → α → Prop) : Prop where
  refl : ∀ x, E x x
  symm : ∀ {x y}, E x y → E y x
  trans : ∀ {x y z}, E x y → E y z → E x z
end
section
variable {α : Type} [DecidableEq α]
inductive Conn (s : α → Bool → α) (ok : α → Bool → Prop) (x : α) : α → Prop
  | refl : Conn s ok x x
  | step {y : α} (lv : Bool) : Conn s ok x y → ok y lv → Conn s ok x (s y lv)
theorem Conn.trans {s : α → Bool → α} {ok : α → Bool → Prop} {x y z : α} (a : Conn s ok x y) (b : Conn s ok y z) : Conn s ok x z := by
  induction b with
  | refl => exact a
  | step lv _ h ih => exact .step lv ih h
theorem Conn.on {s : α → Bool → α} {ok : α → Bool → Prop} {L : List α} (I : Inv2 s L) {x y : α} (hx : x ∈ L) (a : Conn s ok x y) : y ∈ L := by
  induction a with
  | refl => exact hx
  | step lv _ _ ih => exact I.on _ ih lv
theorem Conn.symm {s : α → Bool → α} {ok : α → Bool → Prop} {L : List α} (I : Inv2 s L) (hok : ∀ q ∈ L, ∀ lv, ok q lv → ok (s q lv) lv) {x y : α} (hx : x ∈ L) (a : Conn s ok x y) : Conn s ok y x := by
  induction a with
  | refl => exact .refl
  | step lv a h ih =>
    have hy := a.on I hx
    have h1 : Conn s ok (s _ lv) _ := .step lv .refl (hok _ hy lv h)
    rw [I.back _ hy lv] at h1
    exact h1.trans ih
abbrev All (s : α → Bool → α) : α → α → Prop := Conn s fun _ _ => True
theorem path_conn {s : α → Bool → α} {q : α} : ∀ n, All s q (pathG s q n)
  | 0 => .refl
  | n + 1 => .step _ (path_conn n) trivial
theorem conn_path {s : α → Bool → α} {L : List α} (I : Inv2 s L) {q x : α} (hq : q ∈ L) (a : All s q x) : ∃ n, pathG s q n = x := by
  induction a with
  | refl => exact ⟨0, rfl⟩
  | step lv a _ ih =>
    obtain ⟨n, rfl⟩ := ih
    by_cases hl : lv = (n % 2 == 0)
    · exact ⟨n + 1, by rw [hl]; rfl⟩
    · cases n with
      | zero =>
        have hlf : lv = false := by cases lv with
          | true => exact absurd rfl hl
          | false => rfl
        obtain ⟨N, P, _⟩ := per_exists I hq
        have hev := path_even I hq P.back
        obtain ⟨m, rfl⟩ : ∃ m, N = m + 1 := ⟨N - 1, by have := P.pos; omega⟩
        refine ⟨m, ?_⟩
        have h1 := path_prev I hq m
        rw [P.back, show (m % 2 == 0) = false by rw [show m % 2 = 1 by omega]; rfl] at h1
        rw [hlf]
        exact h1.symm
      | succ n =>
        have hl2 : lv = (n % 2 == 0) := by
          rw [← flip_even] at hl
          cases lv <;> cases h : (n % 2 == 0) <;> simp_all
        exact ⟨n, by rw [hl2]; exact (path_prev I hq n).symm⟩
theorem mem_line {s : α → Bool → α} {L : List α} (I : Inv2 s L) {F : Nat} (hF : 2 * L.length ≤ F) {q x : α} (hq : q ∈ L) : x ∈ lineG s F q ↔ All s q x := by
  obtain ⟨N, P, hN⟩ := per_exists I hq
  rw [line_path P (by omega), List.mem_map]
  constructor
  · rintro ⟨n, _, rfl⟩
    exact path_conn n
  · intro a
    obtain ⟨n, rfl⟩ := conn_path I hq a
    have red : ∀ n, pathG s q n = pathG s q (n % N) := by
      have hev := path_even I hq P.back
      have shift : ∀ k, pathG s q (k + N) = pathG s q k := by
        intro k
        induction k with
        | zero => rw [Nat.zero_add]; exact P.back
        | succ k ih =>
          rw [show k + 1 + N = (k + N) + 1 by omega]
          show s (pathG s q (k + N)) ((k + N) % 2 == 0) = s (pathG s q k) (k % 2 == 0)
          rw [ih, show (k + N) % 2 = k % 2 by omega]
      intro n
      induction n using Nat.strongRecOn with
      | _ n ih =>
        by_cases h : n < N
        · rw [Nat.mod_eq_of_lt h]
        · have h1 := shift (n - N)
          rw [show n - N + N = n by omega] at h1
          rw [h1, ih (n - N) (by have := P.pos; omega), ← Nat.mod_eq_sub_mod (show n ≥ N by omega)]
    exact ⟨n % N, List.mem_range.mpr (Nat.mod_lt _ P.pos), (red n).symm⟩
end
end Sl
namespace Sl
open PySem L2
section
variable {α : Type} [DecidableEq α]
section
variable {step : α → Bool → α} {L : List α} (I : Inv2 step L) {q : α} (hq : q ∈ L)
include I hq
theorem path_cross : ∀ (d i : Nat), d % 2 = 1 → pathG step q i = pathG step q (i + d) → False := by
  intro d
  induction d using Nat.strongRecOn with
  | _ d ih =>
    intro i hd e
    by_cases h1 : d = 1
    · subst h1
      exact I.ne _ (path_on I hq i) _ e.symm
    · have p1 := path_prev I hq (i + d - 1)
      rw [show i + d - 1 + 1 = i + d by omega, ← e, show (i + d - 1) % 2 = i % 2 by omega] at p1
      exact ih (d - 2) (by omega) (i + 1) (by omega) (by
        rw [show i + 1 + (d - 2) = i + d - 1 by omega]
        exact p1)
theorem path_ne {n : Nat} (P : Per step q n) {i j : Nat} (hij : i < j) (hj : j < n) : pathG step q i ≠ pathG step q j := fun e => by
  by_cases hp : i % 2 = j % 2
  · exact P.min (j - i) (by omega) (by omega) (path_shift I hq i j hp (by omega) e).symm
  · exact path_cross I hq (j - i) i (by omega) (by rw [show i + (j - i) = j by omega]; exact e)
theorem line_nodup {F : Nat} (hF : 2 * L.length ≤ F) : (lineG step F q).Nodup := by
  obtain ⟨N, P, hN⟩ := per_exists I hq
  rw [line_path P (by omega)]
  unfold List.Nodup
  rw [List.pairwise_map]
  refine List.Pairwise.imp_of_mem ?_ List.pairwise_lt_range
  intro a b _ hb hab
  exact path_ne I hq P hab (List.mem_range.mp hb)
end
section
variable {s : α → Bool → α} {L : List α} {F : Nat}
def Lined (s : α → Bool → α) (L : List α) (F : Nat) (found : List (List α)) : Prop := ∀ l ∈ found, ∃ p ∈ L, l = lineG s F p
theorem Lined.step {found : List (List α)} (h : Lined s L F found) {q : α} (hq : q ∈ L) : Lined s L F (linesStep s F found q) := by
  unfold linesStep
  split
  · exact h
  · intro l hl
    rcases List.mem_append.mp hl with z | z
    · exact h l z
    · exact ⟨q, hq, List.mem_singleton.mp z⟩
theorem Lined.fold : ∀ (r : List α) (found : List (List α)), (∀ q ∈ r, q ∈ L) → Lined s L F found → Lined s L F (r.foldl (linesStep s F) found)
  | [], _, _, h => h
  | q :: r, found, hr, h => Lined.fold r _ (fun x hx => hr x (List.mem_cons_of_mem _ hx)) (h.step (hr q List.mem_cons_self))
theorem Lined.off (I : Inv2 s L) (hF : 2 * L.length ≤ F) {found : List (List α)} (h : Lined s L F found) {q x : α} (hq : q ∈ L) (hn : (found.any fun l => decide (q ∈ l)) = false) (a : All s q x) : (found.any fun l => decide (x ∈ l)) = false := by
  cases z : (found.any fun l => decide (x ∈ l)) with
  | false => rfl
  | true =>
    obtain ⟨l, hl, hx⟩ := List.any_eq_true.mp z
    have hx := of_decide_eq_true hx
    obtain ⟨p, hp, rfl⟩ := h l hl
    have a1 := (mem_line I hF hp).mp hx
    have a2 : All s p q := a1.trans (a.symm I (fun _ _ _ _ => trivial) hq)
    have : (found.any fun l => decide (q ∈ l)) = true := List.any_eq_true.mpr ⟨_, hl, decide_eq_true ((mem_line I hF hp).mpr a2)⟩
    rw [this] at hn
    cases hn
theorem fold_nodup (I : Inv2 s L) (hF : 2 * L.length ≤ F) : ∀ (r : List α) (found : List (List α)), (∀ q ∈ r, q ∈ L) → Lined s L F found → found.flatten.Nodup → (r.foldl (linesStep s F) found).flatten.Nodup
  | [], _, _, _, h => h
  | q :: r, found, hr, hl, h => by
    have hq := hr q List.mem_cons_self
    refine fold_nodup I hF r _ (fun x hx => hr x (List.mem_cons_of_mem _ hx)) (hl.step hq) ?_
    unfold linesStep
    split
    · exact h
    · rename_i hn
      have hn : (found.any fun l => decide (q ∈ l)) = false := by simpa using hn
      rw [List.flatten_append, show [lineG s F q].flatten = lineG s F q by simp]
      refine List.nodup_append.mpr ⟨h, line_nodup I hq hF, fun a ha b hb e => ?_⟩
      subst e
      have off := hl.off I hF hq hn ((mem_line I hF hq).mp hb)
      obtain ⟨l, h1, h2⟩ := List.mem_flatten.mp ha
      have : (found.any fun l => decide (a ∈ l)) = true := List.any_eq_true.mpr ⟨l, h1, decide_eq_true h2⟩
      rw [this] at off
      cases off
theorem lines_nodup (I : Inv2 s L) (hF : 2 * L.length ≤ F) : (linesG s F L).flatten.Nodup := fold_nodup I hF L [] (fun _ h => h) (fun _ h => by cases h) .nil
theorem lines_lined : Lined s L F (linesG s F L) := Lined.fold L [] (fun _ h => h) fun _ h => by cases h
theorem step_keep {found : List (List α)} {q : α} {l : List α} (h : l ∈ found) : l ∈ linesStep s F found q := by
  unfold linesStep
  split
  · exact h
  · exact List.mem_append_left _ h
theorem fold_keep : ∀ (r : List α) {found : List (List α)} {l : List α}, l ∈ found → l ∈ r.foldl (linesStep s F) found
  | [], _, _, h => h
  | _ :: r, _, _, h => fold_keep r (step_keep h)
theorem fold_cover : ∀ (r : List α) (found : List (List α)), ∀ q ∈ r, ∃ l ∈ r.foldl (linesStep s F) found, q ∈ l
  | [], _, _, h => by cases h
  | p :: r, found, q, h => by
    rcases List.mem_cons.mp h with e | h
    · subst e
      have : ∃ l ∈ linesStep s F found q, q ∈ l := by
        unfold linesStep
        split
        · rename_i z
          obtain ⟨l, h1, h2⟩ := List.any_eq_true.mp z
          exact ⟨l, h1, of_decide_eq_true h2⟩
        · exact ⟨lineG s F q, List.mem_append_right _ List.mem_cons_self, List.mem_cons_self⟩
      obtain ⟨l, h1, h2⟩ := this
      exact ⟨l, fold_keep r h1, h2⟩
    · exact fold_cover r _ q h
theorem lines_cover {q : α} (hq : q ∈ L) : ∃ l ∈ linesG s F L, q ∈ l := fold_cover L [] q hq
end
end
section
variable {β : Type}
def setB (rows : List (List β)) (r c : Nat) (b : β) : List (List β) := rows.set r ((rows.getD r []).set c b)
structure Dim (rows : List (List β)) (h w : Nat) : Prop where
  hi : rows.length = h
  wd : ∀ row ∈ rows, row.length = w
theorem Dim.at {rows : List (List β)} {h w r : Nat} (D : Dim rows h w) (hr : r < h) : ∃ row, rows[r]? = some row ∧ row.length = w := by
  have hl : r < rows.length := by rw [D.hi]; exact hr
  exact ⟨rows[r], List.getElem?_eq_getElem hl, D.wd _ (List.getElem_mem hl)⟩
theorem Dim.set {rows : List (List β)} {h w : Nat} (D : Dim rows h w) {r : Nat} (c : Nat) (b : β) (hr : r < h) : Dim (setB rows r c b) h w := by
  obtain ⟨row, e, l⟩ := D.at hr
  refine ⟨by unfold setB; rw [List.length_set]; exact D.hi, fun row' h' => ?_⟩
  unfold setB at h'
  rcases List.mem_or_eq_of_mem_set h' with h' | h'
  · exact D.wd _ h'
  · rw [h', List.length_set, List.getD_eq_getElem?_getD, e]
    exact l
def RowIs (f : β → V) (H : Hp) (x : V) (row : List β) : Prop := ∃ a, x = V.ref a ∧ H a = some (.lst (row.map f))
def TB (f : β → V) (H : Hp) (xs : List V) (rows : List (List β)) : Prop := Paired (RowIs f H) xs rows
theorem TB.length {f : β → V} {H : Hp} {xs : List V} {rows : List (List β)} (t : TB f H xs rows) : xs.length = rows.length := Paired.length t
theorem TB.keep {f : β → V} {H H' : Hp} {xs : List V} {rows : List (List β)} (t : TB f H xs rows) (k : ∀ a ys, V.ref a ∈ xs → H a = some (.lst ys) → H' a = some (.lst ys)) : TB f H' xs rows := by
  induction t with
  | nil => exact .nil
  | cons h _ ih =>
    obtain ⟨a, rfl, e⟩ := h
    exact .cons ⟨a, rfl, k a _ List.mem_cons_self e⟩ (ih fun b ys hb => k b ys (List.mem_cons_of_mem _ hb))
theorem TB.snoc {f : β → V} : ∀ {H : Hp} {xs : List V} {rows : List (List β)} {x : V} {row : List β}, TB f H xs rows → RowIs f H x row → TB f H (xs ++ [x]) (rows ++ [row])
  | _, _, _, _, _, .nil, h => .cons h .nil
  | _, _, _, _, _, .cons a t, h => .cons a (TB.snoc t h)
theorem TB.at {f : β → V} : ∀ {H : Hp} {xs : List V} {rows : List (List β)} {i : Nat} {row : List β}, TB f H xs rows → rows[i]? = some row → ∃ x, xs[i]? = some x ∧ RowIs f H x row
  | _, _, _, _, _, .nil, e => by simp at e
  | _, _, _, 0, _, .cons a t, e => by simp at e; subst e; exact ⟨_, rfl, a⟩
  | _, _, _, i + 1, x, .cons a t, e => by
    obtain ⟨k, h1, h2⟩ := TB.at (i := i) t (by simpa using e)
    exact ⟨k, by simpa using h1, h2⟩
theorem TB.set {f : β → V} : ∀ {H : Hp} {xs : List V} {rows : List (List β)} {i : Nat} {a : Addr} {row : List β}, TB f H xs rows → xs.Nodup → xs[i]? = some (.ref a) → TB f (upd H a (.lst (row.map f))) xs (rows.set i row)
  | _, _, _, _, _, _, .nil, _, e => by simp at e
  | H, _, _, 0, a, row, .cons h t, hn, e => by
    simp at e
    subst e
    refine .cons ⟨a, rfl, upd_same⟩ (TB.keep t fun b ys hb e => ?_)
    rw [upd_ne]
    · exact e
    · intro z
      subst z
      exact (List.nodup_cons.mp hn).1 hb
  | H, _, _, i + 1, a, row, .cons h t, hn, e => by
    have e' : _ := (show _ = _ from by simpa using e)
    obtain ⟨b, rfl, hb⟩ := h
    refine .cons ⟨b, rfl, ?_⟩ (TB.set t (List.nodup_cons.mp hn).2 e')
    rw [upd_ne]
    · exact hb
    · intro z
      subst z
      exact (List.nodup_cons.mp hn).1 (List.mem_of_getElem? e')
end
end Sl
namespace Sl
open PySem L2
def lnD (ln : List Qr) : PyData := .list (ln.map fun q => tD q.key)
theorem lay_qs : ∀ ln : List Qr, PyData.canLayAll0 (ln.map fun q => tD q.key) = true
  | [] => by simp [PyData.canLayAll0]
  | q :: r => by
    rw [List.map_cons, PyData.canLayAll0, lay_tD q.key_ok, lay_qs r]
    rfl
theorem lay_lns : ∀ ls : List (List Qr), PyData.canLayAll0 (ls.map lnD) = true
  | [] => by simp [PyData.canLayAll0]
  | l :: r => by
    rw [List.map_cons, PyData.canLayAll0, lay_lns r, show (lnD l).canLay0 = true from by unfold lnD; rw [PyData.canLay0]; exact lay_qs l]
    rfl
theorem depth_qs : ∀ ln : List Qr, PyData.depthAll (ln.map fun q => tD q.key) ≤ 2
  | [] => by simp [PyData.depthAll]
  | q :: r => by
    rw [List.map_cons, PyData.depthAll, depth_tD]
    have := depth_qs r
    omega
theorem depth_lns : ∀ ls : List (List Qr), PyData.depthAll (ls.map lnD) ≤ 5
  | [] => by simp [PyData.depthAll]
  | l :: r => by
    rw [List.map_cons, PyData.depthAll, show (lnD l).depth = PyData.depthAll (l.map fun q => tD q.key) + 1 from by unfold lnD; rw [PyData.depth]]
    have h1 := depth_qs l
    have h2 := depth_lns r
    omega
theorem eqv_qs : ∀ ln : List Qr, PyData.eqvAll (ln.map fun q => tD q.key) (ln.map fun q => tD q.key) = true
  | [] => by simp [PyData.eqvAll]
  | q :: r => by
    rw [List.map_cons, PyData.eqvAll, eqv_tD, decide_eq_true rfl, eqv_qs r]
    rfl
theorem eqv_lns : ∀ ls : List (List Qr), PyData.eqvAll (ls.map lnD) (ls.map lnD) = true
  | [] => by simp [PyData.eqvAll]
  | l :: r => by
    rw [List.map_cons, PyData.eqvAll, eqv_lns r, show PyData.eqv (lnD l) (lnD l) = true from by unfold lnD; rw [PyData.eqv]; exact eqv_qs l]
    rfl
theorem lns_lay (ls : List (List Qr)) : (PyData.list (ls.map lnD)).canLay0 = true := by rw [PyData.canLay0]; exact lay_lns ls
theorem lns_depth (ls : List (List Qr)) : (PyData.list (ls.map lnD)).depth ≤ 60 := by
  rw [PyData.depth]
  have := depth_lns ls
  omega
theorem lns_eqv (ls : List (List Qr)) : PyData.eqv (.list (ls.map lnD)) (.list (ls.map lnD)) = true := by rw [PyData.eqv]; exact eqv_lns ls
end Sl
namespace Sl
open PySem L2
section
variable {α β : Type} [DecidableEq α] [DecidableEq β]
structure Seen (s : α → Bool → α) (L : List α) (s' : β → Bool → β) (L' : List β) (φ : α → β) (ψ : β → α) (τ : Bool → Bool) : Prop where
  on : ∀ q ∈ L, φ q ∈ L'
  on' : ∀ q ∈ L', ψ q ∈ L
  back : ∀ q ∈ L, ψ (φ q) = q
  back' : ∀ q ∈ L', φ (ψ q) = q
  step : ∀ q ∈ L, ∀ lv, s' (φ q) (τ lv) = φ (s q lv)
  flip : ∀ lv, τ (τ lv) = lv
variable {s : α → Bool → α} {L : List α} {s' : β → Bool → β} {L' : List β} {φ : α → β} {ψ : β → α} {τ : Bool → Bool}
theorem Seen.conn (S : Seen s L s' L' φ ψ τ) (I : Inv2 s L) {x y : α} (hx : x ∈ L) (a : All s x y) : All s' (φ x) (φ y) := by
  induction a with
  | refl => exact .refl
  | step lv a _ ih =>
    have := Conn.step (s := s') (τ lv) ih trivial
    rwa [S.step _ (a.on I hx) lv] at this
theorem Seen.conn' (S : Seen s L s' L' φ ψ τ) (I : Inv2 s L) (I' : Inv2 s' L') {x y : β} (hx : x ∈ L') (a : All s' x y) : All s (ψ x) (ψ y) := by
  induction a with
  | refl => exact .refl
  | step lv a _ ih =>
    have hy := a.on I' hx
    have e := S.step _ (S.on' _ hy) (τ lv)
    rw [S.flip, S.back' _ hy] at e
    rw [e, S.back _ (I.on _ (S.on' _ hy) _)]
    exact .step _ ih trivial
theorem nodup_in {γ δ : Type} {f : γ → δ} : ∀ {l : List γ}, l.Nodup → (∀ a ∈ l, ∀ b ∈ l, f a = f b → a = b) → (l.map f).Nodup := by
  intro l hn hf
  unfold List.Nodup
  rw [List.pairwise_map]
  exact List.Pairwise.imp_of_mem (fun {a b} ha hb hab e => hab (hf a ha b hb e)) hn
theorem Seen.inj (S : Seen s L s' L' φ ψ τ) {a b : α} (ha : a ∈ L) (hb : b ∈ L) (e : φ a = φ b) : a = b := by rw [← S.back a ha, ← S.back b hb, e]
theorem Seen.perm (S : Seen s L s' L' φ ψ τ) (I : Inv2 s L) (I' : Inv2 s' L') {F : Nat} (hF : 2 * L.length ≤ F) (hF' : 2 * L'.length ≤ F) {p : α} {p' : β} (hp : p ∈ L) (hp' : p' ∈ L') (a : All s' p' (φ p)) :
    ((lineG s F p).map φ).Perm (lineG s' F p') := by
  have on : ∀ x ∈ lineG s F p, x ∈ L := fun x hx => ((mem_line I hF hp).mp hx).on I hp
  refine (List.perm_ext_iff_of_nodup (nodup_in (line_nodup I hp hF) fun x hx y hy e => S.inj (on x hx) (on y hy) e) (line_nodup I' hp' hF')).mpr fun y => ?_
  rw [mem_line I' hF' hp', List.mem_map]
  constructor
  · rintro ⟨x, hx, rfl⟩
    exact a.trans (S.conn I hp ((mem_line I hF hp).mp hx))
  · intro b
    have hy := b.on I' hp'
    have sy : All s' (φ p) p' := a.symm I' (fun _ _ _ _ => trivial) hp'
    have c := S.conn' I I' (S.on p hp) (sy.trans b)
    rw [S.back p hp] at c
    exact ⟨ψ y, (mem_line I hF hp).mpr c, S.back' y hy⟩
theorem fam_nodup {f : β → Nat} {X : List (List β)} (hn : X.flatten.Nodup) (hne : ∀ l ∈ X, l ≠ []) : (X.map (msort f)).Nodup := by
  have hp := (List.pairwise_flatten.mp hn).2
  unfold List.Nodup
  rw [List.pairwise_map]
  refine List.Pairwise.imp_of_mem (fun {a b} ha hb d e => ?_) hp
  match a, hne a ha with
  | [], z => exact z rfl
  | x :: t, _ =>
    have h1 : x ∈ msort f (x :: t) := msort_mem.mpr (.head _)
    rw [e] at h1
    exact d x (.head _) x (msort_mem.mp h1) rfl
theorem line_ne {F : Nat} {p : α} : lineG s F p ≠ [] := fun e => by cases e
theorem Seen.fam (S : Seen s L s' L' φ ψ τ) (I : Inv2 s L) (I' : Inv2 s' L') {F : Nat} (hF : 2 * L.length ≤ F) (hF' : 2 * L'.length ≤ F) {f : β → Nat} (hf : ∀ a ∈ L', ∀ b ∈ L', f a = f b → a = b) :
    (((linesG s F L).map (·.map φ)).map (msort f)).Perm ((linesG s' F L').map (msort f)) := by
  have one : ∀ {p : α} {p' : β}, p ∈ L → p' ∈ L' → All s' p' (φ p) → msort f ((lineG s F p).map φ) = msort f (lineG s' F p') := by
    intro p p' hp hp' a
    have P := S.perm I I' hF hF' hp hp' a
    refine msort_congr (fun x hx y hy e => hf x ?_ y ?_ e) P
    · exact ((mem_line I' hF' hp').mp (P.mem_iff.mp hx)).on I' hp'
    · exact ((mem_line I' hF' hp').mp (P.mem_iff.mp hy)).on I' hp'
  have onL : ∀ x ∈ (linesG s F L).flatten, x ∈ L := by
    intro x hx
    obtain ⟨l, hl, hx⟩ := List.mem_flatten.mp hx
    obtain ⟨p, hp, rfl⟩ := lines_lined l hl
    exact ((mem_line I hF hp).mp hx).on I hp
  refine (List.perm_ext_iff_of_nodup (fam_nodup ?_ ?_) (fam_nodup (lines_nodup I' hF') ?_)).mpr fun X => ?_
  · rw [← List.map_flatten]
    exact nodup_in (lines_nodup I hF) fun x hx y hy e => S.inj (onL x hx) (onL y hy) e
  · intro l hl
    obtain ⟨m, hm, rfl⟩ := List.mem_map.mp hl
    obtain ⟨p, _, rfl⟩ := lines_lined m hm
    exact fun e => by cases e
  · intro l hl
    obtain ⟨p, _, rfl⟩ := lines_lined l hl
    exact line_ne
  · constructor
    · intro h
      obtain ⟨l, hl, rfl⟩ := List.mem_map.mp h
      obtain ⟨m, hm, rfl⟩ := List.mem_map.mp hl
      obtain ⟨p, hp, rfl⟩ := lines_lined m hm
      obtain ⟨l', hl', hq⟩ := lines_cover (s := s') (F := F) (S.on p hp)
      obtain ⟨p', hp', rfl⟩ := lines_lined l' hl'
      rw [one hp hp' ((mem_line I' hF' hp').mp hq)]
      exact List.mem_map.mpr ⟨_, hl', rfl⟩
    · intro h
      obtain ⟨l', hl', rfl⟩ := List.mem_map.mp h
      obtain ⟨p', hp', rfl⟩ := lines_lined l' hl'
      obtain ⟨m, hm, hq⟩ := lines_cover (s := s) (F := F) (S.on' p' hp')
      obtain ⟨p, hp, rfl⟩ := lines_lined m hm
      have a : All s p (ψ p') := (mem_line I hF hp).mp hq
      have b := S.conn I hp a
      rw [S.back' p' hp'] at b
      rw [← one hp hp' (b.symm I' (fun _ _ _ _ => trivial) (S.on p hp))]
      exact List.mem_map.mpr ⟨_, List.mem_map.mpr ⟨_, hm, rfl⟩, rfl⟩
end
def rq (q : Qr) : Nat := TS.rank3 q.c q.r q.k
def rhead (l : List Qr) : Nat := match l with
  | [] => 0
  | q :: _ => rq q
def canon (ls : List (List Qr)) : List (List Qr) := msort rhead (ls.map (msort rq))
def smallQ (q : Qr) : Prop := TS.small q.c ∧ TS.small q.r ∧ TS.small q.k
theorem rq_inj {a b : Qr} (ha : smallQ a) (hb : smallQ b) (e : rq a = rq b) : a = b := by
  obtain ⟨h1, h2, h3⟩ := ha
  obtain ⟨h4, h5, h6⟩ := hb
  obtain ⟨e1, e2, e3⟩ := TS.rank3_inj h1 h2 h3 h4 h5 h6 e
  cases a; cases b
  simp only at e1 e2 e3
  rw [e1, e2, e3]
theorem on_small {w h : Nat} (s : okSize w h) {q : Qr} (hq : q.on w h) : smallQ q := by
  obtain ⟨h1, h2, h3, h4, h5, h6⟩ := hq
  obtain ⟨a1, a2, a3, a4, _⟩ := s
  unfold smallQ TS.small
  omega
structure Fit (ls : List (List Qr)) : Prop where
  small : ∀ l ∈ ls, ∀ q ∈ l, smallQ q
  ne : ∀ l ∈ ls, l ≠ []
  nd : ls.flatten.Nodup
theorem Fit.head {ls : List (List Qr)} (F : Fit ls) : ∀ a ∈ ls.map (msort rq), ∀ b ∈ ls.map (msort rq), rhead a = rhead b → a = b := by
  intro a ha b hb e
  obtain ⟨l, hl, rfl⟩ := List.mem_map.mp ha
  obtain ⟨m, hm, rfl⟩ := List.mem_map.mp hb
  have h1 : msort rq l ≠ [] := fun z => F.ne l hl (List.eq_nil_of_length_eq_zero (by rw [← msort_len rq l, z]; rfl))
  have h2 : msort rq m ≠ [] := fun z => F.ne m hm (List.eq_nil_of_length_eq_zero (by rw [← msort_len rq m, z]; rfl))
  obtain ⟨x, t, ex⟩ := List.exists_cons_of_ne_nil h1
  obtain ⟨y, u, ey⟩ := List.exists_cons_of_ne_nil h2
  have mx : x ∈ l := msort_mem.mp (by rw [ex]; exact .head _)
  have my : y ∈ m := msort_mem.mp (by rw [ey]; exact .head _)
  have exy : x = y := rq_inj (F.small l hl x mx) (F.small m hm y my) (by rw [ex, ey] at e; exact e)
  subst exy
  by_cases elm : l = m
  · rw [elm]
  · exfalso
    have hp := (List.pairwise_flatten.mp F.nd).2
    have : ∀ {X : List (List Qr)}, X.Pairwise (fun a b => ∀ c ∈ a, ∀ d ∈ b, c ≠ d) → l ∈ X → m ∈ X → False := by
      intro X
      induction X with
      | nil => intro _ h; cases h
      | cons z X ih =>
        intro hp hl hm
        obtain ⟨h1, h2⟩ := List.pairwise_cons.mp hp
        rcases List.mem_cons.mp hl with e1 | hl'
        · rcases List.mem_cons.mp hm with e2 | hm'
          · exact elm (e1.trans e2.symm)
          · exact h1 m hm' x (e1 ▸ mx) x my rfl
        · rcases List.mem_cons.mp hm with e2 | hm'
          · exact h1 l hl' x (e2 ▸ my) x mx rfl
          · exact ih h2 hl' hm'
    exact this hp hl hm
theorem canon_congr {ls ms : List (List Qr)} (F : Fit ls) (p : (ls.map (msort rq)).Perm (ms.map (msort rq))) : canon ls = canon ms := msort_congr F.head p
end Sl
namespace Sl
open PySem L2
def qT (h : Nat) (q : Qr) : Qr := ⟨(h : Int) - 1 - q.r, q.c, (q.k + 1) % 4⟩
def qT' (h : Nat) (q : Qr) : Qr := ⟨q.r, (h : Int) - 1 - q.c, (q.k + 3) % 4⟩
def fk (k : Int) : Int := if k = 0 then 1 else if k = 1 then 0 else if k = 2 then 3 else 2
def qF (w : Nat) (q : Qr) : Qr := ⟨(w : Int) - 1 - q.c, q.r, fk q.k⟩
theorem Qr.ext3 {a b : Qr} (h1 : a.c = b.c) (h2 : a.r = b.r) (h3 : a.k = b.k) : a = b := by
  cases a; cases b
  simp only at h1 h2 h3
  rw [h1, h2, h3]
theorem qT_on {w h : Nat} {q : Qr} (hq : q.on w h) : (qT h q).on h w := by
  unfold Qr.on qT at *
  dsimp only
  omega
theorem qT'_on {w h : Nat} {q : Qr} (hq : q.on h w) : (qT' h q).on w h := by
  unfold Qr.on qT' at *
  dsimp only
  omega
theorem qT_back {w h : Nat} {q : Qr} (hq : q.on w h) : qT' h (qT h q) = q := by
  unfold Qr.on at hq
  refine Qr.ext3 ?_ ?_ ?_ <;> simp only [qT, qT'] <;> omega
theorem qT_back' {w h : Nat} {q : Qr} (hq : q.on h w) : qT h (qT' h q) = q := by
  unfold Qr.on at hq
  refine Qr.ext3 ?_ ?_ ?_ <;> simp only [qT, qT'] <;> omega
theorem fk_in {k : Int} (h0 : 0 ≤ k) (h4 : k < 4) : 0 ≤ fk k ∧ fk k < 4 := by
  unfold fk
  split <;> (try split) <;> (try split) <;> omega
theorem fk_fk {k : Int} (h0 : 0 ≤ k) (h4 : k < 4) : fk (fk k) = k := by
  rcases k_cases h0 h4 with rfl | rfl | rfl | rfl <;> decide
theorem qF_on {w h : Nat} {q : Qr} (hq : q.on w h) : (qF w q).on w h := by
  obtain ⟨h1, h2, h3, h4, h5, h6⟩ := hq
  have := fk_in h5 h6
  unfold Qr.on qF
  dsimp only
  omega
theorem qF_back {w h : Nat} {q : Qr} (hq : q.on w h) : qF w (qF w q) = q := by
  obtain ⟨h1, h2, h3, h4, h5, h6⟩ := hq
  refine Qr.ext3 ?_ ?_ ?_
  · simp only [qF]; omega
  · rfl
  · exact fk_fk h5 h6
theorem turn_T {x : Str} {k : Int} (hx : x ∈ signs3) (h0 : 0 ≤ k) (h4 : k < 4) : turnM (tsg x) ((k + 1) % 4) = (turnM x k + 1) % 4 := by
  unfold signs3 at hx
  simp only [List.mem_cons, List.not_mem_nil, or_false] at hx
  rcases k_cases h0 h4 with rfl | rfl | rfl | rfl <;> rcases hx with rfl | rfl | rfl <;> decide +kernel
theorem turn_F {x : Str} {k : Int} (hx : x ∈ signs3) (h0 : 0 ≤ k) (h4 : k < 4) : turnM x (fk k) = fk (turnM x k) := by
  unfold signs3 at hx
  simp only [List.mem_cons, List.not_mem_nil, or_false] at hx
  rcases k_cases h0 h4 with rfl | rfl | rfl | rfl <;> rcases hx with rfl | rfl | rfl <;> decide +kernel
theorem wall_T (lv : Bool) : wallS (!lv) = tsg (wallS lv) := by cases lv <;> decide +kernel
theorem tsg_inj {x y : Str} (hx : x ∈ signs3) (hy : y ∈ signs3) (e : tsg x = tsg y) : x = y := by rw [← tsg2 hx, e, tsg2 hy]
theorem nbC_T {h : Nat} {q : Qr} (lv : Bool) (h0 : 0 ≤ q.k) (h4 : q.k < 4) : nbC (qT h q).c (qT h q).k (!lv) = (h : Int) - 1 - nbR q.r q.k lv := by
  obtain ⟨c, r, k⟩ := q
  dsimp only at h0 h4
  cases lv <;> rcases k_cases h0 h4 with rfl | rfl | rfl | rfl <;> simp [nbC, nbR, qT] <;> omega
theorem nbR_T {h : Nat} {q : Qr} (lv : Bool) (h0 : 0 ≤ q.k) (h4 : q.k < 4) : nbR (qT h q).r (qT h q).k (!lv) = nbC q.c q.k lv := by
  obtain ⟨c, r, k⟩ := q
  dsimp only at h0 h4
  cases lv <;> rcases k_cases h0 h4 with rfl | rfl | rfl | rfl <;> simp [nbC, nbR, qT]
theorem nbC_F {w : Nat} {q : Qr} (lv : Bool) (h0 : 0 ≤ q.k) (h4 : q.k < 4) : nbC (qF w q).c (qF w q).k lv = (w : Int) - 1 - nbC q.c q.k lv := by
  obtain ⟨c, r, k⟩ := q
  dsimp only at h0 h4
  cases lv <;> rcases k_cases h0 h4 with rfl | rfl | rfl | rfl <;> simp [nbC, qF, fk] <;> omega
theorem nbR_F {w : Nat} {q : Qr} (lv : Bool) (h0 : 0 ≤ q.k) (h4 : q.k < 4) : nbR (qF w q).r (qF w q).k lv = nbR q.r q.k lv := by
  obtain ⟨c, r, k⟩ := q
  dsimp only at h0 h4
  cases lv <;> rcases k_cases h0 h4 with rfl | rfl | rfl | rfl <;> simp [nbR, qF, fk]
theorem near_one (c r k : Int) (lv : Bool) : (lv = true → nbR r k lv = r ∧ (nbC c k lv = c + 1 ∨ nbC c k lv = c - 1)) ∧ (lv = false → nbC c k lv = c ∧ (nbR r k lv = r + 1 ∨ nbR r k lv = r - 1)) := by
  constructor
  · intro e
    subst e
    refine ⟨by simp [nbR], ?_⟩
    simp only [nbC, if_true]
    split
    · exact .inl rfl
    · exact .inr rfl
  · intro e
    subst e
    refine ⟨by simp [nbC], ?_⟩
    simp only [nbR, Bool.false_eq_true, if_false]
    split
    · exact .inl rfl
    · exact .inr rfl
theorem door_T {h : Nat} {q : Qr} (lv : Bool) (h0 : 0 ≤ q.k) (h4 : q.k < 4) : doorB (qT h q).c (qT h q).r (qT h q).k (!lv) = tkey h (doorB q.c q.r q.k lv) := by
  have e1 := nbC_T (h := h) (q := q) lv h0 h4
  have e2 := nbR_T (h := h) (q := q) lv h0 h4
  obtain ⟨n1, n2⟩ := near_one q.c q.r q.k lv
  unfold doorB
  rw [e1, e2]
  cases lv with
  | true =>
    simp only [Bool.not_true, Bool.false_eq_true, if_false, if_true]
    rw [tkey_row]
    rfl
  | false =>
    simp only [Bool.not_false, Bool.false_eq_true, if_false, if_true]
    rw [tkey_col]
    obtain ⟨_, n2⟩ := n2 rfl
    have : min (qT h q).c ((h : Int) - 1 - nbR q.r q.k false) = (h : Int) - 2 - min q.r (nbR q.r q.k false) := by
      show min ((h : Int) - 1 - q.r) _ = _
      omega
    rw [this]
    rfl
theorem door_F {w : Nat} {q : Qr} (lv : Bool) (h0 : 0 ≤ q.k) (h4 : q.k < 4) : doorB (qF w q).c (qF w q).r (qF w q).k lv = fkey w (doorB q.c q.r q.k lv) := by
  have e1 := nbC_F (w := w) (q := q) lv h0 h4
  have e2 := nbR_F (w := w) (q := q) lv h0 h4
  obtain ⟨n1, n2⟩ := near_one q.c q.r q.k lv
  unfold doorB
  rw [e1, e2]
  cases lv with
  | true =>
    simp only [if_true]
    rw [fkey_row]
    obtain ⟨_, n1⟩ := n1 rfl
    have : min (qF w q).c ((w : Int) - 1 - nbC q.c q.k true) = (w : Int) - 2 - min q.c (nbC q.c q.k true) := by
      show min ((w : Int) - 1 - q.c) _ = _
      omega
    rw [this]
    rfl
  | false =>
    simp only [Bool.false_eq_true, if_false]
    rw [fkey_col]
    rfl
section
variable {w h : Nat} {kvs kb : List (List Key × V)}
theorem beside_T (t : Tab w h kvs) (m : Moved (tkey h) tsg w h kvs kb) {q : Qr} (hq : q.on w h) (lv : Bool) : beside h w kb (qT h q).c (qT h q).r (qT h q).k (!lv) = tsg (beside w h kvs q.c q.r q.k lv) := by
  obtain ⟨h1, h2, h3, h4, h5, h6⟩ := id hq
  unfold beside
  rw [nbC_T lv h5 h6, nbR_T lv h5 h6, door_T lv h5 h6]
  by_cases hi : inside w h (nbC q.c q.k lv) (nbR q.r q.k lv)
  · have hi' : inside h w ((h : Int) - 1 - nbR q.r q.k lv) (nbC q.c q.k lv) := by unfold inside at *; omega
    rw [if_pos hi, if_pos hi']
    exact m _ (doorB_mem hq lv hi)
  · have hi' : ¬ inside h w ((h : Int) - 1 - nbR q.r q.k lv) (nbC q.c q.k lv) := by unfold inside at *; omega
    rw [if_neg hi, if_neg hi']
    exact wall_T lv
theorem led_T (t : Tab w h kvs) (m : Moved (tkey h) tsg w h kvs kb) {q : Qr} (hq : q.on w h) (lv : Bool) : ledM h w kb (qT h q) (!lv) = qT h (ledM w h kvs q lv) := by
  obtain ⟨h1, h2, h3, h4, h5, h6⟩ := id hq
  have hb := beside_T t m hq lv
  have hx := beside_sign t hq lv
  unfold ledM
  rw [hb, wall_T lv]
  by_cases e : beside w h kvs q.c q.r q.k lv = wallS lv
  · rw [if_pos e, if_pos (by rw [e])]
    exact Qr.ext3 rfl rfl (turn_T (wall_sign lv) h5 h6)
  · rw [if_neg e, if_neg (fun z => e (tsg_inj hx (wall_sign lv) z))]
    exact Qr.ext3 (nbC_T lv h5 h6) (nbR_T lv h5 h6) (turn_T hx h5 h6)
theorem beside_F (t : Tab w h kvs) (m : Moved (fkey w) id w h kvs kb) {q : Qr} (hq : q.on w h) (lv : Bool) : beside w h kb (qF w q).c (qF w q).r (qF w q).k lv = beside w h kvs q.c q.r q.k lv := by
  obtain ⟨h1, h2, h3, h4, h5, h6⟩ := id hq
  unfold beside
  rw [nbC_F lv h5 h6, nbR_F lv h5 h6, door_F lv h5 h6]
  by_cases hi : inside w h (nbC q.c q.k lv) (nbR q.r q.k lv)
  · have hi' : inside w h ((w : Int) - 1 - nbC q.c q.k lv) (nbR q.r q.k lv) := by unfold inside at *; omega
    rw [if_pos hi, if_pos hi']
    exact m _ (doorB_mem hq lv hi)
  · have hi' : ¬ inside w h ((w : Int) - 1 - nbC q.c q.k lv) (nbR q.r q.k lv) := by unfold inside at *; omega
    rw [if_neg hi, if_neg hi']
theorem led_F (t : Tab w h kvs) (m : Moved (fkey w) id w h kvs kb) {q : Qr} (hq : q.on w h) (lv : Bool) : ledM w h kb (qF w q) lv = qF w (ledM w h kvs q lv) := by
  obtain ⟨h1, h2, h3, h4, h5, h6⟩ := id hq
  have hb := beside_F t m hq lv
  have hx := beside_sign t hq lv
  unfold ledM
  rw [hb]
  by_cases e : beside w h kvs q.c q.r q.k lv = wallS lv
  · rw [if_pos e, if_pos e]
    exact Qr.ext3 rfl rfl (turn_F (wall_sign lv) h5 h6)
  · rw [if_neg e, if_neg e]
    exact Qr.ext3 (nbC_F lv h5 h6) (nbR_F lv h5 h6) (turn_F hx h5 h6)
theorem seen_T (s : okSize w h) (t : Tab w h kvs) (m : Moved (tkey h) tsg w h kvs kb) : Seen (ledM w h kvs) (quartersM w h) (ledM h w kb) (quartersM h w) (qT h) (qT' h) (!·) where
  on := fun q hq => (mem_quarters s.2.2.1).mpr (qT_on ((mem_quarters s.1).mp hq))
  on' := fun q hq => (mem_quarters s.1).mpr (qT'_on ((mem_quarters s.2.2.1).mp hq))
  back := fun q hq => qT_back ((mem_quarters s.1).mp hq)
  back' := fun q hq => qT_back' ((mem_quarters s.2.2.1).mp hq)
  step := fun q hq lv => led_T t m ((mem_quarters s.1).mp hq) lv
  flip := fun lv => by cases lv <;> rfl
theorem seen_F (s : okSize w h) (t : Tab w h kvs) (m : Moved (fkey w) id w h kvs kb) : Seen (ledM w h kvs) (quartersM w h) (ledM w h kb) (quartersM w h) (qF w) (qF w) id where
  on := fun q hq => (mem_quarters s.1).mpr (qF_on ((mem_quarters s.1).mp hq))
  on' := fun q hq => (mem_quarters s.1).mpr (qF_on ((mem_quarters s.1).mp hq))
  back := fun q hq => qF_back ((mem_quarters s.1).mp hq)
  back' := fun q hq => qF_back ((mem_quarters s.1).mp hq)
  step := fun q hq lv => led_F t m ((mem_quarters s.1).mp hq) lv
  flip := fun _ => rfl
theorem len_ok (s : okSize w h) : 2 * (quartersM w h).length ≤ 288 := by
  obtain ⟨_, _, _, _, e⟩ := s
  rw [quarters_len]
  have : 4 * w * h = 4 * (w * h) := Nat.mul_assoc _ _ _
  omega
theorem lines_fit (s : okSize w h) (t : Tab w h kvs) : Fit (linesM w h kvs) where
  small := fun l hl q hq => by
    obtain ⟨p, hp, rfl⟩ := lines_lined l hl
    exact on_small s ((mem_quarters s.1).mp (((mem_line (inv2 s.1 t) (len_ok s) hp).mp hq).on (inv2 s.1 t) hp))
  ne := fun l hl => by
    obtain ⟨p, _, rfl⟩ := lines_lined l hl
    exact line_ne
  nd := lines_nodup (inv2 s.1 t) (len_ok s)
theorem swapO (s : okSize w h) : okSize h w := by
  obtain ⟨a, b, c, d, e⟩ := s
  exact ⟨c, d, a, b, by rw [Nat.mul_comm]; exact e⟩
theorem map_fit {φ : Qr → Qr} {ls : List (List Qr)} (F : Fit ls) (h1 : ∀ l ∈ ls, ∀ q ∈ l, smallQ (φ q)) (h2 : ∀ a ∈ ls.flatten, ∀ b ∈ ls.flatten, φ a = φ b → a = b) : Fit (ls.map (·.map φ)) where
  small := fun l hl q hq => by
    obtain ⟨m, hm, rfl⟩ := List.mem_map.mp hl
    obtain ⟨x, hx, rfl⟩ := List.mem_map.mp hq
    exact h1 m hm x hx
  ne := fun l hl => by
    obtain ⟨m, hm, rfl⟩ := List.mem_map.mp hl
    exact fun e => F.ne m hm (List.map_eq_nil_iff.mp e)
  nd := by
    rw [← List.map_flatten]
    exact nodup_in F.nd h2
theorem flat_on (s : okSize w h) (t : Tab w h kvs) {q : Qr} (hq : q ∈ (linesM w h kvs).flatten) : q.on w h := by
  obtain ⟨l, hl, hx⟩ := List.mem_flatten.mp hq
  obtain ⟨p, hp, rfl⟩ := lines_lined l hl
  exact (mem_quarters s.1).mp (((mem_line (inv2 s.1 t) (len_ok s) hp).mp hx).on (inv2 s.1 t) hp)
theorem fit_T (s : okSize w h) (t : Tab w h kvs) : Fit ((linesM w h kvs).map (·.map (qT h))) :=
  map_fit (lines_fit s t) (fun l hl q hq => on_small (swapO s) (qT_on (flat_on s t (List.mem_flatten.mpr ⟨l, hl, hq⟩)))) fun a ha b hb e => by
    rw [← qT_back (flat_on s t ha), ← qT_back (flat_on s t hb), e]
theorem fit_F (s : okSize w h) (t : Tab w h kvs) : Fit ((linesM w h kvs).map (·.map (qF w))) :=
  map_fit (lines_fit s t) (fun l hl q hq => on_small s (qF_on (flat_on s t (List.mem_flatten.mpr ⟨l, hl, hq⟩)))) fun a ha b hb e => by
    rw [← qF_back (flat_on s t ha), ← qF_back (flat_on s t hb), e]
theorem canon_T (s : okSize w h) (t : Tab w h kvs) (t' : Tab h w kb) (m : Moved (tkey h) tsg w h kvs kb) : canon (linesM h w kb) = canon ((linesM w h kvs).map (·.map (qT h))) :=
  (canon_congr (fit_T s t) ((seen_T s t m).fam (inv2 s.1 t) (inv2 s.2.2.1 t') (len_ok s) (len_ok (swapO s)) fun a ha b hb e =>
    rq_inj (on_small (swapO s) ((mem_quarters s.2.2.1).mp ha)) (on_small (swapO s) ((mem_quarters s.2.2.1).mp hb)) e)).symm
theorem canon_F (s : okSize w h) (t : Tab w h kvs) (t' : Tab w h kb) (m : Moved (fkey w) id w h kvs kb) : canon (linesM w h kb) = canon ((linesM w h kvs).map (·.map (qF w))) :=
  (canon_congr (fit_F s t) ((seen_F s t m).fam (inv2 s.1 t) (inv2 s.1 t') (len_ok s) (len_ok s) fun a ha b hb e =>
    rq_inj (on_small s ((mem_quarters s.1).mp ha)) (on_small s ((mem_quarters s.1).mp hb)) e)).symm
end
end Sl
namespace Sl
open PySem L2
def qOf (H : Hp) (a : Addr) : Qr := match H a with
  | some (.tup [.int c, .int r, .int k]) => ⟨c, r, k⟩
  | _ => ⟨0, 0, 0⟩
theorem qOf_at {H : Hp} {a : Addr} {q : Qr} (e : H a = some (.tup (q.key.map kV))) : qOf H a = q := by
  unfold qOf
  rw [e]
  rfl
theorem tl_as {H : Hp} : ∀ {ys : List V} {ln : List Qr}, TL H ys (ln.map Qr.key) → ∃ as : List Addr, ys = as.map V.ref ∧ ln = as.map (qOf H) ∧ ∀ a ∈ as, H a = some (.tup ((qOf H a).key.map kV))
  | [], [], _ => ⟨[], rfl, rfl, fun _ h => by cases h⟩
  | _ :: _, [], h => by cases h
  | [], _ :: _, h => by cases h
  | y :: ys, q :: ln, .cons ⟨a, e, h⟩ t => by
    obtain ⟨as, e1, e2, e3⟩ := tl_as (ln := ln) t
    have eq := qOf_at h
    refine ⟨a :: as, by rw [e, e1]; rfl, by rw [List.map_cons, eq, ← e2], fun b hb => ?_⟩
    rcases List.mem_cons.mp hb with rfl | hb
    · rw [eq]; exact h
    · exact e3 b hb
theorem as_tl {H : Hp} : ∀ {as : List Addr}, (∀ a ∈ as, H a = some (.tup ((qOf H a).key.map kV))) → TL H (as.map V.ref) ((as.map (qOf H)).map Qr.key)
  | [], _ => .nil
  | a :: as, h => .cons ⟨a, rfl, h a (.head _)⟩ (as_tl fun b hb => h b (.tail _ hb))
def vAd : V → Addr
  | .ref a => a
  | _ => 0
def lnOf (H : Hp) (a : Addr) : List Qr := match H a with
  | some (.lst zs) => zs.map fun v => qOf H (vAd v)
  | _ => []
def LineOk (H : Hp) (ok : Addr → Prop) (x : V) (line : List Qr) : Prop := ∃ a ys, x = V.ref a ∧ ok a ∧ H a = some (.lst ys) ∧ TL H ys (line.map Qr.key)
def LN (H : Hp) (ok : Addr → Prop) (xs : List V) (ls : List (List Qr)) : Prop := Paired (LineOk H ok) xs ls
theorem LN.keep {H H' : Hp} {ok ok' : Addr → Prop} {xs : List V} {ls : List (List Qr)} (h : LN H ok xs ls) (k : ∀ b ys, H b = some (.lst ys) → ok b → ok' b ∧ H' b = some (.lst ys)) (t : Tk H H') : LN H' ok' xs ls :=
  Paired.mapP h fun _ _ ⟨a, ys, e, n, h1, h2⟩ => ⟨a, ys, e, (k a ys h1 n).1, (k a ys h1 n).2, h2.keep t⟩
theorem LN.snoc : ∀ {H : Hp} {ok : Addr → Prop} {xs : List V} {ls : List (List Qr)} {x : V} {line : List Qr}, LN H ok xs ls → LineOk H ok x line → LN H ok (xs ++ [x]) (ls ++ [line])
  | _, _, _, _, _, _, .nil, h => .cons h .nil
  | _, _, _, _, _, _, .cons a t, h => .cons a (LN.snoc t h)
theorem LN.length {H : Hp} {ok : Addr → Prop} {xs : List V} {ls : List (List Qr)} (h : LN H ok xs ls) : xs.length = ls.length := Paired.length h
theorem LN.at : ∀ {H : Hp} {ok : Addr → Prop} {xs : List V} {ls : List (List Qr)} {i : Nat} {x : V}, LN H ok xs ls → xs[i]? = some x → ∃ ln, ls[i]? = some ln ∧ LineOk H ok x ln
  | _, _, _, _, _, _, .nil, e => by simp at e
  | _, _, _, _, 0, _, .cons a t, e => by simp at e; subst e; exact ⟨_, rfl, a⟩
  | _, _, _, _, i + 1, x, .cons a t, e => by
    obtain ⟨k, h1, h2⟩ := LN.at (i := i) (x := x) t (by simpa using e)
    exact ⟨k, by simpa using h1, h2⟩
theorem LN.rdvs : ∀ {H : Hp} {ok : Addr → Prop} {xs : List V} {ls : List (List Qr)}, LN H ok xs ls → RdVs H xs (ls.map lnD)
  | _, _, _, _, .nil => .nil
  | _, _, _, _, .cons (a := x) (b := ln) ⟨a, ys, e, n, h1, h2⟩ t => by
    subst e
    refine .cons ?_ (LN.rdvs t)
    have := h2.rdv
    rw [List.map_map] at this
    exact .lst h1 this
theorem lnOf_at {H : Hp} {a : Addr} {ys : List V} {ln : List Qr} (e : H a = some (.lst ys)) (t : TL H ys (ln.map Qr.key)) : lnOf H a = ln := by
  obtain ⟨as, rfl, e2, _⟩ := tl_as t
  unfold lnOf
  rw [e, e2]
  dsimp only
  rw [List.map_map]
  rfl
theorem ln_as {H : Hp} {ok : Addr → Prop} : ∀ {xs : List V} {ls : List (List Qr)}, LN H ok xs ls → ∃ as : List Addr, xs = as.map V.ref ∧ ls = as.map (lnOf H) ∧ ∀ a ∈ as, LineOk H ok (.ref a) (lnOf H a)
  | [], [], _ => ⟨[], rfl, rfl, fun _ h => by cases h⟩
  | _ :: _, [], h => by cases h
  | [], _ :: _, h => by cases h
  | x :: xs, ln :: ls, .cons ⟨a, ys, e, n, h1, h2⟩ t => by
    obtain ⟨as, e1, e2, e3⟩ := ln_as (ls := ls) t
    have eq := lnOf_at h1 h2
    refine ⟨a :: as, by rw [e, e1]; rfl, by rw [List.map_cons, eq, ← e2], fun b hb => ?_⟩
    rcases List.mem_cons.mp hb with rfl | hb
    · rw [eq]; exact ⟨b, ys, rfl, n, h1, h2⟩
    · exact e3 b hb
theorem as_ln {H : Hp} {ok : Addr → Prop} : ∀ {as : List Addr}, (∀ a ∈ as, LineOk H ok (.ref a) (lnOf H a)) → LN H ok (as.map V.ref) (as.map (lnOf H))
  | [], _ => .nil
  | a :: as, h => .cons (h a (.head _)) (as_ln fun b hb => h b (.tail _ hb))
theorem inj_nodup {γ δ : Type} {g : γ → δ} : ∀ {l : List γ}, (l.map g).Nodup → ∀ a ∈ l, ∀ b ∈ l, g a = g b → a = b
  | [], _, _, h, _, _, _ => by cases h
  | x :: l, hn, a, ha, b, hb, e => by
    rw [List.map_cons, List.nodup_cons] at hn
    rcases List.mem_cons.mp ha with e1 | ha'
    · rcases List.mem_cons.mp hb with e2 | hb'
      · rw [e1, e2]
      · exact absurd (by rw [← e1, e]; exact List.mem_map_of_mem hb') hn.1
    · rcases List.mem_cons.mp hb with e2 | hb'
      · exact absurd (by rw [← e2, ← e]; exact List.mem_map_of_mem ha') hn.1
      · exact inj_nodup hn.2 a ha' b hb' e
theorem tup_q {H : Hp} {as : List Addr} (h : ∀ a ∈ as, H a = some (.tup ((qOf H a).key.map kV))) (hs : ∀ q ∈ as.map (qOf H), smallQ q) : ∀ a ∈ as, TupQ H (fun a => rq (qOf H a)) a := fun a ha => by
  obtain ⟨s1, s2, s3⟩ := hs _ (List.mem_map_of_mem ha)
  exact ⟨_, _, _, h a ha, s1, s2, s3, rfl⟩
theorem sorted_q {H : Hp} {as bs : List Addr} (hs : ∀ q ∈ as.map (qOf H), smallQ q) (pm : bs.Perm as) (pw : bs.Pairwise fun x y => rq (qOf H x) ≤ rq (qOf H y)) : bs.map (qOf H) = msort rq (as.map (qOf H)) :=
  msort_unique (fun a ha b hb e => rq_inj (hs a ha) (hs b hb) e) (by rw [List.pairwise_map]; exact pw) (pm.map _)
theorem lst_q {H : Hp} {ok : Addr → Prop} {as : List Addr} (h : ∀ a ∈ as, LineOk H ok (.ref a) (lnOf H a)) (hs : ∀ l ∈ as.map (lnOf H), ∀ q ∈ l, smallQ q) (hn : ∀ l ∈ as.map (lnOf H), l ≠ []) : ∀ a ∈ as, LstQ H (fun a => rhead (lnOf H a)) a := fun a ha => by
  obtain ⟨a', ys, e, _, h1, h2⟩ := h a ha
  cases e
  obtain ⟨as2, rfl, e2, e3⟩ := tl_as h2
  have n := hn _ (List.mem_map_of_mem ha)
  have sm := hs _ (List.mem_map_of_mem ha)
  match as2, e2, e3, h1 with
  | [], e2, _, _ => exact absurd e2 n
  | b :: rest, e2, e3, h1 =>
    obtain ⟨s1, s2, s3⟩ := sm (qOf H b) (by rw [e2]; exact .head _)
    refine ⟨b, rest.map V.ref, _, _, _, h1, e3 b (.head _), s1, s2, s3, ?_⟩
    show rhead (lnOf H a) = _
    rw [e2]
    rfl
theorem fit_sorted {ls : List (List Qr)} (F : Fit ls) : (∀ l ∈ ls.map (msort rq), ∀ q ∈ l, smallQ q) ∧ (∀ l ∈ ls.map (msort rq), l ≠ []) ∧ (ls.map (msort rq)).Nodup := by
  refine ⟨fun l hl q hq => ?_, fun l hl e => ?_, fam_nodup F.nd F.ne⟩
  · obtain ⟨m, hm, rfl⟩ := List.mem_map.mp hl
    exact F.small m hm q (msort_mem.mp hq)
  · obtain ⟨m, hm, rfl⟩ := List.mem_map.mp hl
    exact F.ne m hm (List.eq_nil_of_length_eq_zero (by rw [← msort_len rq m, e]; rfl))
theorem lines_few2 {w h : Nat} {kvs : List (List Key × V)} (s : okSize w h) (t : Tab w h kvs) : (linesM w h kvs).length ≤ 144 ∧ ∀ l ∈ linesM w h kvs, l.length ≤ 144 := by
  have F := lines_fit s t
  have le : (linesM w h kvs).flatten.length ≤ 144 := by
    have := nodup_le _ (quartersM w h) F.nd fun x hx => (mem_quarters s.1).mpr (flat_on s t hx)
    have := len_ok s
    omega
  have sum : ∀ {X : List (List Qr)}, (∀ l ∈ X, l ≠ []) → X.length ≤ X.flatten.length ∧ ∀ l ∈ X, l.length ≤ X.flatten.length := by
    intro X
    induction X with
    | nil => intro _; exact ⟨Nat.le_refl _, fun _ h => by cases h⟩
    | cons x X ih =>
      intro hn
      obtain ⟨i1, i2⟩ := ih fun l hl => hn l (.tail _ hl)
      have hx : 0 < x.length := List.length_pos_iff.mpr (hn x (.head _))
      rw [List.flatten_cons, List.length_append, List.length_cons]
      refine ⟨by omega, fun l hl => ?_⟩
      rcases List.mem_cons.mp hl with rfl | hl
      · omega
      · have := i2 l hl; omega
  obtain ⟨s1, s2⟩ := sum F.ne
  exact ⟨Nat.le_trans s1 le, fun l hl => Nat.le_trans (s2 l hl) le⟩
end Sl
namespace Sl
open PySem L2
def top (i : Nat) : Stmt := PySem.Challenge.pw_sandline_k15_whole_lines_turned.main.body.getD i (.Pass ⟨0, 0, 0, 0⟩)
abbrev s_is_size : Stmt := top 10
abbrev s_doors_of : Stmt := top 11
abbrev s_init : Stmt := inClass (top 12) 0
abbrev s_demand : Stmt := inClass (top 12) 4
abbrev s_sign : Stmt := inClass (top 12) 2
abbrev s_changed : Stmt := inClass (top 12) 3
abbrev s_doors : Stmt := inClass (top 12) 1
abbrev s_with_signs : Stmt := top 13
abbrev s_turned_door : Stmt := top 18
abbrev s_turned : Stmt := top 16
abbrev s_flipped_door : Stmt := top 19
abbrev s_flipped : Stmt := top 17
abbrev s_wall : Stmt := top 26
abbrev s_is_east : Stmt := top 29
abbrev s_is_south : Stmt := top 30
abbrev s_neighbour : Stmt := top 28
abbrev s_sign_beside : Stmt := top 27
abbrev s_led : Stmt := top 22
abbrev s_quarters : Stmt := top 25
abbrev s_line_from : Stmt := top 24
abbrev s_lines : Stmt := top 23
abbrev s_law_cell_at : Stmt := top 32
abbrev s_law_mix : Stmt := top 33
abbrev s_law_size : Stmt := top 34
abbrev s_law_doors : Stmt := top 35
abbrev s_law_signs : Stmt := top 36
abbrev s_law_built : Stmt := top 37
abbrev s_law_sorted : Stmt := top 38
abbrev s_law : Stmt := top 39
structure Txt (K : PySem.W.Frag) (mg : Str → Option Value) (C : Addr) : Prop where
  cl : Cls K C
  nW : NoAttr K C "wide"
  nH : NoAttr K C "high"
  nS : NoAttr K C "signs"
  along : ∃ t, mg "MOST_ALONG" = some (.int 12 t)
  dots : ∃ t, mg "MOST_DOTS" = some (.int 36 t)
  nomirror : ∃ t, mg "NO_MIRROR" = some (.str "." t)
  range : mg "range" = none
  len : mg "len" = none
  min : mg "min" = none
  isi : mg "isinstance" = none
  int : mg "int" = none
  bool : mg "bool" = none
  tuple : mg "tuple" = none
  list : mg "list" = none
  str : mg "str" = none
  dict : mg "dict" = none
  sorted : mg "sorted" = none
  enum : mg "enumerate" = none
structure SgnT (K : PySem.W.Frag) (mg : Str → Option Value) : Prop where
  signs : ∃ a, mg "SIGNS" = some (.ref a) ∧ ∀ H, SqT K H a [.str ".", .str "|", .str "-"]
structure Turns (P : Program) (w : World) (K : PySem.W.Frag) (mg : Str → Option Value) : Prop where
  ex : ∃ aT t1 t2 t3, mg "TURNS" = some (.ref aT) ∧ ModD P w K aT [(.inr ".", .ref t1), (.inr "|", .ref t2), (.inr "-", .ref t3)] ∧ (∀ H, SqT K H t1 [.int 2, .int 3, .int 0, .int 1]) ∧
    (∀ H, SqT K H t2 [.int 3, .int 2, .int 1, .int 0]) ∧ ∀ H, SqT K H t3 [.int 1, .int 0, .int 3, .int 2]
theorem seqT_mk {K : PySem.W.Frag} {a : Addr} {d : Option Addr} {its : Array Value} {n : Nat} {sl : Array (Option Value)} {xs : List V} (l : K.lookup a = some ⟨.type "tuple", d, .seq its n, sl⟩) (v : its.size ≤ sizeLine ∧ Vals xs its.toList) (H : Hp) : SqT K H a xs :=
  .inr ⟨_, its, n, l, rfl, rfl, v.1, v.2⟩
theorem turns_mk {P : Program} {w : World} {K : PySem.W.Frag} {mg : Str → Option Value} {aT t1 t2 t3 : Addr} {dT d1 d2 d3 : Option Addr} {esT : Array DictEntry} {epT m1 m2 m3 : Nat} {it1 it2 it3 : Array Value} {slT sl1x sl2x sl3x : Array (Option Value)}
    (g : mg "TURNS" = some (.ref aT)) (l : K.lookup aT = some ⟨.type "dict", dT, .dict esT epT, slT⟩) (z1 : dT = none) (z2 : slT = #[])
    (v : ∃ h1 h2 h3 u1 u2 u3, esT = #[⟨h1, .str "." u1, .ref t1⟩, ⟨h2, .str "|" u2, .ref t2⟩, ⟨h3, .str "-" u3, .ref t3⟩] ∧ h1 = hashStr w "." ∧ h2 = hashStr w "|" ∧ h3 = hashStr w "-")
    (l1 : K.lookup t1 = some ⟨.type "tuple", d1, .seq it1 m1, sl1x⟩) (l2 : K.lookup t2 = some ⟨.type "tuple", d2, .seq it2 m2, sl2x⟩) (l3 : K.lookup t3 = some ⟨.type "tuple", d3, .seq it3 m3, sl3x⟩)
    (v1 : it1.size ≤ sizeLine ∧ Vals [.int 2, .int 3, .int 0, .int 1] it1.toList) (v2 : it2.size ≤ sizeLine ∧ Vals [.int 3, .int 2, .int 1, .int 0] it2.toList) (v3 : it3.size ≤ sizeLine ∧ Vals [.int 1, .int 0, .int 3, .int 2] it3.toList) : Turns P w K mg := by
  obtain ⟨h1, h2, h3, u1, u2, u3, e, e1, e2, e3⟩ := v
  subst e z1 z2
  refine ⟨aT, t1, t2, t3, g, ⟨_, _, epT, [(.inr ".", .ref t1), (.inr "|", .ref t2), (.inr "-", .ref t3)], l, ⟨rfl, rfl, rfl⟩, rfl, ?_, ?_, ?_, ?_⟩, seqT_mk l1 v1, seqT_mk l2 v2, seqT_mk l3 v3⟩
  · intro x hx
    simp at hx
    rcases hx with rfl | rfl | rfl
    · exact ⟨.inr ".", keyIs_str _ u1, e1⟩
    · exact ⟨.inr "|", keyIs_str _ u2, e2⟩
    · exact ⟨.inr "-", keyIs_str _ u3, e3⟩
  · exact .cons (keyIs_str _ u1) rfl (.cons (keyIs_str _ u2) rfl (.cons (keyIs_str _ u3) rfl .nil))
  · show ([Sum.inr ".", Sum.inr "|", Sum.inr "-"] : List Key).Nodup
    decide +kernel
  · exact .cons ⟨rfl, rfl⟩ (.cons ⟨rfl, rfl⟩ (.cons ⟨rfl, rfl⟩ .nil))
structure TokN (K : PySem.W.Frag) (mg : Str → Option Value) : Prop where
  ex : ∃ t, mg "NO_MIRROR" = some (.str "." t) ∧ t ≠ 0 ∧ t < lowT K
section
variable {P : Program} {w : World} {K : PySem.W.Frag} {mg : Str → Option Value} {base : Heap} {C : Addr}
def sizeB (w h : Int) : Bool := decide (1 ≤ w ∧ w ≤ 12 ∧ 1 ≤ h ∧ h ≤ 12 ∧ w * h ≤ 36)
theorem sizeB_ok {w h : Nat} (s : okSize w h) : sizeB w h = true := by
  obtain ⟨a, b, c, d, e⟩ := s
  exact decide_eq_true ⟨by omega, by omega, by omega, by omega, by have : ((w * h : Nat) : Int) ≤ 36 := by omega
                                                                   rw [Int.natCast_mul] at this; exact this⟩
def spSize : Sp := fun vs H Q _ => ∃ (w h : Int), vs = [.int w, .int h] ∧ Q (.bl (sizeB w h)) H
theorem sc_is_size : FnScope ["wide", "high", "along"] ["wide", "high"] (defScope s_is_size) := ⟨rfl, rfl, rfl, by decide +kernel, rfl, by decide +kernel, by decide +kernel⟩
theorem ok_is_size {f : Addr} {fd : FuncData} (F : Fun K "is_size" "is_size" s_is_size f fd) (T : Txt K mg C) : FnOk P w K mg base CX0 1 f fd ["wide", "high"] spSize := by
  obtain ⟨t1, hA⟩ := T.along
  obtain ⟨t2, hD⟩ := T.dots
  refine F.okq sc_is_size (fun vs H Q E h => ?_) (fun cdv A outer s H vs Q E hr h => ?_)
  · obtain ⟨a, b, rfl, _⟩ := h
    rfl
  · obtain ⟨a, b, rfl, k⟩ := h
    refine ⟨_, qss_cons (ps_set (i := 2) sc_is_size.nd rfl (Or.inl rfl) (pe_and (pe_chain op_le op_le pe_int (pv 0) (pe_glob (v := .int 12) rfl hA ⟨_, rfl⟩)) (pe_one (pe_chain op_le op_le pe_int (pv 1) (pe_glob (v := .int 12) rfl hA ⟨_, rfl⟩)))))
      (qss_one (ps_ret (pe_and (pv 2) (pe_one (pe_cmpR op_le (pe_op op_mul (pv 0) (pv 1)) (pe_glob (v := .int 36) rfl hD ⟨_, rfl⟩) (nomark _)))))), ?_⟩
    have no : ∀ {c : Bool}, c = false → ¬ (1 ≤ a ∧ a ≤ 12 ∧ 1 ≤ b ∧ b ≤ 12 ∧ a * b ≤ 36) → Q (.bl c) H := fun e n => by
      rw [show sizeB a b = false from decide_eq_false n] at k
      rw [e]; exact k
    refine ⟨_, rfl, _, _, rfl, rfl, _, rfl, ?_⟩
    refine ite2 (fun h1 => ?_) (fun h1 => ?_)
    · have h1 := of_decide_eq_true h1
      refine ⟨_, _, rfl, rfl, _, rfl, ?_⟩
      refine ite2 (fun h2 => ?_) (fun h2 => ?_)
      · have h2 := of_decide_eq_true h2
        refine ⟨_, rfl, _, _, rfl, rfl, _, rfl, ?_⟩
        refine ite2 (fun h3 => ?_) (fun h3 => ?_)
        · have h3 := of_decide_eq_true h3
          refine ⟨_, _, rfl, rfl, _, rfl, _, rfl, ?_⟩
          refine ite2 (fun h4 => ?_) (fun h4 => ?_)
          · have h4 := of_decide_eq_true h4
            refine ⟨_, rfl, _, rfl, _, _, rfl, rfl, .inl ⟨by omega, by omega⟩, _, _, rfl, rfl, ?_⟩
            have e : sizeB a b = decide (a * b ≤ 36) := by
              unfold sizeB
              by_cases h5 : a * b ≤ 36
              · rw [decide_eq_true h5]; exact decide_eq_true ⟨h1, h2, h3, h4, h5⟩
              · rw [decide_eq_false h5]; exact decide_eq_false fun z => h5 z.2.2.2.2
            rw [e] at k
            exact k
          · exact no rfl fun z => h4 (decide_eq_true z.2.2.2.1)
        · exact ⟨_, rfl, _, rfl, iteF (no rfl fun z => h3 (decide_eq_true z.2.2.1))⟩
      · exact ⟨_, rfl, _, rfl, iteF (no rfl fun z => h2 (decide_eq_true z.2.1))⟩
    · exact ⟨_, rfl, iteF ⟨_, rfl, _, rfl, iteF (no rfl fun z => h1 (decide_eq_true z.1))⟩⟩
def spDoors : Sp := fun vs H Q _ => ∃ (w h : Nat), vs = [.int w, .int h] ∧ okSize w h ∧ ∀ (l : Addr) (xs : List V) (H' : Hp), H l = none → H' l = some (.lst xs) → TL H' xs (doors w h) → Same H H' → Q (.ref l) H'
theorem sc_doors_of : FnScope ["wide", "high", "found", "row", "column"] ["wide", "high"] (defScope s_doors_of) := ⟨rfl, rfl, rfl, by decide +kernel, rfl, by decide +kernel, by decide +kernel⟩
theorem ok_doors_of {f : Addr} {fd : FuncData} (F : Fun K "doors_of" "doors_of" s_doors_of f fd) (T : Txt K mg C) : FnOk P w K mg base CX0 1 f fd ["wide", "high"] spDoors := by
  refine F.okq sc_doors_of (fun vs H Q E h => ?_) (fun cdv A outer s H vs Q E hr h => ?_)
  · obtain ⟨a, b, rfl, _⟩ := h
    rfl
  · obtain ⟨wd, hg, rfl, sz, k⟩ := h
    refine ⟨_, qss_cons (ps_set (i := 2) sc_doors_of.nd rfl (Or.inl rfl) (pe_lst pa_nil))
      (qss_cons (ps_forq PassesOwn.never rfl (pi_range1 rfl T.range (pa (pv 1) pa_nil)) (pg_name (i := 3) sc_doors_of.nd rfl (Or.inl rfl))
        (qss_one (ps_forq PassesOwn.never rfl (pi_range1 rfl T.range (pa (pv 0) pa_nil)) (pg_name (i := 4) sc_doors_of.nd rfl (Or.inl rfl))
          (qss_cons (ps_ifq (pt_cmpR op_lt (pe_op op_add (pv 4) pe_int) (pv 0) (nomark _))
            (qss_one (ps_expr (pe_bm PySem.F.plainAttrs_list PySem.F.slot_list_append PySem.F.type_list_append mt_append (pv 2) (pa (pe_tup (pa pe_str (pa (pv 4) (pa (pv 3) pa_nil)))) pa_nil)))) qss_nil)
          (qss_one (ps_ifq (pt_cmpR op_lt (pe_op op_add (pv 3) pe_int) (pv 1) (nomark _))
            (qss_one (ps_expr (pe_bm PySem.F.plainAttrs_list PySem.F.slot_list_append PySem.F.type_list_append mt_append (pv 2) (pa (pe_tup (pa pe_str (pa (pv 4) (pa (pv 3) pa_nil)))) pa_nil)))) qss_nil))))))
      (qss_one (ps_ret (pv 2)))), ?_⟩
    have sz' := sz
    obtain ⟨w1, w2, h1, h2, wh⟩ := sz'
    refine ⟨Nat.zero_le _, fun l hl => ?_⟩
    refine ⟨_, rfl, (hg : Int), rfl, by omega, by omega, for_range (n := hg) (fun i σ H2 => ∃ (xs : List V) (v3 v4 : Option V), σ = [some (.int wd), some (.int hg), some (.ref l), v3, v4] ∧ i ≤ hg ∧ H2 l = some (.lst xs) ∧ TL H2 xs (doorsTo wd hg i) ∧ Same H H2)
      ⟨[], none, none, rfl, Nat.zero_le _, upd_same, .nil, Same.new (Same.refl H) hl⟩ ?_ ?_⟩
    · rintro i σ H2 hi ⟨xs, v3, v4, rfl, _, hL, tl, sm⟩
      refine ⟨_, rfl, (wd : Int), rfl, by omega, by omega, for_range (n := wd) (fun j σ H3 => ∃ (xs : List V) (v4 : Option V), σ = [some (.int wd), some (.int hg), some (.ref l), some (.int i), v4] ∧ j ≤ wd ∧ H3 l = some (.lst xs) ∧ TL H3 xs (doorsTo wd hg i ++ doorsRow wd hg i j) ∧ Same H H3)
        ⟨xs, v4, by rw [Int.zero_add]; rfl, Nat.zero_le _, hL, by simpa [doorsRow] using tl, sm⟩ ?_ ?_⟩
      · rintro j σ H3 hj ⟨xs, v4, rfl, _, hL, tl, sm⟩
        have hlen : xs.length + 2 < sizeLine := by
          have e1 := tl.length
          have e2 := doorsTo_len wd hg i
          have e3 := doorsRow_len wd hg i j
          have e4 : i * wd ≤ hg * wd := Nat.mul_le_mul_right _ (Nat.le_of_lt hi)
          have e5 : hg * wd = wd * hg := Nat.mul_comm _ _
          have e6 : (1000 : Nat) < sizeLine := small1000 (Nat.le_refl _)
          rw [List.length_append] at e1
          omega
        rw [Int.zero_add]
        have put : ∀ {H4 : Hp} {ys : List V} {ks : List (List Key)} {t : Addr} {kd : List Key}, H4 l = some (.lst ys) → TL H4 ys ks → Same H H4 → H4 t = none →
            (upd (upd H4 t (.tup (kd.map kV))) l (.lst (ys ++ [V.ref t]))) l = some (.lst (ys ++ [V.ref t])) ∧ TL (upd (upd H4 t (.tup (kd.map kV))) l (.lst (ys ++ [V.ref t]))) (ys ++ [V.ref t]) (ks ++ [kd]) ∧ Same H (upd (upd H4 t (.tup (kd.map kV))) l (.lst (ys ++ [V.ref t]))) := by
          intro H4 ys ks t kd h1 h2 h3 h4
          have hlt : l ≠ t := ne_of_none h1 h4
          have hl' : (upd H4 t (.tup (kd.map kV))) l = some (.lst ys) := by rw [upd_ne hlt]; exact h1
          refine ⟨upd_same, ?_, Same.own (Same.new h3 h4) hl⟩
          exact (h2.keep (Tk.lst (Tk.new (Tk.refl _) h4) hl')).snoc ⟨t, rfl, by rw [upd_ne hlt.symm]; exact upd_same⟩
        refine ⟨_, rfl, _, _, rfl, rfl, _, rfl, _, _, rfl, rfl, _, rfl, ?_⟩
        refine ite2 (fun c1 => ?_) (fun c1 => ?_)
        · have c1 := of_decide_eq_true c1
          refine ⟨_, rfl, .inl ⟨rfl, _, SqL.of hL⟩, _, rfl, _, rfl, (by show 3 ≤ sizeLine; decide), fun t ht => ?_⟩
          refine ⟨l, xs, _, rfl, rfl, (by rw [upd_ne (ne_of_none hL ht)]; exact hL), by omega, ?_⟩
          obtain ⟨p1, p2, p3⟩ := put (kd := rowD j i) hL tl sm ht
          refine ⟨_, rfl, _, _, rfl, rfl, _, rfl, _, _, rfl, rfl, _, rfl, ?_⟩
          refine ite2 (fun c2 => ?_) (fun c2 => ?_)
          · have c2 := of_decide_eq_true c2
            refine ⟨_, rfl, .inl ⟨rfl, _, SqL.of p1⟩, _, rfl, _, rfl, (by show 3 ≤ sizeLine; decide), fun t2 ht2 => ?_⟩
            refine ⟨l, _, _, rfl, rfl, (by rw [upd_ne (ne_of_none p1 ht2)]; exact p1), by rw [List.length_append, List.length_singleton]; omega, ?_⟩
            obtain ⟨q1, q2, q3⟩ := put (kd := colD j i) p1 p2 p3 ht2
            refine ⟨_, _, rfl, hj, q1, ?_, q3⟩
            rw [doorsRow_succ, show doorsAt wd hg i j = [rowD j i, colD j i] by unfold doorsAt; rw [if_pos (by omega), if_pos (by omega)]; rfl,
              show ∀ A B : List (List Key), A ++ (B ++ [rowD j i, colD j i]) = (A ++ B ++ [rowD j i]) ++ [colD j i] from fun A B => by simp]
            exact q2
          · have c2 := fun z => c2 (decide_eq_true z)
            refine ⟨_, _, rfl, hj, p1, ?_, p3⟩
            rw [doorsRow_succ, show doorsAt wd hg i j = [rowD j i] by unfold doorsAt; rw [if_pos (by omega), if_neg (fun z => c2 (by omega))]; rfl]
            rw [← List.append_assoc]
            exact p2
        · have c1 := fun z => c1 (decide_eq_true z)
          refine ⟨_, rfl, _, _, rfl, rfl, _, rfl, _, _, rfl, rfl, _, rfl, ?_⟩
          refine ite2 (fun c2 => ?_) (fun c2 => ?_)
          · have c2 := of_decide_eq_true c2
            refine ⟨_, rfl, .inl ⟨rfl, _, SqL.of hL⟩, _, rfl, _, rfl, (by show 3 ≤ sizeLine; decide), fun t2 ht2 => ?_⟩
            refine ⟨l, _, _, rfl, rfl, (by rw [upd_ne (ne_of_none hL ht2)]; exact hL), by omega, ?_⟩
            obtain ⟨q1, q2, q3⟩ := put (kd := colD j i) hL tl sm ht2
            refine ⟨_, _, rfl, hj, q1, ?_, q3⟩
            rw [doorsRow_succ, show doorsAt wd hg i j = [colD j i] by unfold doorsAt; rw [if_neg (fun z => c1 (by omega)), if_pos (by omega)]; rfl]
            rw [← List.append_assoc]
            exact q2
          · have c2 := fun z => c2 (decide_eq_true z)
            refine ⟨_, _, rfl, hj, hL, ?_, sm⟩
            rw [doorsRow_succ, show doorsAt wd hg i j = [] by unfold doorsAt; rw [if_neg (fun z => c1 (by omega)), if_neg (fun z => c2 (by omega))]; rfl]
            rw [List.append_nil]
            exact tl
      · rintro σ H3 ⟨xs, v4, rfl, _, hL, tl, sm⟩
        exact ⟨xs, _, _, rfl, hi, hL, by rw [doorsTo_succ]; exact tl, sm⟩
    · rintro σ H2 ⟨xs, v3, v4, rfl, _, hL, tl, sm⟩
      exact ⟨_, rfl, k l xs H2 hl hL tl sm⟩
def spInit (C : Addr) : Sp := fun vs H Q _ => ∃ (p dx : Addr) (w h : Nat), vs = [.ref p, .int w, .int h] ∧ okSize w h ∧ H p = some (.ins C dx []) ∧
  ∀ (d : Addr) (H' : Hp), H d = none → H' p = some (.ins C dx (flds w h d)) → H' d = some (.dT (bare w h)) → (∀ b o, H b = some o → b ≠ p → H' b = some o) → Q .non H'
theorem bare_take (w h i : Nat) (k : List Key) (e : (doors w h)[i]? = some k) : putK (((doors w h).take i).map fun k => (k, V.str ".")) k (V.str ".") = ((doors w h).take (i + 1)).map fun k => (k, V.str ".") := by
  have hn : ¬ k ∈ (((doors w h).take i).map fun k => (k, V.str ".")).map (·.1) := by
    rw [List.map_map, show ((fun x : List Key × V => x.1) ∘ fun k => (k, V.str ".")) = id from rfl, List.map_id]
    intro m
    obtain ⟨hi, ek⟩ := List.getElem?_eq_some_iff.mp e
    obtain ⟨j, hj, ej⟩ := List.mem_iff_getElem.mp m
    have hj' : j < i := by rw [List.length_take] at hj; omega
    rw [List.getElem_take] at ej
    have := (List.getElem_inj (nd_doors w h)).mp (ej.trans ek.symm)
    omega
  rw [putK_new _ (valV_none hn), List.take_add_one, e, Option.toList_some, List.map_append]
  rfl
theorem sc_init : FnScope ["self", "wide", "high", "door"] ["self", "wide", "high"] (defScope s_init) := ⟨rfl, rfl, rfl, by decide +kernel, rfl, by decide +kernel, by decide +kernel⟩
theorem ok_init {f : Addr} {fd : FuncData} (F : Fun K "__init__" "Board.__init__" s_init f fd) (T : Txt K mg C) (D1 : DefAt P w K mg base 1 "is_size" ["wide", "high"] spSize) (D2 : DefAt P w K mg base 1 "doors_of" ["wide", "high"] spDoors) :
    FnOk P w K mg base CX0 2 f fd ["self", "wide", "high"] (spInit C) := by
  obtain ⟨tk, hN⟩ := T.nomirror
  refine F.okq sc_init (fun vs H Q E h => ?_) (fun cdv A outer s H vs Q E hr h => ?_)
  · obtain ⟨p, dx, a, b, rfl, _⟩ := h
    rfl
  · obtain ⟨p, dx, wd, hg, rfl, sz, hp, k⟩ := h
    have hu := hu_of hr
    refine ⟨_, qss_cons (ps_ifq (pt_not (pt_val (pe_def D1 hr (pa (pv 1) (pa (pv 2) pa_nil))))) qss_never qss_nil)
      (qss_cons (ps_fld (pv 0) (pv 1) rfl) (qss_cons (ps_fld (pv 0) (pv 2) rfl) (qss_cons (ps_fld (pv 0) pe_dnewT rfl)
      (qss_one (ps_forq PassesOwn.never rfl (pi_list (pe_def D2 hr (pa (pv 1) (pa (pv 2) pa_nil)))) (pg_name (i := 3) sc_init.nd rfl (Or.inl rfl))
        (qss_one (ps_dput hu (pe_fld (pv 0) rfl) (pv 3) (pe_glob (v := .str ".") rfl hN ⟨_, rfl⟩) rfl))))))), ?_⟩
    refine ⟨_, rfl, _, rfl, (wd : Int), (hg : Int), rfl, _, rfl, ?_⟩
    rw [sizeB_ok sz]
    refine iteF ?_
    refine ⟨_, rfl, _, rfl, p, C, dx, [], rfl, hp, T.cl, T.nW, (by show 0 < 1000; decide), ?_⟩
    refine ⟨_, rfl, _, rfl, p, C, dx, _, rfl, upd_same, T.cl, T.nH, (by show 1 < 1000; decide), ?_⟩
    intro d hd
    rw [upd_upd] at hd
    have npd : p ≠ d := fun e => by rw [← e, upd_same] at hd; cases hd
    have hd0 : H d = none := by rw [upd_ne npd.symm] at hd; exact hd
    refine ⟨_, rfl, p, C, dx, _, rfl, (by rw [upd_ne npd]; exact upd_same), T.cl, T.nS, ?_, ?_⟩
    · have := length_putF "high" (V.int (hg : Int)) (putF "wide" (V.int (wd : Int)) [])
      have := length_putF "wide" (V.int (wd : Int)) []
      simp at *
      omega
    generalize hH0 : upd (upd (upd (upd H p _) p _) d _) p _ = H0
    have b1 : H0 p = some (.ins C dx (flds wd hg d)) := by rw [← hH0]; exact upd_same
    have b2 : H0 d = some (.dT []) := by rw [← hH0, upd_ne npd.symm]; exact upd_same
    have b3 : ∀ b o, H b = some o → b ≠ p → H0 b = some o := fun b o e n => by
      rw [← hH0, upd_ne n, upd_ne (ne_of_none e hd0), upd_ne n, upd_ne n]
      exact e
    refine ⟨_, rfl, _, rfl, wd, hg, rfl, sz, fun l xs H1 hl hL tl sm => ?_⟩
    refine ⟨l, rfl, ⟨_, SqL.of hL⟩, for_list (K := K) (a := l) (xs := xs) (fun i σ H2 => ∃ v3, σ = [some (.ref p), some (.int wd), some (.int hg), v3] ∧ H2 p = some (.ins C dx (flds wd hg d)) ∧ H2 d = some (.dT (((doors wd hg).take i).map fun k => (k, V.str "."))) ∧
      (∀ b o, H1 b = some o → b ≠ d → H2 b = some o))
      ⟨none, rfl, sm _ _ b1, sm _ _ b2, fun _ _ e _ => e⟩ (fun i σ H2 _ ⟨_, _, _, _, z⟩ => SqL.of (z l _ hL (fun e => by rw [e, b2] at hl; cases hl))) ?_ ?_⟩
    · rintro i x σ H2 hi ⟨v3, rfl, c1, c2, c3⟩
      obtain ⟨kd, ek, a, rfl, ha⟩ := tl.at hi
      have ha2 : H2 a = some (.tup (kd.map kV)) := c3 a _ ha (ne_of ha (sm _ _ b2) (fun z => nomatch z))
      refine ⟨_, rfl, p, C, dx, _, _, rfl, c1, T.cl, T.nS, flds_signs _ _ _, _, rfl, d, _, rfl, DPut.t c2 ha2 ?_, ?_⟩
      · rw [List.length_map, List.length_take]
        have := doors_len sz
        exact small1000 (by omega)
      · refine ⟨_, rfl, by rw [upd_ne npd]; exact c1, by rw [upd_same, bare_take _ _ _ _ ek], fun b o e n => by rw [upd_ne n]; exact c3 b o e n⟩
    · rintro σ H2 ⟨v3, rfl, c1, c2, c3⟩
      refine k d H2 hd0 c1 ?_ fun b o e n => c3 b o (sm _ _ (b3 b o e n)) (ne_of_none e hd0)
      rw [c2, tl.length, List.take_length]
      rfl
def spDemand (C : Addr) : Sp := fun vs H Q _ => ∃ (p a : Addr) (w h : Nat) (kvs : List (List Key × V)) (k : List Key), vs = [.ref p, .ref a] ∧ BoardAt C H p w h kvs ∧ H a = some (.tup (k.map kV)) ∧ k ∈ doors w h ∧ Q .non H
theorem sc_demand : FnScope ["self", "door"] ["self", "door"] (defScope s_demand) := ⟨rfl, rfl, rfl, by decide +kernel, rfl, by decide +kernel, by decide +kernel⟩
theorem ok_demand {f : Addr} {fd : FuncData} (F : Fun K "demand" "Board.demand" s_demand f fd) (T : Txt K mg C) : FnOk P w K mg base CX0 1 f fd ["self", "door"] (spDemand C) := by
  refine F.okq sc_demand (fun vs H Q E h => ?_) (fun cdv A outer s H vs Q E hr h => ?_)
  · obtain ⟨p, a, wd, hg, kvs, kd, rfl, _⟩ := h
    rfl
  · obtain ⟨p, a, wd, hg, kvs, kd, rfl, B, ha, hk, k⟩ := h
    have hu := hu_of hr
    obtain ⟨⟨dx, d, h1, h2⟩, sz, tb⟩ := id B
    refine ⟨_, qss_one (ps_ifq (pt_cmp (pc_dnotin hu (pv 1) (pe_fld (pv 0) rfl))) qss_never qss_nil), ?_⟩
    refine ⟨_, rfl, _, rfl, p, C, dx, _, _, rfl, h1, T.cl, T.nS, flds_signs _ _ _, d, _, rfl, DGet.t h2 ha, _, rfl, ?_⟩
    rw [(tb.sg hk).1]
    exact iteF k
def spSign (C : Addr) : Sp := fun vs H Q _ => ∃ (p a : Addr) (w h : Nat) (kvs : List (List Key × V)) (k : List Key), vs = [.ref p, .ref a] ∧ BoardAt C H p w h kvs ∧ H a = some (.tup (k.map kV)) ∧ k ∈ doors w h ∧ Q (.str (sgAt kvs k)) H
theorem sc_sign : FnScope ["self", "door"] ["self", "door"] (defScope s_sign) := ⟨rfl, rfl, rfl, by decide +kernel, rfl, by decide +kernel, by decide +kernel⟩
theorem board_no {w h : Nat} {d : Addr} {m : Str} (hm : m ∈ ["demand", "sign", "changed", "doors"].map Str.ofString) : (flds w h d).lookup m = none := by
  simp only [List.map_cons, List.map_nil, List.mem_cons, List.not_mem_nil, or_false] at hm
  rcases hm with rfl | rfl | rfl | rfl <;> exact flds_no _ _ _ (by decide +kernel) (by decide +kernel) (by decide +kernel)
theorem ok_sign {f : Addr} {fd : FuncData} (F : Fun K "sign" "Board.sign" s_sign f fd) (T : Txt K mg C) (M1 : MethAt P w K mg base 1 C "demand" ["self", "door"] (spDemand C)) : FnOk P w K mg base CX0 2 f fd ["self", "door"] (spSign C) := by
  refine F.okq sc_sign (fun vs H Q E h => ?_) (fun cdv A outer s H vs Q E hr h => ?_)
  · obtain ⟨p, a, wd, hg, kvs, kd, rfl, _⟩ := h
    rfl
  · obtain ⟨p, a, wd, hg, kvs, kd, rfl, B, ha, hk, k⟩ := h
    have hu := hu_of hr
    obtain ⟨⟨dx, d, h1, h2⟩, sz, tb⟩ := id B
    refine ⟨_, qss_cons (ps_expr (pe_mth (pv 0) T.cl M1 hr (pa (pv 1) pa_nil))) (qss_one (ps_ret (pe_dget hu (pe_fld (pv 0) rfl) (pv 1) (fun _ _ => rfl)))), ?_⟩
    refine ⟨_, rfl, p, dx, _, rfl, h1, board_no (by simp), _, rfl, p, a, wd, hg, kvs, kd, rfl, B, ha, hk, ?_⟩
    refine ⟨_, rfl, p, C, dx, _, _, rfl, h1, T.cl, T.nS, flds_signs _ _ _, _, rfl, d, _, rfl, ?_, k⟩
    have := DGet.t (k := kd) h2 ha
    rw [(tb.sg hk).1] at this
    exact this
def spChanged (C : Addr) : Sp := fun vs H Q _ => ∃ (p a : Addr) (x : Str) (w h : Nat) (kvs : List (List Key × V)) (k : List Key), vs = [.ref p, .ref a, .str x] ∧ BoardAt C H p w h kvs ∧ H a = some (.tup (k.map kV)) ∧ k ∈ doors w h ∧ x ∈ signs3 ∧
  ∀ (p' : Addr) (H' : Hp), H p' = none → Same H H' → BoardAt C H' p' w h (putK kvs k (.str x)) → Q (.ref p') H'
theorem sc_changed : FnScope ["self", "door", "sign", "other"] ["self", "door", "sign"] (defScope s_changed) := ⟨rfl, rfl, rfl, by decide +kernel, rfl, by decide +kernel, by decide +kernel⟩
theorem in_signs {x : Str} (hx : x ∈ signs3) : inV (.str x) [.str ".", .str "|", .str "-"] = true := by
  unfold signs3 at hx
  simp only [List.mem_cons, List.not_mem_nil, or_false] at hx
  rcases hx with rfl | rfl | rfl <;> decide +kernel
theorem ok_changed {f : Addr} {fd : FuncData} (F : Fun K "changed" "Board.changed" s_changed f fd) (T : Txt K mg C) (TS : SgnT K mg) (M1 : MethAt P w K mg base 1 C "demand" ["self", "door"] (spDemand C)) (MB : ClassAt P w K mg base 2 C "Board" ["self", "wide", "high"] (spInit C)) :
    FnOk P w K mg base CX0 4 f fd ["self", "door", "sign"] (spChanged C) := by
  obtain ⟨aS, hS, lS⟩ := TS.signs
  refine F.okq sc_changed (fun vs H Q E h => ?_) (fun cdv A outer s H vs Q E hr h => ?_)
  · obtain ⟨p, a, x, wd, hg, kvs, kd, rfl, _⟩ := h
    rfl
  · obtain ⟨p, a, x, wd, hg, kvs, kd, rfl, B, ha, hk, hx, k⟩ := h
    have hu := hu_of hr
    obtain ⟨⟨dx, d, h1, h2⟩, sz, tb⟩ := id B
    refine ⟨_, qss_cons (ps_expr (pe_mth (pv 0) T.cl M1 hr (pa (pv 1) pa_nil)))
      (qss_cons (ps_ifq (pt_cmpR op_notIn_seq (pv 2) (pe_glob (v := .ref aS) rfl hS rfl) (by with_unfolding_all rfl)) qss_never qss_nil)
      (qss_cons (ps_set (i := 3) sc_changed.nd rfl (Or.inl rfl) (pe_mk MB hr (pa (pe_fld (pv 0) rfl) (pa (pe_fld (pv 0) rfl) pa_nil))))
      (qss_cons (ps_expr (pe_bm PySem.F.plainAttrs_dict PySem.F.slot_dict_update PySem.F.type_dict_update (mt_updT hu) (pe_fld (pv 3) rfl) (pa (pe_fld (pv 0) rfl) pa_nil)))
      (qss_cons (ps_dput hu (pe_fld (pv 3) rfl) (pv 1) (pv 2) rfl)
      (qss_one (ps_ret (pv 3))))))), ?_⟩
    refine ⟨_, rfl, p, dx, _, rfl, h1, board_no (by simp), _, rfl, p, a, wd, hg, kvs, kd, rfl, B, ha, hk, ?_⟩
    refine ⟨_, rfl, aS, _, rfl, .inr (lS H), rfl, rfl, _, rfl, ?_⟩
    rw [in_signs hx]
    refine iteF ?_
    refine ⟨_, rfl, p, C, dx, _, _, rfl, h1, T.cl, T.nW, flds_wide _ _ _, _, rfl, p, C, dx, _, _, rfl, h1, T.cl, T.nH, flds_high _ _ _, fun p' dx' n1 n2 n3 => ?_⟩
    refine ⟨p', dx', wd, hg, rfl, sz, upd_same, fun d' H1 nd' c1 c2 c3 => ⟨rfl, ?_⟩⟩
    have nd0 : H d' = none := by
      by_cases e1 : d' = p'
      · rw [e1, upd_same] at nd'; cases nd'
      · rw [upd_ne e1] at nd'
        by_cases e2 : d' = dx'
        · rw [e2, upd_same] at nd'; cases nd'
        · rw [upd_ne e2] at nd'; exact nd'
    have sm : Same H H1 := fun b o e => c3 b o (by rw [upd_ne (ne_of_none e n1), upd_ne (ne_of_none e n2)]; exact e) (ne_of_none e n1)
    have ndd : d' ≠ d := fun e => by rw [e, h2] at nd0; cases nd0
    have npd : p' ≠ d' := ne_of c1 c2 (fun z => nomatch z)
    have hkeys : (bare wd hg).map (·.1) = kvs.map (·.1) := by rw [bare_keys, tb.keys]
    have l1 : (bare wd hg).length ≤ 72 := (bare_tab wd hg).len sz
    have l2 : kvs.length ≤ 72 := tb.len sz
    have c1' : ∀ o, (upd H1 d' o) p' = some (.ins C dx' (flds wd hg d')) := fun o => by rw [upd_ne npd]; exact c1
    refine ⟨_, rfl, p', C, dx', _, _, rfl, c1, T.cl, T.nS, flds_signs _ _ _, .inr (.inr (.inl ⟨rfl, .inr ⟨_, c2⟩⟩)), _, rfl, p, C, dx, _, _, rfl, sm _ _ h1, T.cl, T.nS, flds_signs _ _ _,
      d', d, _, _, rfl, rfl, ndd, c2, sm _ _ h2, hkeys, Nat.le_of_lt (small1000 (by omega)), ?_⟩
    have ha1 : (upd H1 d' (.dT kvs)) a = some (.tup (kd.map kV)) := by
      rw [upd_ne (ne_of (sm _ _ ha) c2 (fun z => nomatch z))]
      exact sm _ _ ha
    refine ⟨_, rfl, _, rfl, p', C, dx', _, _, rfl, c1' _, T.cl, T.nS, flds_signs _ _ _, _, rfl, d', _, rfl, DPut.t upd_same ha1 (small1000 (by omega)), ?_⟩
    refine ⟨_, rfl, ?_⟩
    rw [upd_upd]
    exact k p' _ n1 (Same.own sm nd0) ⟨⟨dx', d', c1' _, upd_same⟩, sz, tb.put hk hx⟩
def spBDoors (C : Addr) : Sp := fun vs H Q _ => ∃ (p : Addr) (w h : Nat) (kvs : List (List Key × V)), vs = [.ref p] ∧ BoardAt C H p w h kvs ∧ ∀ (l : Addr) (xs : List V) (H' : Hp), H l = none → H' l = some (.lst xs) → TL H' xs (doors w h) → Same H H' → Q (.ref l) H'
theorem sc_doors : FnScope ["self"] ["self"] (defScope s_doors) := ⟨rfl, rfl, rfl, by decide +kernel, rfl, by decide +kernel, by decide +kernel⟩
theorem ok_doors {f : Addr} {fd : FuncData} (F : Fun K "doors" "Board.doors" s_doors f fd) (T : Txt K mg C) : FnOk P w K mg base CX0 1 f fd ["self"] (spBDoors C) := by
  refine F.okq sc_doors (fun vs H Q E h => ?_) (fun cdv A outer s H vs Q E hr h => ?_)
  · obtain ⟨p, wd, hg, kvs, rfl, _⟩ := h
    rfl
  · obtain ⟨p, wd, hg, kvs, rfl, B, k⟩ := h
    obtain ⟨⟨dx, d, h1, h2⟩, sz, tb⟩ := id B
    refine ⟨_, qss_one (ps_ret (pe_ct (call_listT hr.hd) (by rfl) T.list PySem.Pv.boot_list (pa (pe_fld (pv 0) rfl) pa_nil))), ?_⟩
    refine ⟨_, rfl, p, C, dx, _, _, rfl, h1, T.cl, T.nS, flds_signs _ _ _, d, kvs, rfl, Rd.of h2, fun ads ak l hl => ?_⟩
    rw [tb.keys] at ak
    exact k l _ _ hl upd_same ((atKeys_tl ak).keep (Tk.new (Tk.refl _) hl)) (Same.new (Same.refl H) hl)
def spWith (C : Addr) : Sp := fun vs H Q _ => ∃ (l : Addr) (xs : List V) (ps : List (List Key × Str)) (w h : Nat), vs = [.int w, .int h, .ref l] ∧ okSize w h ∧ H l = some (.lst xs) ∧ PL H xs ps ∧ (∀ p ∈ ps, p.1 ∈ doors w h ∧ p.2 ∈ signs3) ∧
  ∀ (p : Addr) (H' : Hp), H p = none → Same H H' → BoardAt C H' p w h (putAll (bare w h) ps) → Q (.ref p) H'
theorem sc_with_signs : FnScope ["wide", "high", "placed", "board", "door", "sign"] ["wide", "high", "placed"] (defScope s_with_signs) := ⟨rfl, rfl, rfl, by decide +kernel, rfl, by decide +kernel, by decide +kernel⟩
theorem ok_with_signs {f : Addr} {fd : FuncData} (F : Fun K "with_signs" "with_signs" s_with_signs f fd) (T : Txt K mg C) (MB : ClassAt P w K mg base 2 C "Board" ["self", "wide", "high"] (spInit C)) (MC : MethAt P w K mg base 4 C "changed" ["self", "door", "sign"] (spChanged C)) :
    FnOk P w K mg base CX0 5 f fd ["wide", "high", "placed"] (spWith C) := by
  refine F.okq sc_with_signs (fun vs H Q E h => ?_) (fun cdv A outer s H vs Q E hr h => ?_)
  · obtain ⟨l, xs, ps, wd, hg, rfl, _⟩ := h
    rfl
  · obtain ⟨l, xs, ps, wd, hg, rfl, sz, hL, pl, hp, k⟩ := h
    refine ⟨_, qss_cons (ps_set (i := 3) sc_with_signs.nd rfl (Or.inl rfl) (pe_mk MB hr (pa (pv 0) (pa (pv 1) pa_nil))))
      (qss_cons (ps_forq PassesOwn.never rfl (pi_list (pv 2)) (pg_tup rfl (pgs_cons (pg_name (i := 4) sc_with_signs.nd rfl (Or.inl rfl)) (pgs_cons (pg_name (i := 5) sc_with_signs.nd rfl (Or.inl rfl)) pgs_nil)))
        (qss_one (ps_set (i := 3) sc_with_signs.nd rfl (Or.inl rfl) (pe_mth (pv 3) T.cl MC hr (pa (pv 4) (pa (pv 5) pa_nil))))))
      (qss_one (ps_ret (pv 3)))), ?_⟩
    refine ⟨_, rfl, _, rfl, fun p dx n1 n2 n3 => ?_⟩
    refine ⟨p, dx, wd, hg, rfl, sz, upd_same, fun d' H1 nd' c1 c2 c3 => ⟨rfl, ?_⟩⟩
    have sm : Same H H1 := fun b o e => c3 b o (by rw [upd_ne (ne_of_none e n1), upd_ne (ne_of_none e n2)]; exact e) (ne_of_none e n1)
    have B0 : BoardAt C H1 p wd hg (bare wd hg) := ⟨⟨dx, d', c1, c2⟩, sz, bare_tab wd hg⟩
    refine ⟨_, rfl, l, rfl, ⟨_, SqL.of (sm _ _ hL)⟩, for_list (K := K) (a := l) (xs := xs) (fun i σ H2 => ∃ (p : Addr) (v4 v5 : Option V), σ = [some (.int wd), some (.int hg), some (.ref l), some (.ref p), v4, v5] ∧ H p = none ∧ BoardAt C H2 p wd hg (putAll (bare wd hg) (ps.take i)) ∧ Same H H2)
      ⟨p, none, none, rfl, n1, B0, sm⟩ (fun i σ H2 _ ⟨_, _, _, _, _, _, z⟩ => SqL.of (z l _ hL)) ?_ ?_⟩
    · rintro i x σ H2 hi ⟨p, v4, v5, rfl, np, B, s2⟩
      obtain ⟨⟨kd, sg⟩, ek, a, ta, rfl, ha, hta⟩ := pl.at hi
      obtain ⟨hm, hsg⟩ := hp _ (List.mem_of_getElem? ek)
      obtain ⟨dx2, d2, o1, o2⟩ := B.ob
      refine ⟨a, _, rfl, SqT.of (s2 _ _ ha), rfl, _, _, rfl, _, _, rfl, rfl, ?_⟩
      refine ⟨_, rfl, p, dx2, _, rfl, o1, board_no (by simp), _, rfl, _, rfl, p, ta, sg, wd, hg, _, kd, rfl, B, s2 _ _ hta, hm, hsg, fun p' H3 np' s3 B3 => ?_⟩
      refine ⟨p', _, _, rfl, s2.free np', ?_, s2.trans s3⟩
      rw [putAll_take ek]
      exact B3
    · rintro σ H2 ⟨p, v4, v5, rfl, np, B, s2⟩
      refine ⟨_, rfl, k p H2 np s2 ?_⟩
      rw [pl.length, List.take_length] at B
      exact B
def spTD (C : Addr) (m : Nat → Nat → List Key → List Key) : Sp := fun vs H Q _ => ∃ (p a : Addr) (w h : Nat) (kvs : List (List Key × V)) (k : List Key), vs = [.ref p, .ref a] ∧ BoardAt C H p w h kvs ∧ H a = some (.tup (k.map kV)) ∧ k ∈ doors w h ∧
  ∀ (t : Addr) (H' : Hp), H t = none → Same H H' → H' t = some (.tup ((m w h k).map kV)) → Q (.ref t) H'
def mT (w h : Nat) : List Key → List Key := tkey h
def mF (w h : Nat) : List Key → List Key := fkey w
theorem sc_turned_door : FnScope ["board", "door"] ["board", "door"] (defScope s_turned_door) := ⟨rfl, rfl, rfl, by decide +kernel, rfl, by decide +kernel, by decide +kernel⟩
theorem ok_turned_door {f : Addr} {fd : FuncData} (F : Fun K "turned_door" "turned_door" s_turned_door f fd) (T : Txt K mg C) : FnOk P w K mg base CX0 1 f fd ["board", "door"] (spTD C mT) := by
  refine F.okq sc_turned_door (fun vs H Q E h => ?_) (fun cdv A outer s H vs Q E hr h => ?_)
  · obtain ⟨p, a, wd, hg, kvs, kd, rfl, _⟩ := h
    rfl
  · obtain ⟨p, a, wd, hg, kvs, kd, rfl, B, ha, hk, k⟩ := h
    obtain ⟨⟨dx, d, h1, h2⟩, sz, tb⟩ := id B
    refine ⟨_, qss_cons (ps_ifq (pt_cmpR op_eq (pe_ix ix_tup (pv 1) pe_int (fun _ _ => rfl)) pe_str (nomark _))
        (qss_one (ps_ret (pe_tup (pa pe_str (pa (pe_op op_sub (pe_op op_sub (pe_fld (pv 0) rfl) pe_int) (pe_ix ix_tup (pv 1) pe_int (fun _ _ => rfl))) (pa (pe_ix ix_tup (pv 1) pe_int (fun _ _ => rfl)) pa_nil)))))) qss_nil)
      (qss_one (ps_ret (pe_tup (pa pe_str (pa (pe_op op_sub (pe_op op_sub (pe_fld (pv 0) rfl) pe_int) (pe_ix ix_tup (pv 1) pe_int (fun _ _ => rfl))) (pa (pe_ix ix_tup (pv 1) pe_int (fun _ _ => rfl)) pa_nil)))))), ?_⟩
    rcases door_cases hk with ⟨c, r, rfl, _⟩ | ⟨c, r, rfl, _⟩
    · refine ⟨_, rfl, a, _, _, _, rfl, rfl, SqT.of ha, rfl, rfl, _, rfl, ?_⟩
      refine iteE rfl ?_
      refine ⟨_, rfl, p, C, dx, _, _, rfl, h1, T.cl, T.nH, flds_high _ _ _, _, _, rfl, rfl, _, rfl, a, _, _, _, rfl, rfl, SqT.of ha, rfl, _, _, rfl, rfl, _, rfl, a, _, _, _, rfl, rfl, SqT.of ha, rfl, (by show 3 ≤ sizeLine; decide), fun t ht => ?_⟩
      refine k t _ ht (Same.new (Same.refl H) ht) ?_
      unfold mT
      rw [upd_same, tkey_row]
      rfl
    · refine ⟨_, rfl, a, _, _, _, rfl, rfl, SqT.of ha, rfl, rfl, _, rfl, ?_⟩
      refine iteN (fun z => row_col_ne (V.str.inj z)) ?_
      refine ⟨_, rfl, p, C, dx, _, _, rfl, h1, T.cl, T.nH, flds_high _ _ _, _, _, rfl, rfl, _, rfl, a, _, _, _, rfl, rfl, SqT.of ha, rfl, _, _, rfl, rfl, _, rfl, a, _, _, _, rfl, rfl, SqT.of ha, rfl, (by show 3 ≤ sizeLine; decide), fun t ht => ?_⟩
      refine k t _ ht (Same.new (Same.refl H) ht) ?_
      unfold mT
      rw [upd_same, tkey_col]
      rfl
structure TSigns (P : Program) (w : World) (K : PySem.W.Frag) (mg : Str → Option Value) : Prop where
  ex : ∃ a, mg "TURNED_SIGNS" = some (.ref a) ∧ ModD P w K a [(.inr ".", .str "."), (.inr "|", .str "-"), (.inr "-", .str "|")]
theorem tsigns_mk {P : Program} {w : World} {K : PySem.W.Frag} {mg : Str → Option Value} {aT : Addr} {dT : Option Addr} {esT : Array DictEntry} {epT : Nat} {slT : Array (Option Value)}
    (g : mg "TURNED_SIGNS" = some (.ref aT)) (l : K.lookup aT = some ⟨.type "dict", dT, .dict esT epT, slT⟩) (z1 : dT = none) (z2 : slT = #[])
    (v : ∃ h1 h2 h3 u1 u2 u3 r1 r2 r3, esT = #[⟨h1, .str "." u1, .str "." r1⟩, ⟨h2, .str "|" u2, .str "-" r2⟩, ⟨h3, .str "-" u3, .str "|" r3⟩] ∧ h1 = hashStr w "." ∧ h2 = hashStr w "|" ∧ h3 = hashStr w "-") : TSigns P w K mg := by
  obtain ⟨h1, h2, h3, u1, u2, u3, r1, r2, r3, e, e1, e2, e3⟩ := v
  subst e z1 z2
  refine ⟨aT, g, ⟨_, _, epT, [(.inr ".", .str "." r1), (.inr "|", .str "-" r2), (.inr "-", .str "|" r3)], l, ⟨rfl, rfl, rfl⟩, rfl, ?_, ?_, ?_, ?_⟩⟩
  · intro x hx
    simp at hx
    rcases hx with rfl | rfl | rfl
    · exact ⟨.inr ".", keyIs_str _ u1, e1⟩
    · exact ⟨.inr "|", keyIs_str _ u2, e2⟩
    · exact ⟨.inr "-", keyIs_str _ u3, e3⟩
  · exact .cons (keyIs_str _ u1) rfl (.cons (keyIs_str _ u2) rfl (.cons (keyIs_str _ u3) rfl .nil))
  · show ([Sum.inr ".", Sum.inr "|", Sum.inr "-"] : List Key).Nodup
    decide +kernel
  · exact .cons ⟨rfl, ⟨_, rfl⟩⟩ (.cons ⟨rfl, ⟨_, rfl⟩⟩ (.cons ⟨rfl, ⟨_, rfl⟩⟩ .nil))
def spTurned (C : Addr) : Sp := fun vs H Q _ => ∃ (p : Addr) (w h : Nat) (kvs : List (List Key × V)), vs = [.ref p] ∧ BoardAt C H p w h kvs ∧
  ∀ (p' : Addr) (kb : List (List Key × V)) (H' : Hp), H p' = none → Same H H' → BoardAt C H' p' h w kb → Moved (tkey h) tsg w h kvs kb → Q (.ref p') H'
def spFlipped (C : Addr) : Sp := fun vs H Q _ => ∃ (p : Addr) (w h : Nat) (kvs : List (List Key × V)), vs = [.ref p] ∧ BoardAt C H p w h kvs ∧
  ∀ (p' : Addr) (kb : List (List Key × V)) (H' : Hp), H p' = none → Same H H' → BoardAt C H' p' w h kb → Moved (fkey w) id w h kvs kb → Q (.ref p') H'
theorem okSize.swap {w h : Nat} (s : okSize w h) : okSize h w := by
  obtain ⟨a, b, c, d, e⟩ := s
  exact ⟨c, d, a, b, by rw [Nat.mul_comm]; exact e⟩
theorem sc_turned : FnScope ["board", "placed"] ["board"] (defScope s_turned) := ⟨rfl, rfl, rfl, by decide +kernel, rfl, by decide +kernel, by decide +kernel⟩
theorem ok_turned {f : Addr} {fd : FuncData} (F : Fun K "turned" "turned" s_turned f fd) (T : Txt K mg C) (TU : TSigns P w K mg) (DT : DefAt P w K mg base 1 "turned_door" ["board", "door"] (spTD C mT)) (MS : MethAt P w K mg base 2 C "sign" ["self", "door"] (spSign C))
    (MD : MethAt P w K mg base 1 C "doors" ["self"] (spBDoors C)) (DW : DefAt P w K mg base 5 "with_signs" ["wide", "high", "placed"] (spWith C)) : FnOk P w K mg base CX0 6 f fd ["board"] (spTurned C) := by
  obtain ⟨aU, hU, mU⟩ := TU.ex
  refine F.okq sc_turned (fun vs H Q E h => ?_) (fun cdv A outer s H vs Q E hr h => ?_)
  · obtain ⟨p, wd, hg, kvs, rfl, _⟩ := h
    rfl
  · obtain ⟨p, wd, hg, kvs, rfl, B, k⟩ := h
    obtain ⟨⟨dx, d, h1, h2⟩, sz, tb⟩ := id B
    refine ⟨_, qss_cons (ps_setComp (i := 1) (x := "door") (fvs := [("board", 0)]) sc_turned.nd rfl (Or.inl rfl) rfl rfl rfl (by decide +kernel) (by decide +kernel) rfl ⟨rfl, trivial⟩ rfl ⟨⟨rfl, rfl, rfl⟩, trivial⟩ (by decide +kernel)
          (pi_list (pe_mth0 (pv 0) T.cl MD hr))
          (fun C' s' H' fp => pe_tup (pa (pe_def DT hr (pa (pv 1) (pa (pv 0) pa_nil))) (pa (pe_mgetC (P := P) (w := w) (K := K) rfl rfl rfl (pe_glob (v := .ref aU) rfl hU rfl) (pe_mth (pv 1) T.cl MS hr (pa (pv 0) pa_nil)) (fun _ _ => rfl)) pa_nil))))
      (qss_one (ps_ret (pe_def DW hr (pa (pe_fld (pv 0) rfl) (pa (pe_fld (pv 0) rfl) (pa (pv 1) pa_nil)))))), ?_⟩
    refine ⟨_, rfl, p, dx, _, rfl, h1, board_no (by simp), p, wd, hg, kvs, rfl, B, fun l xs H1 nl hL tl s1 => ?_⟩
    have hlen : xs.length ≤ 72 := by rw [tl.length]; exact doors_len sz
    refine ⟨l, rfl, ⟨_, SqL.of hL⟩, fun D hD => ?_⟩
    have nlD : l ≠ D := ne_of_none hL hD
    refine comp_list (K := K) (a := l) (xs := xs) (fun i ys H2 => H2 D = some (.lst ys) ∧ PL H2 ys ((movedPs (tkey hg) tsg wd hg kvs).take i) ∧ Same H1 H2) (by omega)
      ⟨upd_same, .nil, Same.new (Same.refl _) hD⟩ (fun i ys H2 hi ⟨c1, c2, c3⟩ => ⟨SqL.of (c3 _ _ hL), c1, ?_⟩) ?_ ?_
    · have e1 := c2.length
      unfold movedPs at e1
      rw [List.length_take, List.length_map, ← tl.length] at e1
      omega
    · rintro i x ys H2 R hi ⟨c1, c2, c3⟩ hR
      obtain ⟨kd, ek, ta, rfl, hta⟩ := tl.at hi
      have hm : kd ∈ doors wd hg := List.mem_of_getElem? ek
      have B2 := B.keep (s1.trans c3)
      obtain ⟨⟨dx2, d2, o1, o2⟩, _, _⟩ := id B2
      refine ⟨_, rfl, _, rfl, p, ta, wd, hg, kvs, kd, rfl, B2, c3 _ _ hta, hm, fun t H3 nt s3 ht => ?_⟩
      have B3 := B2.keep s3
      obtain ⟨⟨dx3, d3, o3, o4⟩, _, _⟩ := id B3
      obtain ⟨sg1, sg2⟩ := tb.sg hm
      refine ⟨_, rfl, p, dx3, _, rfl, o3, board_no (by simp), _, rfl, p, ta, wd, hg, kvs, kd, rfl, B3, s3 _ _ (c3 _ _ hta), hm, ?_⟩
      have look : ∀ (z : VK), z (.str (tsg (sgAt kvs kd))) H3 → ∃ a' kvs' k' v, V.ref aU = .ref a' ∧ ModD P w K a' kvs' ∧ V.str (sgAt kvs kd) = kV k' ∧ valV kvs' k' = some v ∧ z v H3 := fun z hz => by
        generalize sgAt kvs kd = x at sg2 hz
        unfold signs3 at sg2
        simp only [List.mem_cons, List.not_mem_nil, or_false] at sg2
        rcases sg2 with rfl | rfl | rfl
        · exact ⟨aU, _, .inr ".", _, rfl, mU, rfl, rfl, hz⟩
        · exact ⟨aU, _, .inr "|", _, rfl, mU, rfl, rfl, hz⟩
        · exact ⟨aU, _, .inr "-", _, rfl, mU, rfl, rfl, hz⟩
      refine look _ ⟨(by show 2 ≤ sizeLine; decide), fun q nq => ?_⟩
      have hD3 : H3 D = some (.lst ys) := s3 _ _ c1
      have hDq : D ≠ q := ne_of_none hD3 nq
      have hD4 : (upd H3 q (.tup [.ref t, .str (tsg (sgAt kvs kd))])) D = some (.lst ys) := by rw [upd_ne hDq]; exact hD3
      refine hR _ _ hD4 ⟨upd_same, ?_, ?_⟩
      · have e6 : (movedPs (tkey hg) tsg wd hg kvs).take (i + 1) = (movedPs (tkey hg) tsg wd hg kvs).take i ++ [(tkey hg kd, tsg (sgAt kvs kd))] := by
          rw [List.take_add_one]
          unfold movedPs
          rw [List.getElem?_map, ek]
          rfl
        rw [e6]
        refine ((c2.keep ((Tk.of s3).trans (Tk.new (Tk.refl _) nq))).keep (Tk.lst (Tk.refl _) hD4)).snoc ⟨q, t, rfl, ?_, ?_⟩
        · rw [upd_ne hDq.symm, upd_same]
        · rw [upd_ne (ne_of ht hD3 (fun z => nomatch z)), upd_ne (ne_of_none ht nq)]
          exact ht
      · intro b o e
        rw [upd_ne (fun z => by subst z; rw [hD] at e; cases e), upd_ne (ne_of_none (s3 _ _ (c3 b o e)) nq)]
        exact s3 _ _ (c3 b o e)
    · rintro ys H2 ⟨c1, c2, c3⟩
      have B2 := B.keep (s1.trans c3)
      obtain ⟨⟨dx2, d2, o1, o2⟩, _, _⟩ := id B2
      have e1 : (movedPs (tkey hg) tsg wd hg kvs).take xs.length = movedPs (tkey hg) tsg wd hg kvs := List.take_of_length_le (by unfold movedPs; rw [List.length_map, tl.length]; exact Nat.le_refl _)
      rw [e1] at c2
      refine ⟨_, rfl, p, C, dx2, _, _, rfl, o1, T.cl, T.nH, flds_high _ _ _, _, rfl, p, C, dx2, _, _, rfl, o1, T.cl, T.nW, flds_wide _ _ _, _, rfl, D, ys, _, hg, wd, rfl, sz.swap, c1, c2, ?_, fun p' H3 np s3 B3 => ?_⟩
      · rintro pr hpr
        obtain ⟨kd, hm, rfl⟩ := List.mem_map.mp hpr
        exact ⟨tkey_mem hm, tsg_in (tb.sg hm).2⟩
      · exact k p' _ H3 ((s1.trans c3).free np) (s1.trans (c3.trans s3)) B3 (moved_of fun a ha b hb e => tkey_inj ha hb e)
theorem sc_flipped_door : FnScope ["board", "door"] ["board", "door"] (defScope s_flipped_door) := ⟨rfl, rfl, rfl, by decide +kernel, rfl, by decide +kernel, by decide +kernel⟩
theorem ok_flipped_door {f : Addr} {fd : FuncData} (F : Fun K "flipped_door" "flipped_door" s_flipped_door f fd) (T : Txt K mg C) : FnOk P w K mg base CX0 1 f fd ["board", "door"] (spTD C mF) := by
  refine F.okq sc_flipped_door (fun vs H Q E h => ?_) (fun cdv A outer s H vs Q E hr h => ?_)
  · obtain ⟨p, a, wd, hg, kvs, kd, rfl, _⟩ := h
    rfl
  · obtain ⟨p, a, wd, hg, kvs, kd, rfl, B, ha, hk, k⟩ := h
    obtain ⟨⟨dx, d, h1, h2⟩, sz, tb⟩ := id B
    refine ⟨_, qss_cons (ps_ifq (pt_cmpR op_eq (pe_ix ix_tup (pv 1) pe_int (fun _ _ => rfl)) pe_str (nomark _))
        (qss_one (ps_ret (pe_tup (pa pe_str (pa (pe_op op_sub (pe_op op_sub (pe_fld (pv 0) rfl) pe_int) (pe_ix ix_tup (pv 1) pe_int (fun _ _ => rfl))) (pa (pe_ix ix_tup (pv 1) pe_int (fun _ _ => rfl)) pa_nil)))))) qss_nil)
      (qss_one (ps_ret (pe_tup (pa pe_str (pa (pe_op op_sub (pe_op op_sub (pe_fld (pv 0) rfl) pe_int) (pe_ix ix_tup (pv 1) pe_int (fun _ _ => rfl))) (pa (pe_ix ix_tup (pv 1) pe_int (fun _ _ => rfl)) pa_nil)))))), ?_⟩
    rcases door_cases hk with ⟨c, r, rfl, _⟩ | ⟨c, r, rfl, _⟩
    · refine ⟨_, rfl, a, _, _, _, rfl, rfl, SqT.of ha, rfl, rfl, _, rfl, ?_⟩
      refine iteE rfl ?_
      refine ⟨_, rfl, p, C, dx, _, _, rfl, h1, T.cl, T.nW, flds_wide _ _ _, _, _, rfl, rfl, _, rfl, a, _, _, _, rfl, rfl, SqT.of ha, rfl, _, _, rfl, rfl, _, rfl, a, _, _, _, rfl, rfl, SqT.of ha, rfl, (by show 3 ≤ sizeLine; decide), fun t ht => ?_⟩
      refine k t _ ht (Same.new (Same.refl H) ht) ?_
      unfold mF
      rw [upd_same, fkey_row]
      rfl
    · refine ⟨_, rfl, a, _, _, _, rfl, rfl, SqT.of ha, rfl, rfl, _, rfl, ?_⟩
      refine iteN (fun z => row_col_ne (V.str.inj z)) ?_
      refine ⟨_, rfl, p, C, dx, _, _, rfl, h1, T.cl, T.nW, flds_wide _ _ _, _, _, rfl, rfl, _, rfl, a, _, _, _, rfl, rfl, SqT.of ha, rfl, _, _, rfl, rfl, _, rfl, a, _, _, _, rfl, rfl, SqT.of ha, rfl, (by show 3 ≤ sizeLine; decide), fun t ht => ?_⟩
      refine k t _ ht (Same.new (Same.refl H) ht) ?_
      unfold mF
      rw [upd_same, fkey_col]
      rfl
theorem sc_flipped : FnScope ["board", "placed"] ["board"] (defScope s_flipped) := ⟨rfl, rfl, rfl, by decide +kernel, rfl, by decide +kernel, by decide +kernel⟩
theorem ok_flipped {f : Addr} {fd : FuncData} (F : Fun K "flipped" "flipped" s_flipped f fd) (T : Txt K mg C) (DT : DefAt P w K mg base 1 "flipped_door" ["board", "door"] (spTD C mF)) (MS : MethAt P w K mg base 2 C "sign" ["self", "door"] (spSign C))
    (MD : MethAt P w K mg base 1 C "doors" ["self"] (spBDoors C)) (DW : DefAt P w K mg base 5 "with_signs" ["wide", "high", "placed"] (spWith C)) : FnOk P w K mg base CX0 6 f fd ["board"] (spFlipped C) := by
  refine F.okq sc_flipped (fun vs H Q E h => ?_) (fun cdv A outer s H vs Q E hr h => ?_)
  · obtain ⟨p, wd, hg, kvs, rfl, _⟩ := h
    rfl
  · obtain ⟨p, wd, hg, kvs, rfl, B, k⟩ := h
    obtain ⟨⟨dx, d, h1, h2⟩, sz, tb⟩ := id B
    refine ⟨_, qss_cons (ps_setComp (i := 1) (x := "door") (fvs := [("board", 0)]) sc_flipped.nd rfl (Or.inl rfl) rfl rfl rfl (by decide +kernel) (by decide +kernel) rfl ⟨rfl, trivial⟩ rfl ⟨⟨rfl, rfl, rfl⟩, trivial⟩ (by decide +kernel)
          (pi_list (pe_mth0 (pv 0) T.cl MD hr))
          (fun C' s' H' fp => pe_tup (pa (pe_def DT hr (pa (pv 1) (pa (pv 0) pa_nil))) (pa (pe_mth (pv 1) T.cl MS hr (pa (pv 0) pa_nil)) pa_nil))))
      (qss_one (ps_ret (pe_def DW hr (pa (pe_fld (pv 0) rfl) (pa (pe_fld (pv 0) rfl) (pa (pv 1) pa_nil)))))), ?_⟩
    refine ⟨_, rfl, p, dx, _, rfl, h1, board_no (by simp), p, wd, hg, kvs, rfl, B, fun l xs H1 nl hL tl s1 => ?_⟩
    have hlen : xs.length ≤ 72 := by rw [tl.length]; exact doors_len sz
    refine ⟨l, rfl, ⟨_, SqL.of hL⟩, fun D hD => ?_⟩
    have nlD : l ≠ D := ne_of_none hL hD
    refine comp_list (K := K) (a := l) (xs := xs) (fun i ys H2 => H2 D = some (.lst ys) ∧ PL H2 ys ((movedPs (fkey wd) id wd hg kvs).take i) ∧ Same H1 H2) (by omega)
      ⟨upd_same, .nil, Same.new (Same.refl _) hD⟩ (fun i ys H2 hi ⟨c1, c2, c3⟩ => ⟨SqL.of (c3 _ _ hL), c1, ?_⟩) ?_ ?_
    · have e1 := c2.length
      unfold movedPs at e1
      rw [List.length_take, List.length_map, ← tl.length] at e1
      omega
    · rintro i x ys H2 R hi ⟨c1, c2, c3⟩ hR
      obtain ⟨kd, ek, ta, rfl, hta⟩ := tl.at hi
      have hm : kd ∈ doors wd hg := List.mem_of_getElem? ek
      have B2 := B.keep (s1.trans c3)
      refine ⟨_, rfl, _, rfl, p, ta, wd, hg, kvs, kd, rfl, B2, c3 _ _ hta, hm, fun t H3 nt s3 ht => ?_⟩
      have B3 := B2.keep s3
      obtain ⟨⟨dx3, d3, o3, o4⟩, _, _⟩ := id B3
      refine ⟨_, rfl, p, dx3, _, rfl, o3, board_no (by simp), _, rfl, p, ta, wd, hg, kvs, kd, rfl, B3, s3 _ _ (c3 _ _ hta), hm, ?_⟩
      refine ⟨(by show 2 ≤ sizeLine; decide), fun q nq => ?_⟩
      have hD3 : H3 D = some (.lst ys) := s3 _ _ c1
      have hDq : D ≠ q := ne_of_none hD3 nq
      have hD4 : (upd H3 q (.tup [.ref t, .str (sgAt kvs kd)])) D = some (.lst ys) := by rw [upd_ne hDq]; exact hD3
      refine hR _ _ hD4 ⟨upd_same, ?_, ?_⟩
      · have e6 : (movedPs (fkey wd) id wd hg kvs).take (i + 1) = (movedPs (fkey wd) id wd hg kvs).take i ++ [(fkey wd kd, sgAt kvs kd)] := by
          rw [List.take_add_one]
          unfold movedPs
          rw [List.getElem?_map, ek]
          rfl
        rw [e6]
        refine ((c2.keep ((Tk.of s3).trans (Tk.new (Tk.refl _) nq))).keep (Tk.lst (Tk.refl _) hD4)).snoc ⟨q, t, rfl, ?_, ?_⟩
        · rw [upd_ne hDq.symm, upd_same]
        · rw [upd_ne (ne_of ht hD3 (fun z => nomatch z)), upd_ne (ne_of_none ht nq)]
          exact ht
      · intro b o e
        rw [upd_ne (fun z => by subst z; rw [hD] at e; cases e), upd_ne (ne_of_none (s3 _ _ (c3 b o e)) nq)]
        exact s3 _ _ (c3 b o e)
    · rintro ys H2 ⟨c1, c2, c3⟩
      have B2 := B.keep (s1.trans c3)
      obtain ⟨⟨dx2, d2, o1, o2⟩, _, _⟩ := id B2
      have e1 : (movedPs (fkey wd) id wd hg kvs).take xs.length = movedPs (fkey wd) id wd hg kvs := List.take_of_length_le (by unfold movedPs; rw [List.length_map, tl.length]; exact Nat.le_refl _)
      rw [e1] at c2
      refine ⟨_, rfl, p, C, dx2, _, _, rfl, o1, T.cl, T.nW, flds_wide _ _ _, _, rfl, p, C, dx2, _, _, rfl, o1, T.cl, T.nH, flds_high _ _ _, _, rfl, D, ys, _, wd, hg, rfl, sz, c1, c2, ?_, fun p' H3 np s3 B3 => ?_⟩
      · rintro pr hpr
        obtain ⟨kd, hm, rfl⟩ := List.mem_map.mp hpr
        exact ⟨fkey_mem hm, (tb.sg hm).2⟩
      · exact k p' _ H3 ((s1.trans c3).free np) (s1.trans (c3.trans s3)) B3 (moved_of fun a ha b hb e => fkey_inj ha hb e)
def spWall : Sp := fun vs H Q _ => ∃ lv : Bool, vs = [.bl lv] ∧ Q (.str (wallS lv)) H
theorem sc_wall : FnScope ["level"] ["level"] (defScope s_wall) := ⟨rfl, rfl, rfl, by decide +kernel, rfl, by decide +kernel, by decide +kernel⟩
theorem ok_wall {f : Addr} {fd : FuncData} (F : Fun K "wall" "wall" s_wall f fd) : FnOk P w K mg base CX0 1 f fd ["level"] spWall := by
  refine F.okq sc_wall (fun vs H Q E h => ?_) (fun cdv A outer s H vs Q E hr h => ?_)
  · obtain ⟨lv, rfl, _⟩ := h
    rfl
  · obtain ⟨lv, rfl, k⟩ := h
    refine ⟨_, qss_one (ps_ret (pe_ifExp (pt_val (pv 0)) pe_str pe_str)), ?_⟩
    refine ⟨_, rfl, _, rfl, ?_⟩
    cases lv with
    | true => exact iteT k
    | false => exact iteF k
def spNb : Sp := fun vs H Q _ => ∃ (a : Addr) (q : Qr) (lv : Bool), vs = [.ref a, .bl lv] ∧ H a = some (.tup [.int q.c, .int q.r, .int q.k]) ∧
  ∀ (t : Addr) (H' : Hp), H t = none → Same H H' → H' t = some (.tup [.int (nbC q.c q.k lv), .int (nbR q.r q.k lv)]) → Q (.ref t) H'
theorem in12 (k : Int) : inV (.int k) [.int 1, .int 2] = decide (k = 1 ∨ k = 2) := by
  show ((_ || (_ || false)) : Bool) = _
  rw [Bool.or_false]
  by_cases h1 : k = 1
  · subst h1; rfl
  · by_cases h2 : k = 2
    · subst h2; rfl
    · rw [decide_eq_false (fun z => z.elim h1 h2)]
      have e1 : eqV (.int 1) (.int k) = false := by simp only [eqV]; simpa using fun e => h1 e.symm
      have e2 : eqV (.int 2) (.int k) = false := by simp only [eqV]; simpa using fun e => h2 e.symm
      show (eqV (.int 1) (.int k) || eqV (.int 2) (.int k)) = false
      rw [e1, e2]; rfl
theorem in23 (k : Int) : inV (.int k) [.int 2, .int 3] = decide (k = 2 ∨ k = 3) := by
  show ((_ || (_ || false)) : Bool) = _
  rw [Bool.or_false]
  by_cases h1 : k = 2
  · subst h1; rfl
  · by_cases h2 : k = 3
    · subst h2; rfl
    · rw [decide_eq_false (fun z => z.elim h1 h2)]
      have e1 : eqV (.int 2) (.int k) = false := by simp only [eqV]; simpa using fun e => h1 e.symm
      have e2 : eqV (.int 3) (.int k) = false := by simp only [eqV]; simpa using fun e => h2 e.symm
      show (eqV (.int 2) (.int k) || eqV (.int 3) (.int k)) = false
      rw [e1, e2]; rfl
def spEast : Sp := fun vs H Q _ => ∃ k : Int, vs = [.int k] ∧ ∀ H' : Hp, Same H H' → Q (.bl (decide (k = 1 ∨ k = 2))) H'
def spSouth : Sp := fun vs H Q _ => ∃ k : Int, vs = [.int k] ∧ ∀ H' : Hp, Same H H' → Q (.bl (decide (k = 2 ∨ k = 3))) H'
theorem sc_is_east : FnScope ["corner"] ["corner"] (defScope s_is_east) := ⟨rfl, rfl, rfl, by decide +kernel, rfl, by decide +kernel, by decide +kernel⟩
theorem sc_is_south : FnScope ["corner"] ["corner"] (defScope s_is_south) := ⟨rfl, rfl, rfl, by decide +kernel, rfl, by decide +kernel, by decide +kernel⟩
theorem ok_is_east {f : Addr} {fd : FuncData} (F : Fun K "is_east" "is_east" s_is_east f fd) : FnOk P w K mg base CX0 1 f fd ["corner"] spEast := by
  refine F.okq sc_is_east (fun vs H Q E h => ?_) (fun cdv A outer s H vs Q E hr h => ?_)
  · obtain ⟨k, rfl, _⟩ := h
    rfl
  · obtain ⟨k, rfl, q⟩ := h
    refine ⟨_, qss_one (ps_ret (pe_cmpR op_in_seq (pv 0) (pe_tup (pa pe_int (pa pe_int pa_nil))) (by with_unfolding_all rfl))), ?_⟩
    refine ⟨_, rfl, (by show 2 ≤ sizeLine; decide), fun t0 h0 => ⟨t0, _, rfl, .inr (SqT.of upd_same), rfl, rfl, ?_⟩⟩
    rw [show (if false = true then !inV (V.int k) [V.int 1, V.int 2] else inV (V.int k) [V.int 1, V.int 2]) = inV (V.int k) [V.int 1, V.int 2] from rfl, in12]
    exact q _ (Same.new (Same.refl H) h0)
theorem ok_is_south {f : Addr} {fd : FuncData} (F : Fun K "is_south" "is_south" s_is_south f fd) : FnOk P w K mg base CX0 1 f fd ["corner"] spSouth := by
  refine F.okq sc_is_south (fun vs H Q E h => ?_) (fun cdv A outer s H vs Q E hr h => ?_)
  · obtain ⟨k, rfl, _⟩ := h
    rfl
  · obtain ⟨k, rfl, q⟩ := h
    refine ⟨_, qss_one (ps_ret (pe_cmpR op_in_seq (pv 0) (pe_tup (pa pe_int (pa pe_int pa_nil))) (by with_unfolding_all rfl))), ?_⟩
    refine ⟨_, rfl, (by show 2 ≤ sizeLine; decide), fun t0 h0 => ⟨t0, _, rfl, .inr (SqT.of upd_same), rfl, rfl, ?_⟩⟩
    rw [show (if false = true then !inV (V.int k) [V.int 2, V.int 3] else inV (V.int k) [V.int 2, V.int 3]) = inV (V.int k) [V.int 2, V.int 3] from rfl, in23]
    exact q _ (Same.new (Same.refl H) h0)
theorem sc_neighbour : FnScope ["quarter", "level", "column", "row", "corner"] ["quarter", "level"] (defScope s_neighbour) := ⟨rfl, rfl, rfl, by decide +kernel, rfl, by decide +kernel, by decide +kernel⟩
theorem ok_neighbour {f : Addr} {fd : FuncData} (F : Fun K "neighbour" "neighbour" s_neighbour f fd) (D1 : DefAt P w K mg base 1 "is_east" ["corner"] spEast) (D2 : DefAt P w K mg base 1 "is_south" ["corner"] spSouth) : FnOk P w K mg base CX0 2 f fd ["quarter", "level"] spNb := by
  refine F.okq sc_neighbour (fun vs H Q E h => ?_) (fun cdv A outer s H vs Q E hr h => ?_)
  · obtain ⟨a, q, lv, rfl, _⟩ := h
    rfl
  · obtain ⟨a, q, lv, rfl, ha, k⟩ := h
    refine ⟨_, qss_cons (ps_set (i := 2) sc_neighbour.nd rfl (Or.inl rfl) (pe_ix ix_tup (pv 0) pe_int (fun _ _ => rfl)))
      (qss_cons (ps_set (i := 3) sc_neighbour.nd rfl (Or.inl rfl) (pe_ix ix_tup (pv 0) pe_int (fun _ _ => rfl)))
      (qss_cons (ps_set (i := 4) sc_neighbour.nd rfl (Or.inl rfl) (pe_ix ix_tup (pv 0) pe_int (fun _ _ => rfl)))
      (qss_cons (ps_ifq (pt_val (pv 1))
        (qss_one (ps_ret (pe_tup (pa (pe_ifExp (pt_val (pe_def D1 hr (pa (pv 4) pa_nil))) (pe_op op_add (pv 2) pe_int) (pe_op op_sub (pv 2) pe_int)) (pa (pv 3) pa_nil))))) qss_nil)
      (qss_one (ps_ret (pe_tup (pa (pv 2) (pa (pe_ifExp (pt_val (pe_def D2 hr (pa (pv 4) pa_nil))) (pe_op op_add (pv 3) pe_int) (pe_op op_sub (pv 3) pe_int)) pa_nil)))))))), ?_⟩
    refine ⟨_, rfl, a, _, _, _, rfl, rfl, SqT.of ha, rfl, ?_⟩
    refine ⟨_, rfl, a, _, _, _, rfl, rfl, SqT.of ha, rfl, ?_⟩
    refine ⟨_, rfl, a, _, _, _, rfl, rfl, SqT.of ha, rfl, ?_⟩
    refine ⟨_, rfl, _, rfl, ?_⟩
    cases lv with
    | true =>
      refine iteT ?_
      refine ⟨_, rfl, q.k, rfl, fun H1 s1 => ⟨_, rfl, ?_⟩⟩
      refine ite2 (fun c => ?_) (fun c => ?_)
      · have c := of_decide_eq_true c
        refine ⟨_, rfl, _, _, rfl, rfl, _, rfl, (by show 2 ≤ sizeLine; decide), fun t ht => ?_⟩
        refine k t _ (s1.free ht) (Same.new s1 ht) ?_
        rw [upd_same]
        have e1 : nbC q.c q.k true = q.c + 1 := if_pos c
        rw [e1]; rfl
      · have c := fun z => c (decide_eq_true z)
        refine ⟨_, rfl, _, _, rfl, rfl, _, rfl, (by show 2 ≤ sizeLine; decide), fun t ht => ?_⟩
        refine k t _ (s1.free ht) (Same.new s1 ht) ?_
        rw [upd_same]
        have e1 : nbC q.c q.k true = q.c - 1 := if_neg c
        rw [e1]; rfl
    | false =>
      refine iteF ?_
      refine ⟨_, rfl, _, rfl, q.k, rfl, fun H1 s1 => ⟨_, rfl, ?_⟩⟩
      refine ite2 (fun c => ?_) (fun c => ?_)
      · have c := of_decide_eq_true c
        refine ⟨_, rfl, _, _, rfl, rfl, (by show 2 ≤ sizeLine; decide), fun t ht => ?_⟩
        refine k t _ (s1.free ht) (Same.new s1 ht) ?_
        rw [upd_same]
        have e1 : nbR q.r q.k false = q.r + 1 := if_pos c
        rw [e1]; rfl
      · have c := fun z => c (decide_eq_true z)
        refine ⟨_, rfl, _, _, rfl, rfl, (by show 2 ≤ sizeLine; decide), fun t ht => ?_⟩
        refine k t _ (s1.free ht) (Same.new s1 ht) ?_
        rw [upd_same]
        have e1 : nbR q.r q.k false = q.r - 1 := if_neg c
        rw [e1]; rfl
def spBeside (C : Addr) : Sp := fun vs H Q _ => ∃ (p a : Addr) (w h : Nat) (kvs : List (List Key × V)) (q : Qr) (lv : Bool), vs = [.ref p, .ref a, .bl lv] ∧ BoardAt C H p w h kvs ∧ q.on w h ∧ H a = some (.tup [.int q.c, .int q.r, .int q.k]) ∧
  ∀ H' : Hp, Same H H' → Q (.str (beside w h kvs q.c q.r q.k lv)) H'
theorem sc_sign_beside : FnScope ["board", "quarter", "level", "other", "kind"] ["board", "quarter", "level"] (defScope s_sign_beside) := ⟨rfl, rfl, rfl, by decide +kernel, rfl, by decide +kernel, by decide +kernel⟩
theorem min_if (i j : Int) : (if j < i then j else i) = min i j := by
  by_cases h : j < i
  · rw [if_pos h]; omega
  · rw [if_neg h]; omega
theorem ok_sign_beside {f : Addr} {fd : FuncData} (F : Fun K "sign_beside" "sign_beside" s_sign_beside f fd) (T : Txt K mg C) (D1 : DefAt P w K mg base 2 "neighbour" ["quarter", "level"] spNb) (D2 : DefAt P w K mg base 1 "wall" ["level"] spWall)
    (M1 : MethAt P w K mg base 2 C "sign" ["self", "door"] (spSign C)) : FnOk P w K mg base CX0 3 f fd ["board", "quarter", "level"] (spBeside C) := by
  refine F.okq sc_sign_beside (fun vs H Q E h => ?_) (fun cdv A outer s H vs Q E hr h => ?_)
  · obtain ⟨p, a, wd, hg, kvs, q, lv, rfl, _⟩ := h
    rfl
  · obtain ⟨p, a, wd, hg, kvs, q, lv, rfl, B, hq, ha, k⟩ := h
    refine ⟨_, qss_cons (ps_set (i := 3) sc_sign_beside.nd rfl (Or.inl rfl) (pe_def D1 hr (pa (pv 1) (pa (pv 2) pa_nil))))
      (qss_cons (ps_ifq (pt_not (PW.pt (pw_and (pt_chain op_le op_lt pe_int (pe_ix ix_tup (pv 3) pe_int (fun _ _ => rfl)) (pe_fld (pv 0) rfl)) (pw_and1 (pt_chain op_le op_lt pe_int (pe_ix ix_tup (pv 3) pe_int (fun _ _ => rfl)) (pe_fld (pv 0) rfl))))))
        (qss_one (ps_ret (pe_def D2 hr (pa (pv 2) pa_nil)))) qss_nil)
      (qss_cons (ps_set (i := 4) sc_sign_beside.nd rfl (Or.inl rfl) (pe_ifExp (pt_val (pv 2)) pe_str pe_str))
      (qss_one (ps_ret (pe_mth (pv 0) T.cl M1 hr (pa (pe_tup (pa (pv 4) (pa (pe_cb (call_min2 rfl) (by rfl) T.min PyProof.Rows.boot_min (pa (pe_ix ix_tup (pv 1) pe_int (fun _ _ => rfl)) (pa (pe_ix ix_tup (pv 3) pe_int (fun _ _ => rfl)) pa_nil)))
        (pa (pe_cb (call_min2 rfl) (by rfl) T.min PyProof.Rows.boot_min (pa (pe_ix ix_tup (pv 1) pe_int (fun _ _ => rfl)) (pa (pe_ix ix_tup (pv 3) pe_int (fun _ _ => rfl)) pa_nil))) pa_nil)))) pa_nil)))))), ?_⟩
    refine ⟨_, rfl, _, rfl, a, q, lv, rfl, ha, fun t H1 nt sm ht => ?_⟩
    have B1 := B.keep sm
    obtain ⟨⟨dx, d, h1, h2⟩, sz, tb⟩ := id B1
    have ha1 := sm _ _ ha
    have out : ¬ inside wd hg (nbC q.c q.k lv) (nbR q.r q.k lv) → ∀ {R : Prop}, (if (!false) = true then (tRet (tCall spWall [] E0 (tCons (tVar 2) tNil)) { nx := fun _ H' => Q .non H', rt := Q } [some (.ref p), some (.ref a), some (.bl lv), some (.ref t), none] H1) else R) := fun hi R => by
      refine iteT ?_
      refine ⟨_, rfl, lv, rfl, ?_⟩
      have e := k H1 sm
      unfold beside at e
      rw [if_neg hi] at e
      exact e
    refine ⟨_, rfl, t, _, _, _, rfl, rfl, SqT.of ht, rfl, _, _, rfl, rfl, _, rfl, ?_⟩
    refine ite2 (fun c1 => ?_) (fun c1 => ?_)
    · have c1 := of_decide_eq_true c1
      refine ⟨_, rfl, p, C, dx, _, _, rfl, h1, T.cl, T.nW, flds_wide _ _ _, _, _, rfl, rfl, _, rfl, ?_⟩
      refine ite2 (fun c2 => ?_) (fun c2 => ?_)
      · have c2 := of_decide_eq_true c2
        refine ⟨_, rfl, t, _, _, _, rfl, rfl, SqT.of ht, rfl, _, _, rfl, rfl, _, rfl, ?_⟩
        refine ite2 (fun c3 => ?_) (fun c3 => ?_)
        · have c3 := of_decide_eq_true c3
          refine ⟨_, rfl, p, C, dx, _, _, rfl, h1, T.cl, T.nH, flds_high _ _ _, _, _, rfl, rfl, _, rfl, ?_⟩
          by_cases c4 : nbR q.r q.k lv < hg
          · rw [decide_eq_true c4]
            refine iteF ?_
            have hi : inside wd hg (nbC q.c q.k lv) (nbR q.r q.k lv) := ⟨c1, c2, c3, c4⟩
            have hm := doorB_mem hq lv hi
            have e := fun H2 (s2 : Same H1 H2) => k H2 (sm.trans s2)
            unfold beside at e
            rw [if_pos hi] at e
            refine ⟨_, rfl, _, rfl, ?_⟩
            have fin : ∀ (x : Str) (t2 : Addr), H1 t2 = none → [.inr x, .inl (min q.c (nbC q.c q.k lv)), .inl (min q.r (nbR q.r q.k lv))] = doorB q.c q.r q.k lv →
                spSign C [.ref p, .ref t2] (upd H1 t2 (.tup [.str x, .int (min q.c (nbC q.c q.k lv)), .int (min q.r (nbR q.r q.k lv))])) Q E0 := fun x t2 n2 ed => by
              refine ⟨p, t2, wd, hg, kvs, doorB q.c q.r q.k lv, rfl, B1.keep (Same.new (Same.refl _) n2), ?_, hm, e _ (Same.new (Same.refl _) n2)⟩
              rw [upd_same, ← ed]
              rfl
            cases lv with
            | true =>
              refine iteT ?_
              refine ⟨_, rfl, p, dx, _, rfl, h1, board_no (by simp), _, rfl, _, rfl, a, _, _, _, rfl, rfl, SqT.of ha1, rfl, _, rfl, t, _, _, _, rfl, rfl, SqT.of ht, rfl, _, _, rfl, ?_⟩
              refine ⟨_, rfl, a, _, _, _, rfl, rfl, SqT.of ha1, rfl, _, rfl, t, _, _, _, rfl, rfl, SqT.of ht, rfl, _, _, rfl, (by show 3 ≤ sizeLine; decide), fun t2 n2 => ?_⟩
              rw [min_if, min_if]
              refine fin "row" t2 n2 ?_
              show _ = rowD _ _
              unfold rowD
              rw [show min q.r (nbR q.r q.k true) = q.r from Int.min_self _]
            | false =>
              refine iteF ?_
              refine ⟨_, rfl, p, dx, _, rfl, h1, board_no (by simp), _, rfl, _, rfl, a, _, _, _, rfl, rfl, SqT.of ha1, rfl, _, rfl, t, _, _, _, rfl, rfl, SqT.of ht, rfl, _, _, rfl, ?_⟩
              refine ⟨_, rfl, a, _, _, _, rfl, rfl, SqT.of ha1, rfl, _, rfl, t, _, _, _, rfl, rfl, SqT.of ht, rfl, _, _, rfl, (by show 3 ≤ sizeLine; decide), fun t2 n2 => ?_⟩
              rw [min_if, min_if]
              refine fin "column" t2 n2 ?_
              show _ = colD _ _
              unfold colD
              rw [show min q.c (nbC q.c q.k false) = q.c from Int.min_self _]
          · rw [decide_eq_false c4]
            exact out fun z => c4 z.2.2.2
        · exact ⟨_, rfl, out fun z => c3 (decide_eq_true z.2.2.1)⟩
      · exact out fun z => c2 (decide_eq_true z.2.1)
    · exact ⟨_, rfl, iteF (out fun z => c1 (decide_eq_true z.1))⟩
def spLed (C : Addr) : Sp := fun vs H Q _ => ∃ (p a : Addr) (w h : Nat) (kvs : List (List Key × V)) (q : Qr) (lv : Bool), vs = [.ref p, .ref a, .bl lv] ∧ BoardAt C H p w h kvs ∧ q.on w h ∧ H a = some (.tup [.int q.c, .int q.r, .int q.k]) ∧
  ∀ (t : Addr) (H' : Hp), H t = none → Same H H' → H' t = some (.tup ((ledM w h kvs q lv).key.map kV)) → Q (.ref t) H'
theorem sc_led : FnScope ["board", "quarter", "level", "sign", "dot"] ["board", "quarter", "level"] (defScope s_led) := ⟨rfl, rfl, rfl, by decide +kernel, rfl, by decide +kernel, by decide +kernel⟩
theorem ok_led {f : Addr} {fd : FuncData} (F : Fun K "led" "led" s_led f fd) (T : Txt K mg C) (TT : Turns P w K mg) (D1 : DefAt P w K mg base 2 "neighbour" ["quarter", "level"] spNb) (D2 : DefAt P w K mg base 1 "wall" ["level"] spWall)
    (D3 : DefAt P w K mg base 3 "sign_beside" ["board", "quarter", "level"] (spBeside C)) : FnOk P w K mg base CX0 4 f fd ["board", "quarter", "level"] (spLed C) := by
  obtain ⟨aT, t1, t2, t3, hT, mT, q1, q2, q3⟩ := TT.ex
  refine F.okq sc_led (fun vs H Q E h => ?_) (fun cdv A outer s H vs Q E hr h => ?_)
  · obtain ⟨p, a, wd, hg, kvs, q, lv, rfl, _⟩ := h
    rfl
  · obtain ⟨p, a, wd, hg, kvs, q, lv, rfl, B, hq, ha, k⟩ := h
    refine ⟨_, qss_cons (ps_set (i := 3) sc_led.nd rfl (Or.inl rfl) (pe_def D3 hr (pa (pv 0) (pa (pv 1) (pa (pv 2) pa_nil)))))
      (qss_cons (ps_set (i := 4) sc_led.nd rfl (Or.inl rfl) (pv 1))
      (qss_cons (ps_ifq (pt_cmpR op_ne (pv 3) (pe_def D2 hr (pa (pv 2) pa_nil)) (nomark _))
        (qss_one (ps_set (i := 4) sc_led.nd rfl (Or.inl rfl) (pe_def D1 hr (pa (pv 1) (pa (pv 2) pa_nil))))) qss_nil)
      (qss_one (ps_ret (pe_tup (pa (pe_ix ix_tup (pv 4) pe_int (fun _ _ => rfl)) (pa (pe_ix ix_tup (pv 4) pe_int (fun _ _ => rfl))
        (pa (pe_ix ix_tup (pe_mget (pe_glob (v := .ref aT) rfl hT rfl) (pv 3) (fun _ _ => rfl)) (pe_ix ix_tup (pv 1) pe_int (fun _ _ => rfl)) (fun _ _ => rfl)) pa_nil)))))))), ?_⟩
    refine ⟨_, rfl, _, rfl, _, rfl, p, a, wd, hg, kvs, q, lv, rfl, B, hq, ha, fun H1 sm => ?_⟩
    have ha1 := sm _ _ ha
    have hx := beside_sign B.tb hq lv
    generalize hX : beside wd hg kvs q.c q.r q.k lv = x at hx ⊢
    obtain ⟨_, _, _, _, k0, k4⟩ := id hq
    have corner : ∀ {σ : St} {H2 : Hp} {R : VK}, σ[1]? = some (some (.ref a)) → H2 a = some (.tup [.int q.c, .int q.r, .int q.k]) → R (.int (turnM x q.k)) H2 →
        ∃ a' kvs' k' v, V.ref aT = .ref a' ∧ ModD P w K a' kvs' ∧ V.str x = kV k' ∧ valV kvs' k' = some v ∧ (tOp (rIxT K) (tVar 1) (tC (.int 2))) σ H2 fun y H3 => rIxT K v y H3 R := by
      intro σ H2 R hσ h2 r
      unfold signs3 at hx
      simp only [List.mem_cons, List.not_mem_nil, or_false] at hx
      rcases hx with rfl | rfl | rfl
      · exact ⟨aT, _, .inr ".", _, rfl, mT, rfl, rfl, _, hσ, a, _, _, _, rfl, rfl, SqT.of h2, rfl, t1, _, _, _, rfl, rfl, q1 _, turn_dot k0 k4, r⟩
      · exact ⟨aT, _, .inr "|", _, rfl, mT, rfl, rfl, _, hσ, a, _, _, _, rfl, rfl, SqT.of h2, rfl, t2, _, _, _, rfl, rfl, q2 _, turn_bar k0 k4, r⟩
      · exact ⟨aT, _, .inr "-", _, rfl, mT, rfl, rfl, _, hσ, a, _, _, _, rfl, rfl, SqT.of h2, rfl, t3, _, _, _, rfl, rfl, q3 _, turn_dash k0 k4, r⟩
    refine ⟨_, rfl, ?_⟩
    refine ⟨_, rfl, _, rfl, lv, rfl, rfl, _, rfl, ?_⟩
    by_cases ew : x = wallS lv
    · refine iteNS (congrArg V.str ew) ?_
      refine ⟨_, rfl, a, _, _, _, rfl, rfl, SqT.of ha1, rfl, _, rfl, a, _, _, _, rfl, rfl, SqT.of ha1, rfl, _, rfl, corner rfl ha1 ⟨(by show 3 ≤ sizeLine; decide), fun t ht => ?_⟩⟩
      refine k t _ (sm.free ht) (Same.new sm ht) ?_
      have e : ledM wd hg kvs q lv = ⟨q.c, q.r, turnM x q.k⟩ := by unfold ledM; rw [hX, if_pos ew, ew]
      rw [upd_same, e]
      rfl
    · rw [decide_eq_false (fun z => ew (V.str.inj z))]
      refine iteT ?_
      refine ⟨_, rfl, _, rfl, a, q, lv, rfl, ha1, fun t2 H2 n2 s2 h2 => ?_⟩
      refine ⟨_, rfl, t2, _, _, _, rfl, rfl, SqT.of h2, rfl, _, rfl, t2, _, _, _, rfl, rfl, SqT.of h2, rfl, _, rfl, corner rfl (s2 _ _ ha1) ⟨(by show 3 ≤ sizeLine; decide), fun t ht => ?_⟩⟩
      refine k t _ ((sm.trans s2).free ht) (Same.new (sm.trans s2) ht) ?_
      have e : ledM wd hg kvs q lv = ⟨nbC q.c q.k lv, nbR q.r q.k lv, turnM x q.k⟩ := by unfold ledM; rw [hX, if_neg ew]
      rw [upd_same, e]
      rfl
def spQs (C : Addr) : Sp := fun vs H Q _ => ∃ (p : Addr) (w h : Nat) (kvs : List (List Key × V)), vs = [.ref p] ∧ BoardAt C H p w h kvs ∧ ∀ (l : Addr) (xs : List V) (H' : Hp), H l = none → H' l = some (.lst xs) → TL H' xs ((quartersM w h).map Qr.key) → Same H H' → Q (.ref l) H'
theorem sc_quarters : FnScope ["board", "found", "row", "column"] ["board"] (defScope s_quarters) := ⟨rfl, rfl, rfl, by decide +kernel, rfl, by decide +kernel, by decide +kernel⟩
theorem ok_quarters {f : Addr} {fd : FuncData} (F : Fun K "quarters" "quarters" s_quarters f fd) (T : Txt K mg C) : FnOk P w K mg base CX0 1 f fd ["board"] (spQs C) := by
  refine F.okq sc_quarters (fun vs H Q E h => ?_) (fun cdv A outer s H vs Q E hr h => ?_)
  · obtain ⟨p, wd, hg, kvs, rfl, _⟩ := h
    rfl
  · obtain ⟨p, wd, hg, kvs, rfl, B, k⟩ := h
    obtain ⟨⟨dx, d, o1, o2⟩, sz, tb⟩ := id B
    obtain ⟨w1, w2, h1, h2, wh⟩ := id sz
    refine ⟨_, qss_cons (ps_set (i := 1) sc_quarters.nd rfl (Or.inl rfl) (pe_lst pa_nil))
      (qss_cons (ps_forq PassesOwn.never rfl (pi_range1 rfl T.range (pa (pe_fld (pv 0) rfl) pa_nil)) (pg_name (i := 2) sc_quarters.nd rfl (Or.inr rfl))
        (qss_one (ps_forq PassesOwn.never rfl (pi_range1 rfl T.range (pa (pe_fld (pv 0) rfl) pa_nil)) (pg_name (i := 3) sc_quarters.nd rfl (Or.inr rfl))
          (qss_one (ps_expr (pe_bm PySem.F.plainAttrs_list PySem.F.slot_list_extend PySem.F.type_list_extend mt_extend (pv 1) (pa
            (pe_comp (x := "corner") (fvs := [("column", 3), ("row", 2)]) rfl rfl rfl (by decide +kernel) (by decide +kernel) rfl ⟨rfl, rfl, trivial⟩ rfl ⟨⟨rfl, rfl, rfl⟩, ⟨rfl, rfl, rfl⟩, trivial⟩ (by decide +kernel)
              (pi_range1 rfl T.range (pa pe_int pa_nil)) (fun C' s' H' fp => pe_tup (pa (pv 1) (pa (pv 2) (pa (pv 0) pa_nil))))) pa_nil)))))))
      (qss_one (ps_ret (pv 1)))), ?_⟩
    refine ⟨Nat.zero_le _, fun l hl => ?_⟩
    have s0 : Same H (upd H l (.lst [])) := Same.new (Same.refl H) hl
    refine ⟨_, rfl, p, C, dx, _, _, rfl, s0 _ _ o1, T.cl, T.nH, flds_high _ _ _, (hg : Int), rfl, by omega, by omega, for_range (n := hg) (fun i σ H2 => ∃ (xs : List V) (v2 v3 : Option V), σ = [some (.ref p), some (.ref l), v2, v3] ∧ i ≤ hg ∧ H2 l = some (.lst xs) ∧ TL H2 xs ((qTo wd i).map Qr.key) ∧ Same H H2)
      ⟨[], none, none, rfl, Nat.zero_le _, upd_same, .nil, s0⟩ ?_ ?_⟩
    · rintro i σ H2 hi ⟨xs, v2, v3, rfl, _, hL, tl, sm⟩
      refine ⟨_, rfl, p, C, dx, _, _, rfl, sm _ _ o1, T.cl, T.nW, flds_wide _ _ _, (wd : Int), rfl, by omega, by omega, for_range (n := wd) (fun j σ H3 => ∃ (xs : List V) (v3 : Option V), σ = [some (.ref p), some (.ref l), some (.int i), v3] ∧ j ≤ wd ∧ H3 l = some (.lst xs) ∧ TL H3 xs ((qTo wd i ++ qRow i j).map Qr.key) ∧ Same H H3)
        ⟨xs, v3, by rw [Int.zero_add]; rfl, Nat.zero_le _, hL, by simpa [qRow] using tl, sm⟩ ?_ ?_⟩
      · rintro j σ H3 hj ⟨xs, v3, rfl, _, hL, tl, sm⟩
        rw [Int.zero_add]
        have hlen : xs.length ≤ 200 := by
          have e1 := tl.length
          rw [List.length_map, List.length_append, qTo_len, qRow_len] at e1
          have e4 : i * wd ≤ hg * wd := Nat.mul_le_mul_right _ (Nat.le_of_lt hi)
          have e5 : hg * wd = wd * hg := Nat.mul_comm _ _
          omega
        refine ⟨_, rfl, .inl ⟨rfl, _, SqL.of hL⟩, 4, rfl, by decide, by decide, fun D hD => ?_⟩
        have nlD : l ≠ D := ne_of_none hL hD
        refine ⟨fun i' m ys H4 => m = 4 - i' ∧ i' ≤ 4 ∧ H4 D = some (.lst ys) ∧ TL H4 ys (((four j i).take i').map Qr.key) ∧ Same H3 H4, ⟨4, rfl, Nat.zero_le _, upd_same, .nil, Same.new (Same.refl H3) hD⟩, ?_⟩
        rintro i' m ys H4 ⟨rfl, hi', hD4, tl4, s4⟩
        refine ⟨hD4, ?_⟩
        by_cases hlt : i' < 4
        · refine .inr ⟨hlt, ?_, ?_⟩
          · have := tl4.length
            rw [List.length_map, List.length_take] at this
            exact small1000 (by omega)
          · rintro x H5 ⟨e5, rfl⟩
            rw [e5, Int.zero_add]
            refine ⟨_, rfl, _, rfl, _, rfl, (by show 3 ≤ sizeLine; decide), fun t ht => ?_⟩
            have ntD : D ≠ t := ne_of_none hD4 ht
            have hD5 : (upd H4 t (.tup [.int j, .int i, .int i'])) D = some (.lst ys) := by rw [upd_ne ntD]; exact hD4
            refine ⟨hD5, 4 - (i' + 1), by omega, rfl, hlt, upd_same, ?_, ?_⟩
            · have e6 : ((four j i).take (i' + 1)).map Qr.key = ((four j i).take i').map Qr.key ++ [[.inl (j : Int), .inl (i : Int), .inl (i' : Int)]] := by
                have h4 : i' = 0 ∨ i' = 1 ∨ i' = 2 ∨ i' = 3 := by omega
                rcases h4 with rfl | rfl | rfl | rfl <;> rfl
              rw [e6]
              refine (tl4.keep (Tk.lst (Tk.new (Tk.refl _) ht) hD5)).snoc ⟨t, rfl, ?_⟩
              rw [upd_ne ntD.symm, upd_same]
              rfl
            · intro b o e
              rw [upd_ne (fun z => by subst z; rw [hD] at e; cases e), upd_ne (ne_of_none (s4 b o e) ht)]
              exact s4 b o e
        · have e4 : i' = 4 := by omega
          subst e4
          refine .inl ⟨Nat.le_refl _, ?_⟩
          have hL4 : H4 l = some (.lst xs) := s4 _ _ hL
          refine ⟨l, D, xs, ys, rfl, rfl, hL4, hD4, ?_, ?_⟩
          · have := tl4.length
            rw [List.length_map, List.length_take] at this
            exact Nat.le_of_lt (small1000 (by omega))
          · refine ⟨_, _, rfl, hj, upd_same, ?_, Same.own (sm.trans s4) hl⟩
            rw [qRow_succ, ← List.append_assoc, List.map_append]
            exact ((tl.keep (Tk.of s4)).append tl4).keep (Tk.lst (Tk.refl _) hL4)
      · rintro σ H3 ⟨xs, v3, rfl, _, hL, tl, sm⟩
        exact ⟨xs, _, _, rfl, hi, hL, by rw [qTo_succ]; exact tl, sm⟩
    · rintro σ H2 ⟨xs, v2, v3, rfl, _, hL, tl, sm⟩
      exact ⟨_, rfl, k l xs H2 hl hL (by rw [quarters_eq]; exact tl) sm⟩
def spLine (C : Addr) : Sp := fun vs H Q _ => ∃ (p a : Addr) (w h : Nat) (kvs : List (List Key × V)) (q : Qr), vs = [.ref p, .ref a] ∧ BoardAt C H p w h kvs ∧ q.on w h ∧ H a = some (.tup [.int q.c, .int q.r, .int q.k]) ∧
  ∀ (l : Addr) (xs : List V) (H' : Hp), H l = none → H' l = some (.lst xs) → TL H' xs ((lineM w h kvs q).map Qr.key) → Same H H' → Q (.ref l) H'
theorem sc_line_from : FnScope ["board", "first", "line", "level", "quarter"] ["board", "first"] (defScope s_line_from) := ⟨rfl, rfl, rfl, by decide +kernel, rfl, by decide +kernel, by decide +kernel⟩
theorem ok_line_from {f : Addr} {fd : FuncData} (F : Fun K "line_from" "line_from" s_line_from f fd) (T : Txt K mg C) (DL : DefAt P w K mg base 4 "led" ["board", "quarter", "level"] (spLed C)) : FnOk P w K mg base CX0 5 f fd ["board", "first"] (spLine C) := by
  refine F.okq sc_line_from (fun vs H Q E h => ?_) (fun cdv A outer s H vs Q E hr h => ?_)
  · obtain ⟨p, a, wd, hg, kvs, q, rfl, _⟩ := h
    rfl
  · obtain ⟨p, a, wd, hg, kvs, q, rfl, B, hq, ha, k⟩ := h
    obtain ⟨n, Pn, hn⟩ := per_of B.sz B.tb hq
    have hmem : ∀ i, (pathG (ledM wd hg kvs) q i).on wd hg := fun i => (mem_quarters B.sz.1).mp (path_on (inv2 B.sz.1 B.tb) ((mem_quarters B.sz.1).mpr hq) i)
    refine ⟨_, qss_cons (ps_set (i := 2) sc_line_from.nd rfl (Or.inl rfl) (pe_lst (pa (pv 1) pa_nil)))
      (qss_cons (ps_set (i := 3) sc_line_from.nd rfl (Or.inl rfl) pe_bl)
      (qss_cons (ps_set (i := 4) sc_line_from.nd rfl (Or.inl rfl) (pe_def DL hr (pa (pv 0) (pa (pv 1) (pa (pv 3) pa_nil)))))
      (qss_cons (ps_whileq PassesOwn.never (pt_cmpR (op_neD hr.units) (pv 4) (pv 1) (nomark _))
        (qss_cons (ps_expr (pe_bm PySem.F.plainAttrs_list PySem.F.slot_list_append PySem.F.type_list_append mt_append (pv 2) (pa (pv 4) pa_nil)))
        (qss_cons (ps_set (i := 3) sc_line_from.nd rfl (Or.inl rfl) (pe_not (pv 3)))
        (qss_one (ps_set (i := 4) sc_line_from.nd rfl (Or.inl rfl) (pe_def DL hr (pa (pv 0) (pa (pv 4) (pa (pv 3) pa_nil)))))))))
      (qss_one (ps_ret (pv 2)))))), ?_⟩
    refine ⟨_, rfl, (by show 1 ≤ sizeLine; decide), fun l hl => ?_⟩
    have s0 : Same H (upd H l (.lst [.ref a])) := Same.new (Same.refl H) hl
    refine ⟨_, rfl, _, rfl, _, rfl, p, a, wd, hg, kvs, q, true, rfl, B.keep s0, hq, s0 _ _ ha, fun t H1 nt s1 ht => ?_⟩
    have ha1 := s1 _ _ (s0 _ _ ha)
    have tl1 : TL H1 [.ref a] (((List.range (0 + 1)).map (pathG (ledM wd hg kvs) q)).map Qr.key) := .cons ⟨a, rfl, ha1⟩ .nil
    refine while_by (fun σ H2 => ∃ (i : Nat) (xs : List V) (t : Addr), σ = [some (.ref p), some (.ref a), some (.ref l), some (.bl (i % 2 == 0)), some (.ref t)] ∧ i + 1 ≤ n ∧ H2 l = some (.lst xs) ∧ TL H2 xs (((List.range (i + 1)).map (pathG (ledM wd hg kvs) q)).map Qr.key) ∧
        H2 t = some (.tup ((pathG (ledM wd hg kvs) q (i + 1)).key.map kV)) ∧ Same H H2)
      (fun σ H2 => n - (match H2 l with | some (.lst xs) => xs.length | _ => 0)) ⟨0, [.ref a], t, rfl, Pn.pos, s1 _ _ upd_same, tl1, ht, s0.trans s1⟩ ?_ ?_
    · rintro σ H2 ⟨i, xs, t, rfl, hi, hL, tl, ht, sm⟩
      have ha2 : H2 a = some (.tup (q.key.map kV)) := sm _ _ ha
      have hxl : xs.length = i + 1 := by rw [tl.length, List.length_map, List.length_map, List.length_range]
      refine ⟨_, rfl, _, rfl, tD (pathG (ledM wd hg kvs) q (i + 1)).key, tD q.key, TupIs.rdv ⟨t, rfl, ht⟩, TupIs.rdv ⟨a, rfl, ha2⟩, lay_tD (Qr.key_ok _), lay_tD (Qr.key_ok _), by rw [depth_tD]; decide, _, rfl, ?_⟩
      rw [eqv_tD, dec_key]
      by_cases e : pathG (ledM wd hg kvs) q (i + 1) = q
      · rw [decide_eq_true e]
        refine iteF ?_
        have ein : i + 1 = n := by
          rcases Nat.lt_or_ge (i + 1) n with h | h
          · exact absurd e (Pn.min _ (Nat.succ_pos _) h)
          · omega
        refine ⟨_, rfl, k l xs H2 hl hL ?_ sm⟩
        unfold lineM
        rw [line_path Pn hn, ← ein]
        exact tl
      · rw [decide_eq_false e]
        refine iteT ?_
        have hlt : i + 1 < n := by
          rcases Nat.lt_or_ge (i + 1) n with h | h
          · exact h
          · exact absurd (by rw [show i + 1 = n by omega]; exact Pn.back) e
        refine ⟨_, rfl, .inl ⟨rfl, _, SqL.of hL⟩, _, rfl, l, xs, _, rfl, rfl, hL, small1000 (by omega), ?_⟩
        have ht3 : (upd H2 l (.lst (xs ++ [.ref t]))) t = some (.tup ((pathG (ledM wd hg kvs) q (i + 1)).key.map kV)) := by
          rw [upd_ne (ne_of ht hL (fun z => nomatch z))]
          exact ht
        have sm3 : Same H (upd H2 l (.lst (xs ++ [.ref t]))) := Same.own sm hl
        refine ⟨_, rfl, _, rfl, ?_⟩
        refine ⟨_, rfl, _, rfl, _, rfl, p, t, wd, hg, kvs, pathG (ledM wd hg kvs) q (i + 1), !(i % 2 == 0), rfl, B.keep sm3, hmem _, ht3, fun t2 H4 n2 s4 h4 => ?_⟩
        have hL4 : H4 l = some (.lst (xs ++ [.ref t])) := s4 _ _ upd_same
        refine ⟨⟨i + 1, xs ++ [.ref t], t2, by rw [flip_even]; rfl, hlt, hL4, ?_, ?_, sm3.trans s4⟩, ?_⟩
        · rw [List.range_succ, List.map_append, List.map_append]
          exact (tl.keep ((Tk.lst (Tk.refl _) hL).trans (Tk.of s4))).snoc ⟨t, rfl, s4 _ _ ht3⟩
        · rw [h4, flip_even]
          rfl
        · show n - (match H4 l with | some (.lst xs) => xs.length | _ => 0) < n - (match H2 l with | some (.lst xs) => xs.length | _ => 0)
          rw [hL4, hL]
          show n - (xs ++ [V.ref t]).length < n - xs.length
          rw [List.length_append, List.length_singleton]
          omega
    · rintro σ H2 Q1 Q2 hm ⟨v, h1, w', h2, d1, d2, r1, r2, r3, r4, r5, b, r6, r7⟩
      exact ⟨v, h1, w', h2, d1, d2, r1, r2, r3, r4, r5, b, r6, hm _ _ r7⟩
def LineIs (H : Hp) (l : Addr) (x : V) (line : List Qr) : Prop := ∃ a ys, x = V.ref a ∧ a ≠ l ∧ H a = some (.lst ys) ∧ TL H ys (line.map Qr.key)
def LL (H : Hp) (l : Addr) (xs : List V) (ls : List (List Qr)) : Prop := Paired (LineIs H l) xs ls
theorem LL.keep {H H' : Hp} {l : Addr} {xs : List V} {ls : List (List Qr)} (h : LL H l xs ls) (k : ∀ b ys, H b = some (.lst ys) → b ≠ l → H' b = some (.lst ys)) (t : Tk H H') : LL H' l xs ls :=
  Paired.mapP h fun _ _ ⟨a, ys, e, n, h1, h2⟩ => ⟨a, ys, e, n, k a ys h1 n, h2.keep t⟩
theorem LL.snoc : ∀ {H : Hp} {l : Addr} {xs : List V} {ls : List (List Qr)} {x : V} {line : List Qr}, LL H l xs ls → LineIs H l x line → LL H l (xs ++ [x]) (ls ++ [line])
  | _, _, _, _, _, _, .nil, h => .cons h .nil
  | _, _, _, _, _, _, .cons a t, h => .cons a (LL.snoc t h)
theorem LL.length {H : Hp} {l : Addr} {xs : List V} {ls : List (List Qr)} (h : LL H l xs ls) : xs.length = ls.length := Paired.length h
theorem LL.mem {H : Hp} {l : Addr} : ∀ {xs : List V} {ls : List (List Qr)} {x : V}, LL H l xs ls → x ∈ xs → ∃ a ys, x = V.ref a ∧ H a = some (.lst ys)
  | _, _, _, .nil, h => by cases h
  | _, _, x, .cons b t, h => by
    rcases List.mem_cons.mp h with e | h
    · obtain ⟨a, ys, e1, _, h1, _⟩ := b
      exact ⟨a, ys, e.trans e1, h1⟩
    · exact LL.mem t h
theorem LL.at : ∀ {H : Hp} {l : Addr} {xs : List V} {ls : List (List Qr)} {i : Nat} {x : V}, LL H l xs ls → xs[i]? = some x → ∃ ln, ls[i]? = some ln ∧ LineIs H l x ln
  | _, _, _, _, _, _, .nil, e => by simp at e
  | _, _, _, _, 0, _, .cons a t, e => by simp at e; subst e; exact ⟨_, rfl, a⟩
  | _, _, _, _, i + 1, x, .cons a t, e => by
    obtain ⟨k, h1, h2⟩ := LL.at (i := i) (x := x) t (by simpa using e)
    exact ⟨k, by simpa using h1, h2⟩
def spLines (C : Addr) : Sp := fun vs H Q _ => ∃ (p : Addr) (w h : Nat) (kvs : List (List Key × V)), vs = [.ref p] ∧ BoardAt C H p w h kvs ∧
  ∀ (l : Addr) (xs : List V) (H' : Hp), H l = none → H' l = some (.lst xs) → LL H' l xs (linesM w h kvs) → xs.Nodup → (∀ x ∈ xs, ∃ a, x = V.ref a ∧ H a = none) → Same H H' → Q (.ref l) H'
theorem sc_lines : FnScope ["board", "found", "seen", "first", "line", "quarter"] ["board"] (defScope s_lines) := ⟨rfl, rfl, rfl, by decide +kernel, rfl, by decide +kernel, by decide +kernel⟩
theorem line_len {w h : Nat} {kvs : List (List Key × V)} (s : okSize w h) (t : Tab w h kvs) {q : Qr} (hq : q.on w h) : (lineM w h kvs q).length ≤ 288 := by
  obtain ⟨n, Pn, hn⟩ := per_of s t hq
  unfold lineM
  rw [line_path Pn hn, List.length_map, List.length_range]
  exact hn
theorem ok_lines {f : Addr} {fd : FuncData} (F : Fun K "lines" "lines" s_lines f fd) (T : Txt K mg C) (DQ : DefAt P w K mg base 1 "quarters" ["board"] (spQs C)) (DF : DefAt P w K mg base 5 "line_from" ["board", "first"] (spLine C)) : FnOk P w K mg base CX0 6 f fd ["board"] (spLines C) := by
  refine F.okq sc_lines (fun vs H Q E h => ?_) (fun cdv A outer s H vs Q E hr h => ?_)
  · obtain ⟨p, wd, hg, kvs, rfl, _⟩ := h
    rfl
  · obtain ⟨p, wd, hg, kvs, rfl, B, k⟩ := h
    have hu := hu_of hr
    refine ⟨_, qss_cons (ps_set (i := 1) sc_lines.nd rfl (Or.inl rfl) (pe_lst pa_nil))
      (qss_cons (ps_set (i := 2) sc_lines.nd rfl (Or.inl rfl) pe_dnewT)
      (qss_cons (ps_forq PassesOwn.never rfl (pi_list (pe_def DQ hr (pa (pv 0) pa_nil))) (pg_name (i := 3) sc_lines.nd rfl (Or.inl rfl))
        (qss_one (ps_ifq (pt_cmp (pc_dnotin hu (pv 3) (pv 2)))
          (qss_cons (ps_set (i := 4) sc_lines.nd rfl (Or.inl rfl) (pe_def DF hr (pa (pv 0) (pa (pv 3) pa_nil))))
          (qss_cons (ps_forq PassesOwn.never rfl (pi_list (pv 4)) (pg_name (i := 5) sc_lines.nd rfl (Or.inl rfl)) (qss_one (ps_dput hu (pv 2) (pv 5) pe_bl rfl)))
          (qss_one (ps_expr (pe_bm PySem.F.plainAttrs_list PySem.F.slot_list_append PySem.F.type_list_append mt_append (pv 1) (pa (pv 4) pa_nil)))))) qss_nil)))
      (qss_one (ps_ret (pv 1))))), ?_⟩
    refine ⟨Nat.zero_le _, fun l hl => ?_⟩
    intro d hd
    have nld : l ≠ d := fun e => by rw [← e, upd_same] at hd; cases hd
    have hd0 : H d = none := by rw [upd_ne nld.symm] at hd; exact hd
    generalize hH0 : upd (upd H l (HO.lst [])) d (HO.dT []) = H0
    have s0 : Same H H0 := by rw [← hH0]; exact Same.new (Same.new (Same.refl H) hl) hd
    have l0 : H0 l = some (.lst []) := by rw [← hH0, upd_ne nld]; exact upd_same
    have d0 : H0 d = some (.dT []) := by rw [← hH0]; exact upd_same
    refine ⟨_, rfl, p, wd, hg, kvs, rfl, B.keep s0, fun lq qs H1 nlq hLq tlq s1 => ?_⟩
    have nql : lq ≠ l := fun e => by rw [e, l0] at nlq; cases nlq
    have nqd : lq ≠ d := fun e => by rw [e, d0] at nlq; cases nlq
    have hqn : qs.length ≤ 144 := by
      rw [tlq.length, List.length_map, quarters_len]
      have := B.sz.2.2.2.2
      have : 4 * wd * hg = 4 * (wd * hg) := Nat.mul_assoc _ _ _
      omega
    refine ⟨lq, rfl, ⟨_, SqL.of hLq⟩, for_list (K := K) (a := lq) (xs := qs) (fun i σ H2 => ∃ (xs : List V) (ks : List (List Key × V)) (v3 v4 v5 : Option V), σ = [some (.ref p), some (.ref l), some (.ref d), v3, v4, v5] ∧ H2 l = some (.lst xs) ∧ H2 d = some (.dT ks) ∧
        LL H2 l xs (((quartersM wd hg).take i).foldl (linesStep (ledM wd hg kvs) 288) []) ∧ xs.Nodup ∧ (∀ x ∈ xs, ∃ a, x = V.ref a ∧ H1 a = none) ∧ xs.length ≤ i ∧
        (∀ q : Qr, (valV ks q.key).isSome = (((quartersM wd hg).take i).foldl (linesStep (ledM wd hg kvs) 288) []).any fun ln => decide (q ∈ ln)) ∧ ks.length ≤ 288 * i ∧ (∀ b o, H1 b = some o → b ≠ l → b ≠ d → H2 b = some o))
      ⟨[], [], none, none, none, rfl, s1 _ _ l0, s1 _ _ d0, .nil, List.nodup_nil, (fun x hx => by cases hx), Nat.zero_le _, fun q => rfl, Nat.zero_le _, fun _ _ e _ _ => e⟩ (fun i σ H2 _ ⟨_, _, _, _, _, _, _, _, _, _, _, _, _, _, z⟩ => SqL.of (z lq _ hLq nql nqd)) ?_ ?_⟩
    · rintro i x σ H2 hi ⟨xs, ks, v3, v4, v5, rfl, c1, c2, c3, cn, cf, cl, c4, c5, c6⟩
      have hil : i < qs.length := (List.getElem?_eq_some_iff.mp hi).1
      obtain ⟨kd, ek, ta, rfl, hta⟩ := tlq.at hi
      rw [List.getElem?_map] at ek
      obtain ⟨q, hq, rfl⟩ := Option.map_eq_some_iff.mp ek
      have hon : q.on wd hg := (mem_quarters B.sz.1).mp (List.mem_of_getElem? hq)
      have hH1l : H1 l = some (.lst []) := s1 _ _ l0
      have hH1d : H1 d = some (.dT []) := s1 _ _ d0
      have s2 : Same H H2 := fun b o e => c6 b o (s1 _ _ (s0 _ _ e)) (ne_of_none e hl) (ne_of_none e hd0)
      have hta2 : H2 ta = some (.tup (q.key.map kV)) := c6 ta _ hta (ne_of hta hH1l (fun z => nomatch z)) (ne_of hta hH1d (fun z => nomatch z))
      have efold : ((quartersM wd hg).take (i + 1)).foldl (linesStep (ledM wd hg kvs) 288) [] = linesStep (ledM wd hg kvs) 288 (((quartersM wd hg).take i).foldl (linesStep (ledM wd hg kvs) 288) []) q := by
        rw [List.take_add_one, hq, Option.toList_some, List.foldl_append]
        rfl
      generalize hF : ((quartersM wd hg).take i).foldl (linesStep (ledM wd hg kvs) 288) [] = F0 at c3 c4 efold
      refine ⟨_, rfl, _, rfl, d, _, rfl, DGet.t c2 hta2, _, rfl, ?_⟩
      rw [c4 q]
      by_cases hs : (F0.any fun ln => decide (q ∈ ln)) = true
      · rw [hs]
        refine iteF ?_
        have e1 : linesStep (ledM wd hg kvs) 288 F0 q = F0 := by unfold linesStep; rw [if_pos hs]
        rw [e1] at efold
        exact ⟨xs, ks, _, _, _, rfl, c1, c2, by rw [efold]; exact c3, cn, cf, by omega, by rw [efold]; exact c4, by omega, c6⟩
      · have hs' : (F0.any fun ln => decide (q ∈ ln)) = false := by simpa using hs
        rw [hs']
        refine iteT ?_
        have e1 : linesStep (ledM wd hg kvs) 288 F0 q = F0 ++ [lineM wd hg kvs q] := by unfold linesStep; rw [if_neg hs]; rfl
        rw [e1] at efold
        refine ⟨_, rfl, _, rfl, p, ta, wd, hg, kvs, q, rfl, B.keep s2, hon, hta2, fun la ys H3 nla hLa tla s3 => ?_⟩
        have nal : la ≠ l := fun e => by rw [e, c1] at nla; cases nla
        have nad : la ≠ d := fun e => by rw [e, c2] at nla; cases nla
        have nla1 : H1 la = none := by
          cases z : H1 la with
          | none => rfl
          | some o => rw [c6 la o z nal nad] at nla; cases nla
        have hlen := line_len B.sz B.tb hon
        have hyl : ys.length ≤ 288 := by rw [tla.length, List.length_map]; exact hlen
        generalize hLn : lineM wd hg kvs q = ln at tla efold
        refine ⟨_, rfl, la, rfl, ⟨_, SqL.of hLa⟩, for_list (K := K) (a := la) (xs := ys) (fun j σ H4 => ∃ (kt : List (List Key × V)) (v5 : Option V), σ = [some (.ref p), some (.ref l), some (.ref d), some (.ref ta), some (.ref la), v5] ∧ H4 d = some (.dT kt) ∧
            (∀ z : Qr, (valV kt z.key).isSome = ((valV ks z.key).isSome || decide (z ∈ ln.take j))) ∧ kt.length ≤ ks.length + j ∧ (∀ b o, H3 b = some o → b ≠ d → H4 b = some o))
          ⟨ks, v5, rfl, s3 _ _ c2, fun z => by simp, Nat.le_refl _, fun _ _ e _ => e⟩ (fun j σ H4 _ ⟨_, _, _, _, _, _, z⟩ => SqL.of (z la _ hLa nad)) ?_ ?_⟩
        · rintro j y σ H4 hj ⟨kt, v5, rfl, g1, g2, g3, g4⟩
          obtain ⟨kz, ez, tz, rfl, htz⟩ := tla.at hj
          rw [List.getElem?_map] at ez
          obtain ⟨z0, hz0, rfl⟩ := Option.map_eq_some_iff.mp ez
          have htz4 : H4 tz = some (.tup (z0.key.map kV)) := g4 tz _ htz (ne_of htz (s3 _ _ c2) (fun z => nomatch z))
          have hjl : j < ys.length := (List.getElem?_eq_some_iff.mp hj).1
          refine ⟨_, rfl, _, rfl, d, _, rfl, DPut.t g1 htz4 (lt_line (by omega)), ?_⟩
          refine ⟨_, _, rfl, upd_same, fun z => ?_, ?_, fun b o e n => by rw [upd_ne n]; exact g4 b o e n⟩
          · rw [valV_put, List.take_add_one, hz0, Option.toList_some]
            by_cases hk : z.key = z0.key
            · rw [if_pos hk]
              have : z = z0 := Qr.key_inj hk
              subst this
              simp
            · rw [if_neg hk, g2 z]
              have hne : ¬ z = z0 := fun e => hk (by rw [e])
              congr 1
              simp [hne]
          · have := length_putK kt z0.key (V.bl true)
            omega
        · rintro σ H4 ⟨kt, v5, rfl, g1, g2, g3, g4⟩
          have h4l : H4 l = some (.lst xs) := g4 l _ (s3 _ _ c1) nld
          have h4a : H4 la = some (.lst ys) := g4 la _ hLa nad
          refine ⟨_, rfl, .inl ⟨rfl, _, SqL.of h4l⟩, _, rfl, l, xs, _, rfl, rfl, h4l, lt_line (by omega), ?_⟩
          have t34 : Tk H3 H4 := fun b zs e => g4 b _ e (ne_of e (s3 _ _ c2) (fun z => nomatch z))
          have t4 : Tk H4 (upd H4 l (.lst (xs ++ [.ref la]))) := Tk.lst (Tk.refl _) h4l
          have kp : ∀ b zs, H2 b = some (.lst zs) → b ≠ l → (upd H4 l (.lst (xs ++ [.ref la]))) b = some (.lst zs) := fun b zs e n => by
            rw [upd_ne n]
            exact g4 b _ (s3 _ _ e) (ne_of (s3 _ _ e) (s3 _ _ c2) (fun z => nomatch z))
          refine ⟨xs ++ [.ref la], kt, _, _, _, rfl, upd_same, by rw [upd_ne nld.symm]; exact g1, ?_, ?_, ?_, ?_, ?_, ?_, fun b o e n1 n2 => ?_⟩
          · rw [efold]
            refine (c3.keep kp ((Tk.of s3).trans (t34.trans t4))).snoc ⟨la, ys, rfl, nal, by rw [upd_ne nal]; exact h4a, tla.keep (t34.trans t4)⟩
          · refine List.nodup_append.mpr ⟨cn, by simp, fun u hu v hv e => ?_⟩
            have hv' : v = V.ref la := by simpa using hv
            rw [e, hv'] at hu
            obtain ⟨a', zs, e', h'⟩ := c3.mem hu
            cases e'
            rw [h'] at nla
            cases nla
          · intro u hu
            rcases List.mem_append.mp hu with hu | hu
            · exact cf u hu
            · cases List.mem_singleton.mp hu
              exact ⟨la, rfl, nla1⟩
          · rw [List.length_append, List.length_singleton]; omega
          · intro z
            rw [g2 z, c4 z, efold, List.any_append, show ys.length = ln.length by rw [tla.length, List.length_map], List.take_length]
            simp
          · omega
          · rw [upd_ne n1]
            exact g4 b o (s3 _ _ (c6 b o e n1 n2)) n2
    · rintro σ H2 ⟨xs, ks, v3, v4, v5, rfl, c1, c2, c3, cn, cf, cl, c4, c5, c6⟩
      refine ⟨_, rfl, k l xs H2 hl c1 ?_ cn ?_ fun b o e => c6 b o (s1 _ _ (s0 _ _ e)) (ne_of_none e hl) (ne_of_none e hd0)⟩
      · rw [show qs.length = (quartersM wd hg).length by rw [tlq.length, List.length_map], List.take_length] at c3
        exact c3
      · intro x hx
        obtain ⟨a, rfl, ha⟩ := cf x hx
        exact ⟨a, rfl, (s0.trans s1).free ha⟩
def spCell (K : PySem.W.Frag) : Sp := fun vs H Q _ => ∃ (a : Addr) (ns : List Int) (n : Int), vs = [.ref a, .int n] ∧ 0 ≤ n ∧ n < 1000 ∧ SqL K H a (ns.map V.int) ∧ ∀ z : Int, Q (.int z) H
theorem sc_law_cell_at : FnScope ["script", "k"] ["script", "k"] (defScope s_law_cell_at) := ⟨rfl, rfl, rfl, by decide +kernel, rfl, by decide +kernel, by decide +kernel⟩
theorem ok_law_cell_at {f : Addr} {fd : FuncData} (F : Fun K "_law_cell_at" "_law_cell_at" s_law_cell_at f fd) (T : Txt K mg C) : FnOk P w K mg base CX0 1 f fd ["script", "k"] (spCell K) := by
  refine F.okq sc_law_cell_at (fun vs H Q E h => ?_) (fun cdv A outer s H vs Q E hr h => ?_)
  · obtain ⟨a, ns, n, rfl, _⟩ := h
    rfl
  · obtain ⟨a, ns, n, rfl, h0, h1, hS, k⟩ := h
    refine ⟨_, qss_cons (ps_ifq (pt_cmpR op_lt (pv 1) (pe_cb call_len_seq (by rfl) T.len PySem.boot_len (pa (pv 0) pa_nil)) (nomark _)) (qss_one (ps_ret (pe_ix ix_list (pv 0) (pv 1) (fun _ _ => rfl)))) qss_nil)
      (qss_one (ps_ret pe_int)), ?_⟩
    refine ⟨_, rfl, _, rfl, a, _, rfl, .inl hS, _, _, rfl, rfl, _, rfl, ?_⟩
    refine ite2 (fun c => ?_) (fun c => ?_)
    · have c := of_decide_eq_true c
      obtain ⟨m, rfl⟩ := Int.eq_ofNat_of_zero_le h0
      rw [List.length_map] at c
      have hm : m < ns.length := by omega
      refine ⟨_, rfl, _, rfl, a, _, _, V.int ns[m], rfl, rfl, hS, atI_nat ?_, k _⟩
      rw [List.getElem?_map, List.getElem?_eq_getElem hm]
      rfl
    · exact k _
theorem c64 {x : Int} (h1 : -1000000000000 < x) (h2 : x < 1000000000000) : -(2 ^ 64) < x ∧ x < 2 ^ 64 := by omega
def spMix : Sp := fun vs H Q _ => ∃ (c n : Int), vs = [.int c, .int n] ∧ 0 ≤ n ∧ n < 1000 ∧ ∀ z : Int, Q (.int z) H
theorem sc_law_mix : FnScope ["cell", "k", "seed"] ["cell", "k"] (defScope s_law_mix) := ⟨rfl, rfl, rfl, by decide +kernel, rfl, by decide +kernel, by decide +kernel⟩
theorem ok_law_mix {f : Addr} {fd : FuncData} (F : Fun K "_law_mix" "_law_mix" s_law_mix f fd) : FnOk P w K mg base CX0 1 f fd ["cell", "k"] spMix := by
  refine F.okq sc_law_mix (fun vs H Q E h => ?_) (fun cdv A outer s H vs Q E hr h => ?_)
  · obtain ⟨a, n, rfl, _⟩ := h
    rfl
  · obtain ⟨c, n, rfl, h0, h1, k⟩ := h
    refine ⟨_, qss_cons (ps_set (i := 2) sc_law_mix.nd rfl (Or.inl rfl) (pe_op op_mod (pe_op op_add (pv 0) (pe_op op_mul pe_int (pe_op op_add (pv 1) pe_int))) pe_int))
      (qss_cons (ps_set (i := 2) sc_law_mix.nd rfl (Or.inl rfl) (pe_op op_mod (pe_op op_add (pe_op op_add (pe_op op_mul (pv 2) (pv 2)) (pe_op op_mul pe_int (pv 1))) pe_int) pe_int))
      (qss_one (ps_ret (pe_op op_mod (pe_op op_mul (pv 2) (pv 2)) pe_int)))), ?_⟩
    refine ⟨_, rfl, _, rfl, _, _, rfl, rfl, _, _, rfl, rfl, .inl (c64 (by omega) (by omega)), _, _, rfl, rfl, _, _, rfl, rfl, (by show (0 : Int) < 2147483647; omega), ?_⟩
    have m1 : ∀ x : Int, -(2 ^ 64) < x % 2147483647 ∧ x % 2147483647 < 2 ^ 64 := fun x => by omega
    have m2 : ∀ x : Int, -(2 ^ 64) < x % 2147483629 ∧ x % 2147483629 < 2 ^ 64 := fun x => by omega
    refine ⟨_, rfl, _, rfl, _, _, rfl, rfl, .inl (m1 _), _, rfl, _, _, rfl, rfl, .inl (c64 (by omega) (by omega)), _, _, rfl, rfl, _, _, rfl, rfl, _, _, rfl, rfl, (by show (0 : Int) < 2147483629; omega), ?_⟩
    refine ⟨_, rfl, _, rfl, _, _, rfl, rfl, .inl (m2 _), _, _, rfl, rfl, (by show (0 : Int) < 2147483587; omega), k _⟩
def spLawSize : Sp := fun vs H Q _ => ∃ z : Int, vs = [.int z] ∧ ∀ (t : Addr) (w h : Nat) (H' : Hp), okSize w h → Same H H' → H' t = some (.tup [.int w, .int h]) → Q (.ref t) H'
theorem sc_law_size : FnScope ["cell", "way", "more", "pair"] ["cell"] (defScope s_law_size) := ⟨rfl, rfl, rfl, by decide +kernel, rfl, by decide +kernel, by decide +kernel⟩
theorem ok_law_size {f : Addr} {fd : FuncData} (F : Fun K "_law_size" "_law_size" s_law_size f fd) : FnOk P w K mg base CX0 1 f fd ["cell"] spLawSize := by
  refine F.okq sc_law_size (fun vs H Q E h => ?_) (fun cdv A outer s H vs Q E hr h => ?_)
  · obtain ⟨z, rfl, _⟩ := h
    rfl
  · obtain ⟨z, rfl, k⟩ := h
    refine ⟨_, qss_cons (ps_set (i := 1) sc_law_size.nd rfl (Or.inl rfl) (pe_op op_mod (pv 0) pe_int))
      (qss_cons (ps_set (i := 2) sc_law_size.nd rfl (Or.inl rfl) (pe_op op_fdiv (pv 0) pe_int))
      (qss_cons (ps_ifq (pt_cmpR op_eq (pv 1) pe_int (nomark _))
        (qss_cons (ps_set (i := 3) sc_law_size.nd rfl (Or.inl rfl) (pe_ix ix_list (pe_lst (pa (pe_tup (pa pe_int (pa pe_int pa_nil))) (pa (pe_tup (pa pe_int (pa pe_int pa_nil))) (pa (pe_tup (pa pe_int (pa pe_int pa_nil))) (pa (pe_tup (pa pe_int (pa pe_int pa_nil))) pa_nil))))) (pe_op op_mod (pv 2) pe_int) (fun _ _ => rfl)))
        (qss_one (ps_ret (pe_ifExp (pt_cmpR op_eq (pe_op op_mod (pe_op op_fdiv (pv 2) pe_int) pe_int) pe_int (nomark _)) (pv 3) (pe_tup (pa (pe_ix ix_tup (pv 3) pe_int (fun _ _ => rfl)) (pa (pe_ix ix_tup (pv 3) pe_int (fun _ _ => rfl)) pa_nil))))))) qss_nil)
      (qss_cons (ps_ifq (pt_cmpR op_eq (pv 1) pe_int (nomark _)) (qss_one (ps_ret (pe_tup (pa (pe_op op_add pe_int (pe_op op_mod (pv 2) pe_int)) (pa (pe_op op_add pe_int (pe_op op_mod (pe_op op_fdiv (pv 2) pe_int) pe_int)) pa_nil))))) qss_nil)
      (qss_cons (ps_ifq (pt_cmpR op_eq (pv 1) pe_int (nomark _)) (qss_one (ps_ret (pe_tup (pa (pe_op op_add pe_int (pe_op op_mod (pv 2) pe_int)) (pa (pe_op op_add pe_int (pe_op op_mod (pe_op op_fdiv (pv 2) pe_int) pe_int)) pa_nil))))) qss_nil)
      (qss_one (ps_ret (pe_tup (pa (pe_op op_add pe_int (pe_op op_mod (pv 2) pe_int)) (pa (pe_op op_add pe_int (pe_op op_mod (pe_op op_fdiv (pv 2) pe_int) pe_int)) pa_nil))))))))), ?_⟩
    refine ⟨_, rfl, _, _, rfl, rfl, (by show (0 : Int) < 8; decide), ?_⟩
    refine ⟨_, rfl, _, _, rfl, rfl, ⟨by decide, by decide⟩, ?_⟩
    have two : ∀ (a b : Int), 1 ≤ a → a ≤ 12 → 1 ≤ b → b ≤ 12 → a * b ≤ 36 → ∀ t H1, Same H H1 → H1 t = some (.tup [.int a, .int b]) → Q (.ref t) H1 := fun a b a1 a2 b1 b2 ab t H1 s1 ht => by
      obtain ⟨x, rfl⟩ := Int.eq_ofNat_of_zero_le (show 0 ≤ a by omega)
      obtain ⟨y, rfl⟩ := Int.eq_ofNat_of_zero_le (show 0 ≤ b by omega)
      refine k t x y H1 ⟨by omega, by omega, by omega, by omega, ?_⟩ s1 ht
      have : ((x * y : Nat) : Int) ≤ 36 := by rw [Int.natCast_mul]; exact ab
      omega
    have m12 : ∀ x : Int, 0 ≤ x % 12 ∧ x % 12 < 12 := fun x => by omega
    have m3 : ∀ x : Int, 0 ≤ x % 3 ∧ x % 3 < 3 := fun x => by omega
    have m6 : ∀ x : Int, 0 ≤ x % 6 ∧ x % 6 < 6 := fun x => by omega
    have mul_le : ∀ (a b c d : Int), 0 ≤ a → a ≤ c → 0 ≤ b → b ≤ d → a * b ≤ c * d := fun a b c d h1 h2 h3 h4 => Int.mul_le_mul h2 h4 h3 (by omega)
    refine ⟨_, rfl, rfl, _, rfl, ?_⟩
    refine ite2 (fun _ => ?_) (fun _ => ?_)
    ·
      refine ⟨(by show 2 ≤ sizeLine; decide), fun t1 n1 => ⟨(by show 2 ≤ sizeLine; decide), fun t2 n2 => ⟨(by show 2 ≤ sizeLine; decide), fun t3 n3 => ⟨(by show 2 ≤ sizeLine; decide), fun t4 n4 => ⟨(by show 4 ≤ sizeLine; decide), fun l nl => ?_⟩⟩⟩⟩⟩
      generalize hH1 : upd (upd (upd (upd (upd H t1 _) t2 _) t3 _) t4 _) l _ = H1
      have s1 : Same H H1 := by rw [← hH1]; exact Same.new (Same.new (Same.new (Same.new (Same.new (Same.refl H) n1) n2) n3) n4) nl
      have e1 : H1 t1 = some (.tup [.int 7, .int 4]) := by rw [← hH1]; exact (Same.new (Same.new (Same.new (Same.new (Same.refl _) n2) n3) n4) nl) t1 _ upd_same
      have e2 : H1 t2 = some (.tup [.int 8, .int 4]) := by rw [← hH1]; exact (Same.new (Same.new (Same.new (Same.refl _) n3) n4) nl) t2 _ upd_same
      have e3 : H1 t3 = some (.tup [.int 9, .int 4]) := by rw [← hH1]; exact (Same.new (Same.new (Same.refl _) n4) nl) t3 _ upd_same
      have e4 : H1 t4 = some (.tup [.int 7, .int 5]) := by rw [← hH1]; exact (Same.new (Same.refl _) nl) t4 _ upd_same
      have el : H1 l = some (.lst [.ref t1, .ref t2, .ref t3, .ref t4]) := by rw [← hH1]; exact upd_same
      have pick : ∃ (t : Addr) (a b : Int), atI [V.ref t1, V.ref t2, V.ref t3, V.ref t4] (z / 8 % 4) = some (.ref t) ∧ H1 t = some (.tup [.int a, .int b]) ∧ 1 ≤ a ∧ a ≤ 12 ∧ 1 ≤ b ∧ b ≤ 12 ∧ a * b ≤ 36 := by
        have h4 : z / 8 % 4 = 0 ∨ z / 8 % 4 = 1 ∨ z / 8 % 4 = 2 ∨ z / 8 % 4 = 3 := by omega
        rcases h4 with e | e | e | e <;> rw [e]
        · exact ⟨t1, 7, 4, rfl, e1, by decide, by decide, by decide, by decide, by decide⟩
        · exact ⟨t2, 8, 4, rfl, e2, by decide, by decide, by decide, by decide, by decide⟩
        · exact ⟨t3, 9, 4, rfl, e3, by decide, by decide, by decide, by decide, by decide⟩
        · exact ⟨t4, 7, 5, rfl, e4, by decide, by decide, by decide, by decide, by decide⟩
      obtain ⟨t, a, b, hp, ht, a1, a2, b1, b2, ab⟩ := pick
      refine ⟨_, rfl, _, _, rfl, rfl, (by show (0 : Int) < 4; decide), l, _, _, _, rfl, rfl, SqL.of el, hp, ?_⟩
      refine ⟨_, rfl, _, _, rfl, rfl, ⟨by decide, by decide⟩, _, _, rfl, rfl, (by show (0 : Int) < 2; decide), rfl, _, rfl, ?_⟩
      refine ite2 (fun _ => ?_) (fun _ => ?_)
      · exact ⟨_, rfl, two a b a1 a2 b1 b2 ab t H1 s1 ht⟩
      · refine ⟨_, rfl, t, _, _, _, rfl, rfl, SqT.of ht, rfl, _, rfl, t, _, _, _, rfl, rfl, SqT.of ht, rfl, (by show 2 ≤ sizeLine; decide), fun t' n' => ?_⟩
        exact two b a b1 b2 a1 a2 (by rw [Int.mul_comm]; exact ab) t' _ (Same.new s1 n') upd_same
    · refine ⟨_, rfl, rfl, _, rfl, ?_⟩
      refine ite2 (fun _ => ?_) (fun _ => ?_)
      · refine ⟨_, rfl, _, _, rfl, rfl, (by show (0 : Int) < 12; decide), _, _, rfl, rfl, _, rfl, _, _, rfl, rfl, ⟨by decide, by decide⟩, _, _, rfl, rfl, (by show (0 : Int) < 3; decide), _, _, rfl, rfl, (by show 2 ≤ sizeLine; decide), fun t n => ?_⟩
        have q1 := m12 (z / 8)
        have q2 := m3 (z / 8 / 12)
        exact two _ _ (by omega) (by omega) (by omega) (by omega) (mul_le _ _ 12 3 (by omega) (by omega) (by omega) (by omega)) t _ (Same.new (Same.refl H) n) upd_same
      · refine ⟨_, rfl, rfl, _, rfl, ?_⟩
        refine ite2 (fun _ => ?_) (fun _ => ?_)
        · refine ⟨_, rfl, _, _, rfl, rfl, (by show (0 : Int) < 3; decide), _, _, rfl, rfl, _, rfl, _, _, rfl, rfl, ⟨by decide, by decide⟩, _, _, rfl, rfl, (by show (0 : Int) < 12; decide), _, _, rfl, rfl, (by show 2 ≤ sizeLine; decide), fun t n => ?_⟩
          have q1 := m3 (z / 8)
          have q2 := m12 (z / 8 / 3)
          exact two _ _ (by omega) (by omega) (by omega) (by omega) (mul_le _ _ 3 12 (by omega) (by omega) (by omega) (by omega)) t _ (Same.new (Same.refl H) n) upd_same
        · refine ⟨_, rfl, _, _, rfl, rfl, (by show (0 : Int) < 6; decide), _, _, rfl, rfl, _, rfl, _, _, rfl, rfl, ⟨by decide, by decide⟩, _, _, rfl, rfl, (by show (0 : Int) < 6; decide), _, _, rfl, rfl, (by show 2 ≤ sizeLine; decide), fun t n => ?_⟩
          have q1 := m6 (z / 8)
          have q2 := m6 (z / 8 / 6)
          exact two _ _ (by omega) (by omega) (by omega) (by omega) (mul_le _ _ 6 6 (by omega) (by omega) (by omega) (by omega)) t _ (Same.new (Same.refl H) n) upd_same
theorem sc_law_doors : FnScope ["wide", "high", "found", "row", "column"] ["wide", "high"] (defScope s_law_doors) := ⟨rfl, rfl, rfl, by decide +kernel, rfl, by decide +kernel, by decide +kernel⟩
theorem ok_law_doors {f : Addr} {fd : FuncData} (F : Fun K "_law_doors" "_law_doors" s_law_doors f fd) (T : Txt K mg C) : FnOk P w K mg base CX0 1 f fd ["wide", "high"] spDoors := by
  refine F.okq sc_law_doors (fun vs H Q E h => ?_) (fun cdv A outer s H vs Q E hr h => ?_)
  · obtain ⟨a, b, rfl, _⟩ := h
    rfl
  · obtain ⟨wd, hg, rfl, sz, k⟩ := h
    refine ⟨_, qss_cons (ps_set (i := 2) sc_law_doors.nd rfl (Or.inl rfl) (pe_lst pa_nil))
      (qss_cons (ps_forq PassesOwn.never rfl (pi_range1 rfl T.range (pa (pv 1) pa_nil)) (pg_name (i := 3) sc_law_doors.nd rfl (Or.inl rfl))
        (qss_one (ps_forq PassesOwn.never rfl (pi_range1 rfl T.range (pa (pv 0) pa_nil)) (pg_name (i := 4) sc_law_doors.nd rfl (Or.inl rfl))
          (qss_cons (ps_ifq (pt_cmpR op_lt (pe_op op_add (pv 4) pe_int) (pv 0) (nomark _))
            (qss_one (ps_expr (pe_bm PySem.F.plainAttrs_list PySem.F.slot_list_append PySem.F.type_list_append mt_append (pv 2) (pa (pe_tup (pa pe_str (pa (pv 4) (pa (pv 3) pa_nil)))) pa_nil)))) qss_nil)
          (qss_one (ps_ifq (pt_cmpR op_lt (pe_op op_add (pv 3) pe_int) (pv 1) (nomark _))
            (qss_one (ps_expr (pe_bm PySem.F.plainAttrs_list PySem.F.slot_list_append PySem.F.type_list_append mt_append (pv 2) (pa (pe_tup (pa pe_str (pa (pv 4) (pa (pv 3) pa_nil)))) pa_nil)))) qss_nil))))))
      (qss_one (ps_ret (pv 2)))), ?_⟩
    have sz' := sz
    obtain ⟨w1, w2, h1, h2, wh⟩ := sz'
    refine ⟨Nat.zero_le _, fun l hl => ?_⟩
    refine ⟨_, rfl, (hg : Int), rfl, by omega, by omega, for_range (n := hg) (fun i σ H2 => ∃ (xs : List V) (v3 v4 : Option V), σ = [some (.int wd), some (.int hg), some (.ref l), v3, v4] ∧ i ≤ hg ∧ H2 l = some (.lst xs) ∧ TL H2 xs (doorsTo wd hg i) ∧ Same H H2)
      ⟨[], none, none, rfl, Nat.zero_le _, upd_same, .nil, Same.new (Same.refl H) hl⟩ ?_ ?_⟩
    · rintro i σ H2 hi ⟨xs, v3, v4, rfl, _, hL, tl, sm⟩
      refine ⟨_, rfl, (wd : Int), rfl, by omega, by omega, for_range (n := wd) (fun j σ H3 => ∃ (xs : List V) (v4 : Option V), σ = [some (.int wd), some (.int hg), some (.ref l), some (.int i), v4] ∧ j ≤ wd ∧ H3 l = some (.lst xs) ∧ TL H3 xs (doorsTo wd hg i ++ doorsRow wd hg i j) ∧ Same H H3)
        ⟨xs, v4, by rw [Int.zero_add]; rfl, Nat.zero_le _, hL, by simpa [doorsRow] using tl, sm⟩ ?_ ?_⟩
      · rintro j σ H3 hj ⟨xs, v4, rfl, _, hL, tl, sm⟩
        have hlen : xs.length + 2 < sizeLine := by
          have e1 := tl.length
          have e2 := doorsTo_len wd hg i
          have e3 := doorsRow_len wd hg i j
          have e4 : i * wd ≤ hg * wd := Nat.mul_le_mul_right _ (Nat.le_of_lt hi)
          have e5 : hg * wd = wd * hg := Nat.mul_comm _ _
          have e6 : (1000 : Nat) < sizeLine := small1000 (Nat.le_refl _)
          rw [List.length_append] at e1
          omega
        rw [Int.zero_add]
        have put : ∀ {H4 : Hp} {ys : List V} {ks : List (List Key)} {t : Addr} {kd : List Key}, H4 l = some (.lst ys) → TL H4 ys ks → Same H H4 → H4 t = none →
            (upd (upd H4 t (.tup (kd.map kV))) l (.lst (ys ++ [V.ref t]))) l = some (.lst (ys ++ [V.ref t])) ∧ TL (upd (upd H4 t (.tup (kd.map kV))) l (.lst (ys ++ [V.ref t]))) (ys ++ [V.ref t]) (ks ++ [kd]) ∧ Same H (upd (upd H4 t (.tup (kd.map kV))) l (.lst (ys ++ [V.ref t]))) := by
          intro H4 ys ks t kd h1 h2 h3 h4
          have hlt : l ≠ t := ne_of_none h1 h4
          have hl' : (upd H4 t (.tup (kd.map kV))) l = some (.lst ys) := by rw [upd_ne hlt]; exact h1
          refine ⟨upd_same, ?_, Same.own (Same.new h3 h4) hl⟩
          exact (h2.keep (Tk.lst (Tk.new (Tk.refl _) h4) hl')).snoc ⟨t, rfl, by rw [upd_ne hlt.symm]; exact upd_same⟩
        refine ⟨_, rfl, _, _, rfl, rfl, _, rfl, _, _, rfl, rfl, _, rfl, ?_⟩
        refine ite2 (fun c1 => ?_) (fun c1 => ?_)
        · have c1 := of_decide_eq_true c1
          refine ⟨_, rfl, .inl ⟨rfl, _, SqL.of hL⟩, _, rfl, _, rfl, (by show 3 ≤ sizeLine; decide), fun t ht => ?_⟩
          refine ⟨l, xs, _, rfl, rfl, (by rw [upd_ne (ne_of_none hL ht)]; exact hL), by omega, ?_⟩
          obtain ⟨p1, p2, p3⟩ := put (kd := rowD j i) hL tl sm ht
          refine ⟨_, rfl, _, _, rfl, rfl, _, rfl, _, _, rfl, rfl, _, rfl, ?_⟩
          refine ite2 (fun c2 => ?_) (fun c2 => ?_)
          · have c2 := of_decide_eq_true c2
            refine ⟨_, rfl, .inl ⟨rfl, _, SqL.of p1⟩, _, rfl, _, rfl, (by show 3 ≤ sizeLine; decide), fun t2 ht2 => ?_⟩
            refine ⟨l, _, _, rfl, rfl, (by rw [upd_ne (ne_of_none p1 ht2)]; exact p1), by rw [List.length_append, List.length_singleton]; omega, ?_⟩
            obtain ⟨q1, q2, q3⟩ := put (kd := colD j i) p1 p2 p3 ht2
            refine ⟨_, _, rfl, hj, q1, ?_, q3⟩
            rw [doorsRow_succ, show doorsAt wd hg i j = [rowD j i, colD j i] by unfold doorsAt; rw [if_pos (by omega), if_pos (by omega)]; rfl,
              show ∀ A B : List (List Key), A ++ (B ++ [rowD j i, colD j i]) = (A ++ B ++ [rowD j i]) ++ [colD j i] from fun A B => by simp]
            exact q2
          · have c2 := fun z => c2 (decide_eq_true z)
            refine ⟨_, _, rfl, hj, p1, ?_, p3⟩
            rw [doorsRow_succ, show doorsAt wd hg i j = [rowD j i] by unfold doorsAt; rw [if_pos (by omega), if_neg (fun z => c2 (by omega))]; rfl]
            rw [← List.append_assoc]
            exact p2
        · have c1 := fun z => c1 (decide_eq_true z)
          refine ⟨_, rfl, _, _, rfl, rfl, _, rfl, _, _, rfl, rfl, _, rfl, ?_⟩
          refine ite2 (fun c2 => ?_) (fun c2 => ?_)
          · have c2 := of_decide_eq_true c2
            refine ⟨_, rfl, .inl ⟨rfl, _, SqL.of hL⟩, _, rfl, _, rfl, (by show 3 ≤ sizeLine; decide), fun t2 ht2 => ?_⟩
            refine ⟨l, _, _, rfl, rfl, (by rw [upd_ne (ne_of_none hL ht2)]; exact hL), by omega, ?_⟩
            obtain ⟨q1, q2, q3⟩ := put (kd := colD j i) hL tl sm ht2
            refine ⟨_, _, rfl, hj, q1, ?_, q3⟩
            rw [doorsRow_succ, show doorsAt wd hg i j = [colD j i] by unfold doorsAt; rw [if_neg (fun z => c1 (by omega)), if_pos (by omega)]; rfl]
            rw [← List.append_assoc]
            exact q2
          · have c2 := fun z => c2 (decide_eq_true z)
            refine ⟨_, _, rfl, hj, hL, ?_, sm⟩
            rw [doorsRow_succ, show doorsAt wd hg i j = [] by unfold doorsAt; rw [if_neg (fun z => c1 (by omega)), if_neg (fun z => c2 (by omega))]; rfl]
            rw [List.append_nil]
            exact tl
      · rintro σ H3 ⟨xs, v4, rfl, _, hL, tl, sm⟩
        exact ⟨xs, _, _, rfl, hi, hL, by rw [doorsTo_succ]; exact tl, sm⟩
    · rintro σ H2 ⟨xs, v3, v4, rfl, _, hL, tl, sm⟩
      exact ⟨_, rfl, k l xs H2 hl hL tl sm⟩
theorem sign_of : ∀ (a b : Nat), a < 4 → b < 6 → ∃ (z : Str) (c : Nat), ([("......" : Str), ".|-.|-", "....|-", "|-|-|-"])[a]? = some z ∧ z.length = 6 ∧ z.cps.toList[b]? = some c ∧ (⟨#[c]⟩ : Str) ∈ signs3 := by
  have h : ∀ a < 4, ∀ b < 6, (match ([("......" : Str), ".|-.|-", "....|-", "|-|-|-"])[a]? with
      | some z => decide (z.length = 6) && (match z.cps.toList[b]? with | some c => decide ((⟨#[c]⟩ : Str) ∈ signs3) | none => false)
      | none => false) = true := by decide +kernel
  intro a b ha hb
  have := h a ha b hb
  split at this
  · rename_i z e
    rw [Bool.and_eq_true] at this
    obtain ⟨h1, h2⟩ := this
    split at h2
    · rename_i c e2
      exact ⟨z, c, e, of_decide_eq_true h1, e2, of_decide_eq_true h2⟩
    · cases h2
  · cases this
def spSigns (K : PySem.W.Frag) : Sp := fun vs H Q _ => ∃ (a : Addr) (ns : List Int) (w h : Nat), vs = [.ref a, .int w, .int h] ∧ SqL K H a (ns.map V.int) ∧ okSize w h ∧
  ∀ (d : Addr) (kvs : List (List Key × V)) (H' : Hp), H d = none → H' d = some (.dT kvs) → Tab w h kvs → Same H H' → Q (.ref d) H'
theorem sc_law_signs : FnScope ["script", "wide", "high", "signs", "way", "doors", "k", "drawn"] ["script", "wide", "high"] (defScope s_law_signs) := ⟨rfl, rfl, rfl, by decide +kernel, rfl, by decide +kernel, by decide +kernel⟩
theorem ok_law_signs {f : Addr} {fd : FuncData} (F : Fun K "_law_signs" "_law_signs" s_law_signs f fd) (T : Txt K mg C) (DC : DefAt P w K mg base 1 "_law_cell_at" ["script", "k"] (spCell K)) (DM : DefAt P w K mg base 1 "_law_mix" ["cell", "k"] spMix)
    (DD : DefAt P w K mg base 1 "_law_doors" ["wide", "high"] spDoors) : FnOk P w K mg base CX0 2 f fd ["script", "wide", "high"] (spSigns K) := by
  refine F.okq sc_law_signs (fun vs H Q E h => ?_) (fun cdv A outer s H vs Q E hr h => ?_)
  · obtain ⟨a, ns, wd, hg, rfl, _⟩ := h
    rfl
  · obtain ⟨a, ns, wd, hg, rfl, hS, sz, k⟩ := h
    have hu := hu_of hr
    refine ⟨_, qss_cons (ps_set (i := 3) sc_law_signs.nd rfl (Or.inl rfl) pe_dnewT)
      (qss_cons (ps_set (i := 4) sc_law_signs.nd rfl (Or.inl rfl) (pe_op op_mod (pe_def DC hr (pa (pv 0) (pa pe_int pa_nil))) pe_int))
      (qss_cons (ps_set (i := 5) sc_law_signs.nd rfl (Or.inl rfl) (pe_def DD hr (pa (pv 1) (pa (pv 2) pa_nil))))
      (qss_cons (ps_forq PassesOwn.never rfl (pi_range1 rfl T.range (pa (pe_cb call_len_seq (by rfl) T.len PySem.boot_len (pa (pv 5) pa_nil)) pa_nil)) (pg_name (i := 6) sc_law_signs.nd rfl (Or.inl rfl))
        (qss_cons (ps_set (i := 7) sc_law_signs.nd rfl (Or.inl rfl) (pe_op op_fdiv (pe_def DM hr (pa (pe_op op_add (pe_def DC hr (pa (pv 0) (pa (pe_op op_add pe_int (pe_op op_mod (pv 6) pe_int)) pa_nil))) (pe_op op_mul pe_int (pv 6))) (pa (pv 6) pa_nil))) pe_int))
        (qss_one (ps_dput hu (pv 3) (pe_ix ix_list (pv 5) (pv 6) (fun _ _ => rfl)) (pe_ix ix_str (pe_ix ix_list (pe_lst (pa pe_str (pa pe_str (pa pe_str (pa pe_str pa_nil))))) (pv 4) (fun _ _ => rfl)) (pe_op op_mod (pv 7) pe_int) (fun _ _ => rfl)) rfl))))
      (qss_one (ps_ret (pv 3)))))), ?_⟩
    intro d hd
    have s0 : Same H (upd H d (.dT [])) := Same.new (Same.refl H) hd
    refine ⟨_, rfl, a, ns, 1, rfl, by decide, by decide, s0.seq hS, fun z0 => ⟨_, _, rfl, rfl, (by show (0 : Int) < 4; decide), ?_⟩⟩
    have hw4 : 0 ≤ z0 % 4 ∧ z0 % 4 < 4 := by omega
    refine ⟨_, rfl, _, rfl, wd, hg, rfl, sz, fun l xs H1 nl hL tl sm => ?_⟩
    have hd1 := sm _ _ (upd_same (H := H) (a := d) (o := .dT []))
    have ndl : l ≠ d := fun e => by rw [e, upd_same] at nl; cases nl
    have nl0 : H l = none := by rw [upd_ne ndl] at nl; exact nl
    have sm0 : Same H H1 := s0.trans sm
    have hlen : xs.length ≤ 72 := by rw [tl.length]; exact doors_len sz
    refine ⟨_, rfl, l, _, rfl, .inl (SqL.of hL), (xs.length : Int), rfl, by omega, by omega, for_range (n := xs.length) (fun i σ H2 => ∃ (kvs : List (List Key × V)) (v6 v7 : Option V), σ = [some (.ref a), some (.int wd), some (.int hg), some (.ref d), some (.int (z0 % 4)), some (.ref l), v6, v7] ∧ i ≤ xs.length ∧
      H2 d = some (.dT kvs) ∧ kvs.map (·.1) = (doors wd hg).take i ∧ (∀ p ∈ kvs, ∃ x ∈ signs3, p.2 = .str x) ∧ (∀ b o, H1 b = some o → b ≠ d → H2 b = some o))
      ⟨[], none, none, rfl, Nat.zero_le _, hd1, rfl, (fun p hp => by cases hp), fun _ _ e _ => e⟩ ?_ ?_⟩
    · rintro i σ H2 hi ⟨kvs, v6, v7, rfl, _, c1, c2, c3, c4⟩
      rw [Int.zero_add]
      have sm2 : Same H H2 := fun b o e => c4 b o (sm0 b o e) (ne_of_none e hd)
      have hL2 : H2 l = some (.lst xs) := c4 l _ hL ndl
      have i12 : 0 ≤ (i : Int) % 12 ∧ (i : Int) % 12 < 12 := by omega
      refine ⟨_, rfl, _, rfl, _, _, rfl, rfl, (by show (0 : Int) < 12; decide), _, _, rfl, rfl, a, ns, _, rfl, by omega, by omega, sm2.seq hS, fun z1 => ?_⟩
      refine ⟨_, rfl, _, _, rfl, rfl, .inl ⟨by decide, by decide⟩, _, _, rfl, rfl, _, rfl, _, _, rfl, by omega, by omega, fun z2 => ?_⟩
      refine ⟨_, _, rfl, rfl, ⟨by decide, by decide⟩, ?_⟩
      have hd6 : 0 ≤ z2 / 7 % 6 ∧ z2 / 7 % 6 < 6 := by omega
      refine ⟨(by show 4 ≤ sizeLine; decide), fun l2 n2 => ?_⟩
      obtain ⟨wn, ewn⟩ := Int.eq_ofNat_of_zero_le hw4.1
      obtain ⟨dn, edn⟩ := Int.eq_ofNat_of_zero_le hd6.1
      obtain ⟨z, c, ez, lz, ec, hc⟩ := sign_of wn dn (by omega) (by omega)
      have ez' : ∀ z, ([("......" : Str), ".|-.|-", "....|-", "|-|-|-"])[wn]? = some z → ([V.str "......", V.str ".|-.|-", V.str "....|-", V.str "|-|-|-"])[wn]? = some (V.str z) := fun z e => by
        have : ([("......" : Str), ".|-.|-", "....|-", "|-|-|-"].map V.str)[wn]? = some (V.str z) := by rw [List.getElem?_map, e]; rfl
        exact this
      refine ⟨_, rfl, l2, _, _, V.str z, rfl, rfl, SqL.of upd_same, (by rw [ewn]; refine atI_nat ?_; exact ez' z ez), ?_⟩
      refine ⟨_, rfl, _, _, rfl, rfl, (by show (0 : Int) < 6; decide), z, _, c, rfl, rfl, ?_, ?_, ?_⟩
      · rw [lz]; decide
      · rw [edn]; exact atI_nat ec
      obtain ⟨x, hx⟩ : ∃ x, xs[i]? = some x := ⟨xs[i], List.getElem?_eq_getElem hi⟩
      obtain ⟨kd, ek, ta, rfl, hta⟩ := tl.at hx
      have nl2 : H2 l2 = none := n2
      have hL3 : (upd H2 l2 (.lst [.str "......", .str ".|-.|-", .str "....|-", .str "|-|-|-"])) l = some (.lst xs) := by rw [upd_ne (ne_of_none hL2 nl2)]; exact hL2
      have hta2 : H2 ta = some (.tup (kd.map kV)) := c4 ta _ hta (ne_of hta hd1 (fun z => nomatch z))
      have hta3 : (upd H2 l2 (.lst [.str "......", .str ".|-.|-", .str "....|-", .str "|-|-|-"])) ta = some (.tup (kd.map kV)) := by rw [upd_ne (ne_of_none hta2 nl2)]; exact hta2
      have hd3 : (upd H2 l2 (.lst [.str "......", .str ".|-.|-", .str "....|-", .str "|-|-|-"])) d = some (.dT kvs) := by rw [upd_ne (ne_of_none c1 nl2)]; exact c1
      have hkl : kvs.length ≤ 72 := by
        have e1 := congrArg List.length c2
        rw [List.length_map, List.length_take] at e1
        have := doors_len sz
        omega
      have hkn : ¬ kd ∈ kvs.map (·.1) := by
        rw [c2]
        intro m
        obtain ⟨hi', ek'⟩ := List.getElem?_eq_some_iff.mp ek
        obtain ⟨j, hj, ej⟩ := List.mem_iff_getElem.mp m
        have hj' : j < i := by rw [List.length_take] at hj; omega
        rw [List.getElem_take] at ej
        have := (List.getElem_inj (nd_doors wd hg)).mp (ej.trans ek'.symm)
        omega
      refine ⟨_, rfl, _, rfl, _, rfl, l, _, _, _, rfl, rfl, SqL.of hL3, atI_nat hx, d, _, rfl, DPut.t hd3 hta3 (small1000 (by omega)), ?_⟩
      refine ⟨putK kvs kd (V.str ⟨#[c]⟩), _, _, rfl, hi, upd_same, ?_, ?_, fun b o e n => ?_⟩
      · rw [putK_new _ (valV_none hkn), List.map_append, c2, List.take_add_one, ek]
        rfl
      · intro p hp
        rw [putK_new _ (valV_none hkn)] at hp
        rcases List.mem_append.mp hp with hp | hp
        · exact c3 p hp
        · cases List.mem_singleton.mp hp
          exact ⟨_, hc, rfl⟩
      · rw [upd_ne n, upd_ne (ne_of_none (c4 b o e n) nl2)]
        exact c4 b o e n
    · rintro σ H2 ⟨kvs, v6, v7, rfl, _, c1, c2, c3, c4⟩
      refine ⟨_, rfl, k d kvs H2 hd c1 ⟨?_, c3⟩ fun b o e => c4 b o (sm0 b o e) (ne_of_none e hd)⟩
      rw [c2, tl.length, List.take_length]
def spBuilt (C : Addr) : Sp := fun vs H Q _ => ∃ (d : Addr) (kvs : List (List Key × V)) (w h : Nat), vs = [.int w, .int h, .ref d] ∧ okSize w h ∧ H d = some (.dT kvs) ∧ Tab w h kvs ∧
  ∀ (p : Addr) (H' : Hp), Same H H' → BoardAt C H' p w h kvs → Q (.ref p) H'
theorem sc_law_built : FnScope ["wide", "high", "signs", "board", "door"] ["wide", "high", "signs"] (defScope s_law_built) := ⟨rfl, rfl, rfl, by decide +kernel, rfl, by decide +kernel, by decide +kernel⟩
theorem bare_val {w h : Nat} {k : List Key} (hk : k ∈ doors w h) : valV (bare w h) k = some (.str ".") := by
  obtain ⟨v, e⟩ := valV_some (kvs := bare w h) (k := k) (by rw [bare_keys]; exact hk)
  obtain ⟨j, _, ej⟩ := List.mem_map.mp (valV_mem e)
  cases ej
  exact e
theorem ok_law_built {f : Addr} {fd : FuncData} (F : Fun K "_law_built" "_law_built" s_law_built f fd) (T : Txt K mg C) (DD : DefAt P w K mg base 1 "_law_doors" ["wide", "high"] spDoors) (MB : ClassAt P w K mg base 2 C "Board" ["self", "wide", "high"] (spInit C))
    (MC : MethAt P w K mg base 4 C "changed" ["self", "door", "sign"] (spChanged C)) : FnOk P w K mg base CX0 5 f fd ["wide", "high", "signs"] (spBuilt C) := by
  refine F.okq sc_law_built (fun vs H Q E h => ?_) (fun cdv A outer s H vs Q E hr h => ?_)
  · obtain ⟨d, kvs, wd, hg, rfl, _⟩ := h
    rfl
  · obtain ⟨d, kvs, wd, hg, rfl, sz, hd, tb, k⟩ := h
    have hu := hu_of hr
    refine ⟨_, qss_cons (ps_set (i := 3) sc_law_built.nd rfl (Or.inl rfl) (pe_mk MB hr (pa (pv 0) (pa (pv 1) pa_nil))))
      (qss_cons (ps_forq PassesOwn.never rfl (pi_list (pe_def DD hr (pa (pv 0) (pa (pv 1) pa_nil)))) (pg_name (i := 4) sc_law_built.nd rfl (Or.inl rfl))
        (qss_one (ps_ifq (pt_cmpR op_ne (pe_dget hu (pv 2) (pv 4) (fun _ _ => rfl)) pe_str (nomark _))
          (qss_one (ps_set (i := 3) sc_law_built.nd rfl (Or.inl rfl) (pe_mth (pv 3) T.cl MC hr (pa (pv 4) (pa (pe_dget hu (pv 2) (pv 4) (fun _ _ => rfl)) pa_nil))))) qss_nil)))
      (qss_one (ps_ret (pv 3)))), ?_⟩
    refine ⟨_, rfl, _, rfl, fun p dx n1 n2 n3 => ?_⟩
    refine ⟨p, dx, wd, hg, rfl, sz, upd_same, fun d' H1 nd' c1 c2 c3 => ⟨rfl, ?_⟩⟩
    have sm : Same H H1 := fun b o e => c3 b o (by rw [upd_ne (ne_of_none e n1), upd_ne (ne_of_none e n2)]; exact e) (ne_of_none e n1)
    have B0 : BoardAt C H1 p wd hg (bare wd hg) := ⟨⟨dx, d', c1, c2⟩, sz, bare_tab wd hg⟩
    refine ⟨_, rfl, _, rfl, wd, hg, rfl, sz, fun l xs H2 nl hL tl sm2 => ?_⟩
    refine ⟨l, rfl, ⟨_, SqL.of hL⟩, for_list (K := K) (a := l) (xs := xs) (fun i σ H3 => ∃ (p : Addr) (kb : List (List Key × V)) (v4 : Option V), σ = [some (.int wd), some (.int hg), some (.ref d), some (.ref p), v4] ∧ BoardAt C H3 p wd hg kb ∧
      (∀ (j : Nat) kd, (doors wd hg)[j]? = some kd → valV kb kd = if j < i then valV kvs kd else some (.str ".")) ∧ Same H2 H3)
      ⟨p, _, none, rfl, B0.keep sm2, (fun j kd e => by rw [if_neg (Nat.not_lt_zero _)]; exact bare_val (List.mem_of_getElem? e)), Same.refl _⟩ (fun i σ H3 _ ⟨_, _, _, _, _, _, z⟩ => SqL.of (z l _ hL)) ?_ ?_⟩
    · rintro i x σ H3 hi ⟨p, kb, v4, rfl, B, hv, sm3⟩
      obtain ⟨kd, ek, ta, rfl, hta⟩ := tl.at hi
      have hta3 := sm3 _ _ hta
      have hm : kd ∈ doors wd hg := List.mem_of_getElem? ek
      have hd3 : H3 d = some (.dT kvs) := sm3 _ _ (sm2 _ _ (sm _ _ hd))
      obtain ⟨sg1, sg2⟩ := tb.sg hm
      have g : DGet H3 d (.ref ta) (some (.str (sgAt kvs kd))) := by
        have := DGet.t (k := kd) hd3 hta3
        rw [sg1] at this
        exact this
      refine ⟨_, rfl, _, rfl, d, _, rfl, g, rfl, _, rfl, ?_⟩
      by_cases e : sgAt kvs kd = "."
      · refine iteNS (congrArg V.str e) ?_
        refine ⟨p, kb, _, rfl, B, fun j kj ej => ?_, sm3⟩
        rw [hv j kj ej]
        by_cases hj : j < i
        · rw [if_pos hj, if_pos (by omega)]
        · rw [if_neg hj]
          by_cases hj2 : j < i + 1
          · rw [if_pos hj2]
            have : j = i := by omega
            subst this
            rw [ek] at ej
            cases ej
            rw [sg1, e]
          · rw [if_neg hj2]
      · rw [decide_eq_false (fun z => e (V.str.inj z))]
        refine iteT ?_
        obtain ⟨dx3, d3, o1, o2⟩ := B.ob
        refine ⟨_, rfl, p, dx3, _, rfl, o1, board_no (by simp), _, rfl, _, rfl, _, rfl, d, _, rfl, g, p, ta, sgAt kvs kd, wd, hg, kb, kd, rfl, B, hta3, hm, sg2, fun p' H4 np sm4 B4 => ?_⟩
        refine ⟨p', _, _, rfl, B4, fun j kj ej => ?_, sm3.trans sm4⟩
        rw [valV_put]
        by_cases hjk : kj = kd
        · subst hjk
          have : j = i := by
            obtain ⟨h1, e1⟩ := List.getElem?_eq_some_iff.mp ej
            obtain ⟨h2, e2⟩ := List.getElem?_eq_some_iff.mp ek
            exact (List.getElem_inj (nd_doors wd hg)).mp (e1.trans e2.symm)
          subst this
          rw [if_pos rfl, if_pos (Nat.lt_succ_self _), sg1]
        · rw [if_neg hjk, hv j kj ej]
          by_cases hj : j < i
          · rw [if_pos hj, if_pos (by omega)]
          · have : j ≠ i := fun z => by subst z; rw [ek] at ej; exact hjk (Option.some.inj ej).symm
            rw [if_neg hj, if_neg (by omega)]
    · rintro σ H3 ⟨p, kb, v4, rfl, B, hv, sm3⟩
      refine ⟨_, rfl, ?_⟩
      have e : kb = kvs := kvs_ext (by rw [B.tb.keys, tb.keys]) B.tb.nd fun kd hk => by
        rw [B.tb.keys] at hk
        obtain ⟨j, hj⟩ := List.getElem?_of_mem hk
        rw [hv j kd hj, if_pos]
        rw [tl.length]
        exact (List.getElem?_eq_some_iff.mp hj).1
      rw [e] at B
      exact k p H3 (sm.trans (sm2.trans sm3)) B
def spSorted : Sp := fun vs H Q _ => ∃ (l : Addr) (xs : List V) (ls : List (List Qr)) (ok : Addr → Prop), vs = [.ref l] ∧ H l = some (.lst xs) ∧ LN H ok xs ls ∧ Fit ls ∧ ls.length ≤ 300 ∧ (∀ ln ∈ ls, ln.length ≤ 300) ∧
  ∀ (l' : Addr) (ys : List V) (H' : Hp), H l' = none → H' l' = some (.lst ys) → LN H' (· ≠ l') ys (canon ls) → Same H H' → Q (.ref l') H'
theorem sc_law_sorted : FnScope ["found"] ["found"] (defScope s_law_sorted) := ⟨rfl, rfl, rfl, by decide +kernel, rfl, by decide +kernel, by decide +kernel⟩
theorem ok_law_sorted {f : Addr} {fd : FuncData} (F : Fun K "_law_sorted" "_law_sorted" s_law_sorted f fd) (T : Txt K mg C) : FnOk P w K mg base CX0 1 f fd ["found"] spSorted := by
  refine F.okq sc_law_sorted (fun vs H Q E h => ?_) (fun cdv A outer s H vs Q E hr h => ?_)
  · obtain ⟨l, xs, ls, ok, rfl, _⟩ := h
    rfl
  · obtain ⟨l, xs, ls, ok, rfl, hL, ll, fit, n1, n2, k⟩ := h
    obtain ⟨f1, f2, f3⟩ := fit_sorted fit
    refine ⟨_, qss_one (ps_ret (pe_cb (call_sortL (K := K) rfl hr.units) (by rfl) T.sorted PyProof.Rows.boot_sorted (pa
      (pe_comp (x := "line") (fvs := []) rfl rfl rfl (by decide +kernel) (by decide +kernel) rfl trivial rfl trivial (by decide +kernel) (pi_list (pv 0))
        (fun C' s' H' fp => pe_cb (call_sortQ (K := K) rfl) (by rfl) T.sorted PyProof.Rows.boot_sorted (pa (pv 0) pa_nil))) pa_nil))), ?_⟩
    refine ⟨_, rfl, l, rfl, ⟨_, SqL.of hL⟩, fun D hD => ?_⟩
    have nlD : l ≠ D := ne_of_none hL hD
    refine comp_list (K := K) (a := l) (xs := xs) (fun i ys H2 => H2 D = some (.lst ys) ∧ LN H2 (· ≠ D) ys ((ls.map (msort rq)).take i) ∧ Same H H2) (by rw [ll.length]; omega)
      ⟨upd_same, .nil, Same.new (Same.refl _) hD⟩ (fun i ys H2 hi ⟨c1, c2, c3⟩ => ⟨SqL.of (c3 _ _ hL), c1, ?_⟩) ?_ ?_
    · have e1 := c2.length
      rw [List.length_take, List.length_map, ← ll.length] at e1
      omega
    · rintro i x ys H2 R hi ⟨c1, c2, c3⟩ hR
      obtain ⟨ln, eln, al, ysl, rfl, _, hal, tl⟩ := ll.at hi
      have lm : ln ∈ ls := List.mem_of_getElem? eln
      have tl2 := tl.keep (Tk.of c3)
      obtain ⟨as, rfl, e2, e3⟩ := tl_as tl2
      have hs : ∀ q ∈ as.map (qOf H2), smallQ q := by rw [← e2]; exact fit.small ln lm
      have ha : as.length ≤ 1000 := by have := n2 ln lm; rw [e2, List.length_map] at this; omega
      refine ⟨_, rfl, al, as, _, rfl, SqL.of (c3 _ _ hal), ha, tup_q e3 hs, fun bs q pm pw nq => ?_⟩
      have hDq : D ≠ q := ne_of_none c1 nq
      have hD4 : (upd H2 q (.lst (bs.map V.ref))) D = some (.lst ys) := by rw [upd_ne hDq]; exact c1
      refine hR _ _ hD4 ⟨upd_same, ?_, ?_⟩
      · have tk : Tk H2 (upd (upd H2 q (.lst (bs.map V.ref))) D (.lst (ys ++ [.ref q]))) := (Tk.new (Tk.refl _) nq).trans (Tk.lst (Tk.refl _) hD4)
        rw [List.take_add_one, List.getElem?_map, eln, Option.map_some, Option.toList_some]
        refine (c2.keep (fun b ys' e n => ⟨n, ?_⟩) tk).snoc ⟨q, bs.map V.ref, rfl, hDq.symm, ?_, ?_⟩
        · rw [upd_ne n, upd_ne (ne_of_none e nq)]
          exact e
        · rw [upd_ne hDq.symm, upd_same]
        · have t5 := as_tl (H := H2) (as := bs) fun a ha => e3 a (pm.mem_iff.mp ha)
          rw [sorted_q hs pm pw, ← e2] at t5
          exact t5.keep tk
      · intro b o e
        rw [upd_ne (fun z => by subst z; rw [hD] at e; cases e), upd_ne (ne_of_none (c3 b o e) nq)]
        exact c3 b o e
    · rintro ys H2 ⟨c1, c2, c3⟩
      have e1 : (ls.map (msort rq)).take xs.length = ls.map (msort rq) := List.take_of_length_le (by rw [List.length_map, ll.length]; exact Nat.le_refl _)
      rw [e1] at c2
      obtain ⟨as, rfl, e2, e3⟩ := ln_as c2
      have ha : as.length ≤ 1000 := by have := congrArg List.length e2; rw [List.length_map, List.length_map] at this; omega
      refine ⟨D, as, fun a => rhead (lnOf H2 a), rfl, SqL.of c1, ha, lst_q e3 (by rw [← e2]; exact f1) (by rw [← e2]; exact f2), fun a ha b hb e => ?_, fun bs q pm pw nq => ?_⟩
      · refine inj_nodup (g := lnOf H2) (by rw [← e2]; exact f3) a ha b hb (fit.head _ ?_ _ ?_ e)
        · rw [e2]; exact List.mem_map_of_mem ha
        · rw [e2]; exact List.mem_map_of_mem hb
      · have e4 : bs.map (lnOf H2) = canon ls := by
          refine msort_unique fit.head (by rw [List.pairwise_map]; exact pw) ?_
          rw [e2]
          exact pm.map _
        have l5 := as_ln (H := H2) (ok := (· ≠ D)) (as := bs) fun a ha => e3 a (pm.mem_iff.mp ha)
        rw [e4] at l5
        have nq0 : H q = none := by
          cases z : H q with
          | none => rfl
          | some o => rw [c3 q o z] at nq; cases nq
        exact k q _ _ nq0 upd_same (l5.keep (fun b ys' e _ => ⟨ne_of_none e nq, by rw [upd_ne (ne_of_none e nq)]; exact e⟩) (Tk.new (Tk.refl _) nq)) (Same.new c3 nq)
def spLaw (K : PySem.W.Frag) : Sp := fun vs H Q _ => ∃ (a : Addr) (ns : List Int), vs = [.ref a] ∧ SqL K H a (ns.map V.int) ∧ ns.length ≤ 63 ∧ ∀ H', Q (.bl true) H'
theorem sc_law : FnScope ["script", "wide", "high", "board", "found", "moved", "seen", "line"] ["script"] (defScope s_law) := ⟨rfl, rfl, rfl, by decide +kernel, rfl, by decide +kernel, by decide +kernel⟩
theorem four_at {k : Int} (h0 : 0 ≤ k) (h4 : k < 4) : atI ([.int 1, .int 0, .int 3, .int 2] : List V) k = some (.int (fk k)) := by
  rcases k_cases h0 h4 with rfl | rfl | rfl | rfl <;> rfl
theorem comp_put {H7 H8 H9 : Hp} {D t : Addr} {ys : List V} {ks : List (List Key)} {kk : List Key} (hD : H7 D = none) (c1 : H8 D = some (.lst ys)) (c2 : TL H8 ys ks) (c3 : Same H7 H8) (s9 : Same H8 H9) (nt : H9 t = none) :
    (upd H9 t (.tup (kk.map kV))) D = some (.lst ys) ∧ TL (upd (upd H9 t (.tup (kk.map kV))) D (.lst (ys ++ [.ref t]))) (ys ++ [.ref t]) (ks ++ [kk]) ∧ Same H7 (upd (upd H9 t (.tup (kk.map kV))) D (.lst (ys ++ [.ref t]))) := by
  have hD9 := s9 _ _ c1
  have ne : D ≠ t := ne_of_none hD9 nt
  have hD10 : (upd H9 t (.tup (kk.map kV))) D = some (.lst ys) := by rw [upd_ne ne]; exact hD9
  have tk : Tk H8 (upd (upd H9 t (.tup (kk.map kV))) D (.lst (ys ++ [.ref t]))) := ((Tk.of s9).trans (Tk.new (Tk.refl _) nt)).trans (Tk.lst (Tk.refl _) hD10)
  refine ⟨hD10, (c2.keep tk).snoc ⟨t, rfl, by rw [upd_ne ne.symm, upd_same]⟩, fun b o e => ?_⟩
  have e9 := s9 _ _ (c3 _ _ e)
  rw [upd_ne (fun z => by subst z; rw [hD] at e; cases e), upd_ne (ne_of_none e9 nt)]
  exact e9
theorem line_put {H7 H8 : Hp} {m n D : Addr} {ms ys : List V} {ls : List (List Qr)} {line : List Qr} (hm : H8 m = some (.lst ms)) (lm : LN H8 (fun b => b ≠ m ∧ b ≠ n) ms ls) (nD : D ≠ m ∧ D ≠ n) (hD : H8 D = some (.lst ys)) (tl : TL H8 ys (line.map Qr.key)) :
    LN (upd H8 m (.lst (ms ++ [.ref D]))) (fun b => b ≠ m ∧ b ≠ n) (ms ++ [.ref D]) (ls ++ [line]) := by
  have tk : Tk H8 (upd H8 m (.lst (ms ++ [.ref D]))) := Tk.lst (Tk.refl _) hm
  exact (lm.keep (fun b ys' e nb => ⟨nb, by rw [upd_ne nb.1]; exact e⟩) tk).snoc ⟨D, ys, rfl, nD, by rw [upd_ne nD.1]; exact hD, tl.keep tk⟩
theorem ok_law {f : Addr} {fd : FuncData} (F : Fun K "law" "law" s_law f fd) (T : Txt K mg C) (DC : DefAt P w K mg base 1 "_law_cell_at" ["script", "k"] (spCell K)) (DZ : DefAt P w K mg base 1 "_law_size" ["cell"] spLawSize) (DS : DefAt P w K mg base 2 "_law_signs" ["script", "wide", "high"] (spSigns K))
    (DB : DefAt P w K mg base 5 "_law_built" ["wide", "high", "signs"] (spBuilt C)) (DN : DefAt P w K mg base 6 "lines" ["board"] (spLines C)) (DO : DefAt P w K mg base 1 "_law_sorted" ["found"] spSorted)
    (DT : DefAt P w K mg base 6 "turned" ["board"] (spTurned C)) (DF : DefAt P w K mg base 6 "flipped" ["board"] (spFlipped C)) : FnOk P w K mg base CX0 8 f fd ["script"] (spLaw K) := by
  refine F.okq sc_law (fun vs H Q E h => ?_) (fun cdv A outer s H vs Q E hr h => ?_)
  · obtain ⟨a, ns, rfl, _⟩ := h
    rfl
  · obtain ⟨a, ns, rfl, hS, hlen, k⟩ := h
    refine ⟨_, qss_cons (ps_asg (pe_def DZ hr (pa (pe_def DC hr (pa (pv 0) (pa pe_int pa_nil))) pa_nil)) (pg_tup rfl (pgs_cons (pg_name (i := 1) sc_law.nd rfl (Or.inr rfl)) (pgs_cons (pg_name (i := 2) sc_law.nd rfl (Or.inr rfl)) pgs_nil))))
      (qss_cons (ps_set (i := 3) sc_law.nd rfl (Or.inl rfl) (pe_def DB hr (pa (pv 1) (pa (pv 2) (pa (pe_def DS hr (pa (pv 0) (pa (pv 1) (pa (pv 2) pa_nil)))) pa_nil)))))
      (qss_cons (ps_set (i := 4) sc_law.nd rfl (Or.inl rfl) (pe_def DN hr (pa (pv 3) pa_nil)))
      (qss_cons (ps_set (i := 5) sc_law.nd rfl (Or.inl rfl) (pe_lst pa_nil))
      (qss_cons (ps_set (i := 6) sc_law.nd rfl (Or.inl rfl) (pe_lst pa_nil))
      (qss_cons (ps_forq PassesOwn.never rfl (pi_list (pv 4)) (pg_name (i := 7) sc_law.nd rfl (Or.inl rfl))
        (qss_cons (ps_expr (pe_bm PySem.F.plainAttrs_list PySem.F.slot_list_append PySem.F.type_list_append mt_append (pv 5) (pa
          (pe_comp (x := "one") (fvs := [("high", 2)]) rfl rfl rfl (by decide +kernel) (by decide +kernel) rfl ⟨rfl, trivial⟩ rfl ⟨⟨rfl, rfl, rfl⟩, trivial⟩ (by decide +kernel) (pi_list (pv 7))
            (fun C' s' H' fp => pe_tup (pa (pe_op op_sub (pe_op op_sub (pv 1) pe_int) (pe_ix (ix_tupC (K := K) rfl) (pv 0) pe_int (fun _ _ => rfl)))
              (pa (pe_ix (ix_tupC (K := K) rfl) (pv 0) pe_int (fun _ _ => rfl)) (pa (pe_op op_mod (pe_op op_add (pe_ix (ix_tupC (K := K) rfl) (pv 0) pe_int (fun _ _ => rfl)) pe_int) pe_int) pa_nil))))) pa_nil)))
        (qss_one (ps_expr (pe_bm PySem.F.plainAttrs_list PySem.F.slot_list_append PySem.F.type_list_append mt_append (pv 6) (pa
          (pe_comp (x := "one") (fvs := [("wide", 1)]) rfl rfl rfl (by decide +kernel) (by decide +kernel) rfl ⟨rfl, trivial⟩ rfl ⟨⟨rfl, rfl, rfl⟩, trivial⟩ (by decide +kernel) (pi_list (pv 7))
            (fun C' s' H' fp => pe_tup (pa (pe_op op_sub (pe_op op_sub (pv 1) pe_int) (pe_ix (ix_tupC (K := K) rfl) (pv 0) pe_int (fun _ _ => rfl)))
              (pa (pe_ix (ix_tupC (K := K) rfl) (pv 0) pe_int (fun _ _ => rfl)) (pa (pe_ix (ix_listC (K := K) rfl) (pe_lst (pa pe_int (pa pe_int (pa pe_int (pa pe_int pa_nil))))) (pe_ix (ix_tupC (K := K) rfl) (pv 0) pe_int (fun _ _ => rfl)) (fun _ _ => rfl)) pa_nil))))) pa_nil))))))
      (qss_cons (ps_ifq (pt_cmpR (op_neD hr.units) (pe_def DO hr (pa (pe_def DN hr (pa (pe_def DT hr (pa (pv 3) pa_nil)) pa_nil)) pa_nil)) (pe_def DO hr (pa (pv 5) pa_nil)) (nomark _)) (qss_one (ps_ret pe_bl)) qss_nil)
      (qss_one (ps_ret (pe_cmpR (op_eqD hr.units) (pe_def DO hr (pa (pe_def DN hr (pa (pe_def DF hr (pa (pv 3) pa_nil)) pa_nil)) pa_nil)) (pe_def DO hr (pa (pv 6) pa_nil)) (nomark _)))))))))), ?_⟩
    refine ⟨_, rfl, a, ns, 0, rfl, by decide, by decide, hS, fun z => ⟨z, rfl, fun t wd hg H1 sz s1 ht => ?_⟩⟩
    refine ⟨t, _, rfl, SqT.of ht, rfl, _, _, rfl, _, _, rfl, rfl, ?_⟩
    obtain ⟨w1, w2, h1, h2, wh⟩ := id sz
    refine ⟨_, rfl, _, rfl, _, rfl, _, rfl, _, rfl, a, ns, wd, hg, rfl, s1.seq hS, sz, fun d kvs H2 nd hd tb s2 => ?_⟩
    refine ⟨d, kvs, wd, hg, rfl, sz, hd, tb, fun p H3 s3 B => ?_⟩
    refine ⟨_, rfl, p, wd, hg, kvs, rfl, B, fun l xs H4 nl hL ll nd4 fr4 s4 => ?_⟩
    obtain ⟨few1, few2⟩ := lines_few2 (kvs := kvs) sz tb
    have xl : xs.length ≤ 144 := by rw [ll.length]; exact few1
    have B4 := B.keep s4
    refine ⟨Nat.zero_le _, fun m nm => ⟨Nat.zero_le _, fun n nn => ?_⟩⟩
    have mn : m ≠ n := ne_of_none (upd_same (H := H4) (a := m) (o := .lst [])) nn
    have n4 : H4 n = none := by rw [upd_ne mn.symm] at nn; exact nn
    have s6 : Same H4 (upd (upd H4 m (.lst [])) n (.lst [])) := Same.new (Same.new (Same.refl _) nm) nn
    refine ⟨_, rfl, l, rfl, ⟨_, SqL.of (s6 _ _ hL)⟩, for_list (K := K) (a := l) (xs := xs) (fun i σ H7 => ∃ (ms zs : List V) (v7 : Option V), σ = [some (.ref a), some (.int wd), some (.int hg), some (.ref p), some (.ref l), some (.ref m), some (.ref n), v7] ∧ H7 m = some (.lst ms) ∧ H7 n = some (.lst zs) ∧
        LN H7 (fun b => b ≠ m ∧ b ≠ n) ms (((linesM wd hg kvs).take i).map (·.map (qT hg))) ∧ LN H7 (fun b => b ≠ n ∧ b ≠ m) zs (((linesM wd hg kvs).take i).map (·.map (qF wd))) ∧ Same H4 H7)
      ⟨[], [], none, rfl, by rw [upd_ne mn]; exact upd_same, upd_same, .nil, .nil, s6⟩ (fun i σ H7 _ ⟨_, _, _, _, _, _, _, _, sm⟩ => SqL.of (sm _ _ hL)) ?_ ?_⟩
    · rintro i x σ H7 hi ⟨ms, zs, v7, rfl, hm, hn, lm, lz, sm⟩
      obtain ⟨line, eln, al, ysl, rfl, _, hal, tl⟩ := ll.at hi
      have il : i < xs.length := (List.getElem?_eq_some_iff.mp hi).1
      have lmem : line ∈ linesM wd hg kvs := List.mem_of_getElem? eln
      have lon : ∀ q ∈ line, q.on wd hg := fun q hq => flat_on sz tb (List.mem_flatten.mpr ⟨line, lmem, hq⟩)
      have ll144 := few2 line lmem
      have yl : ysl.length ≤ 144 := by rw [tl.length, List.length_map]; exact ll144
      have lml : ms.length ≤ 144 := by rw [lm.length, List.length_map, List.length_take]; omega
      have lzl : zs.length ≤ 144 := by rw [lz.length, List.length_map, List.length_take]; omega
      have takes : ∀ φ : Qr → Qr, ((linesM wd hg kvs).take (i + 1)).map (·.map φ) = ((linesM wd hg kvs).take i).map (·.map φ) ++ [line.map φ] := fun φ => by
        rw [List.take_add_one, eln, Option.toList_some, List.map_append]
        rfl
      have tl7 := tl.keep (Tk.of sm)
      have hal7 := sm _ _ hal
      refine ⟨_, rfl, .inl ⟨rfl, _, SqL.of hm⟩, _, rfl, al, rfl, ⟨_, SqL.of hal7⟩, fun D hD => ?_⟩
      refine comp_list (K := K) (a := al) (xs := ysl) (fun i ys H8 => H8 D = some (.lst ys) ∧ TL H8 ys (((line.map (qT hg)).take i).map Qr.key) ∧ Same H7 H8) (by omega)
        ⟨upd_same, .nil, Same.new (Same.refl _) hD⟩ (fun i ys H8 hi ⟨c1, c2, c3⟩ => ⟨SqL.of (c3 _ _ hal7), c1, ?_⟩) ?_ ?_
      · have e1 := c2.length
        rw [List.length_map, List.length_take, List.length_map] at e1
        have e2 := tl.length
        rw [List.length_map] at e2
        omega
      · rintro j x ys H8 R hj ⟨c1, c2, c3⟩ hR
        obtain ⟨kq, ek, ta, rfl, hta⟩ := tl7.at hj
        rw [List.getElem?_map] at ek
        obtain ⟨q, eq, rfl⟩ := Option.map_eq_some_iff.mp ek
        have h8 : SqT K H8 ta [.int q.c, .int q.r, .int q.k] := SqT.of (c3 _ _ hta)
        refine ⟨_, rfl, _, _, rfl, rfl, _, rfl, ta, _, 1, _, rfl, rfl, h8, rfl, _, _, rfl, rfl, ?_⟩
        refine ⟨_, rfl, ta, _, 0, _, rfl, rfl, h8, rfl, ?_⟩
        refine ⟨_, rfl, ta, _, 2, _, rfl, rfl, h8, rfl, _, _, rfl, rfl, _, _, rfl, rfl, (by show (0 : Int) < 4; decide), (by show 3 ≤ sizeLine; decide), fun t nt => ?_⟩
        obtain ⟨p1, p2, p3⟩ := comp_put (kk := (qT hg q).key) hD c1 c2 c3 (Same.refl _) nt
        refine hR _ _ p1 ⟨upd_same, ?_, p3⟩
        rw [List.take_add_one, List.getElem?_map, eq, Option.map_some, Option.toList_some, List.map_append]
        exact p2
      · rintro ys H8 ⟨c1, c2, c3⟩
        have hD8 : D ≠ m ∧ D ≠ n := ⟨fun z => (by subst z; rw [hm] at hD; cases hD), fun z => (by subst z; rw [hn] at hD; cases hD)⟩
        have hm8 := c3 _ _ hm
        have e1 : (line.map (qT hg)).take ysl.length = line.map (qT hg) := List.take_of_length_le (by rw [List.length_map, tl.length, List.length_map]; exact Nat.le_refl _)
        rw [e1] at c2
        refine ⟨m, ms, _, rfl, rfl, hm8, small1000 (by omega), ?_⟩
        have lm9 := line_put (H7 := H7) hm8 (lm.keep (fun b ys' e nb => ⟨nb, c3 _ _ e⟩) (Tk.of c3)) hD8 c1 c2
        rw [← takes] at lm9
        have hn9 : (upd H8 m (.lst (ms ++ [.ref D]))) n = some (.lst zs) := by rw [upd_ne mn.symm]; exact c3 _ _ hn
        have lz9 : LN (upd H8 m (.lst (ms ++ [.ref D]))) (fun b => b ≠ n ∧ b ≠ m) zs (((linesM wd hg kvs).take i).map (·.map (qF wd))) :=
          lz.keep (fun b ys' e nb => ⟨nb, by rw [upd_ne nb.2]; exact c3 _ _ e⟩) ((Tk.of c3).trans (Tk.lst (Tk.refl _) hm8))
        have sm9 : Same H4 (upd H8 m (.lst (ms ++ [.ref D]))) := Same.own (sm.trans c3) nm
        have hm9 : (upd H8 m (.lst (ms ++ [.ref D]))) m = some (.lst (ms ++ [.ref D])) := upd_same
        generalize upd H8 m (.lst (ms ++ [.ref D])) = H9 at lm9 hn9 lz9 sm9 hm9 ⊢
        have tl9 := tl.keep (Tk.of sm9)
        have hal9 := sm9 _ _ hal
        refine ⟨_, rfl, .inl ⟨rfl, _, SqL.of hn9⟩, _, rfl, al, rfl, ⟨_, SqL.of hal9⟩, fun D2 hD2 => ?_⟩
        refine comp_list (K := K) (a := al) (xs := ysl) (fun i ys H8 => H8 D2 = some (.lst ys) ∧ TL H8 ys (((line.map (qF wd)).take i).map Qr.key) ∧ Same H9 H8) (by omega)
          ⟨upd_same, .nil, Same.new (Same.refl _) hD2⟩ (fun i ys H8 hi ⟨c1, c2, c3⟩ => ⟨SqL.of (c3 _ _ hal9), c1, ?_⟩) ?_ ?_
        · have e1 := c2.length
          rw [List.length_map, List.length_take, List.length_map] at e1
          have e2 := tl.length
          rw [List.length_map] at e2
          omega
        · rintro j x ys H8 R hj ⟨c1, c2, c3⟩ hR
          obtain ⟨kq, ek, ta, rfl, hta⟩ := tl9.at hj
          rw [List.getElem?_map] at ek
          obtain ⟨q, eq, rfl⟩ := Option.map_eq_some_iff.mp ek
          have qon := lon q (List.mem_of_getElem? eq)
          have h8 : SqT K H8 ta [.int q.c, .int q.r, .int q.k] := SqT.of (c3 _ _ hta)
          refine ⟨_, rfl, _, _, rfl, rfl, _, rfl, ta, _, 0, _, rfl, rfl, h8, rfl, _, _, rfl, rfl, ?_⟩
          refine ⟨_, rfl, ta, _, 1, _, rfl, rfl, h8, rfl, ?_⟩
          refine ⟨(by show 4 ≤ sizeLine; decide), fun l0 nl0 => ?_⟩
          have s0 : Same H8 (upd H8 l0 (.lst [.int 1, .int 0, .int 3, .int 2])) := Same.new (Same.refl _) nl0
          refine ⟨_, rfl, ta, _, 2, _, rfl, rfl, SqT.of (s0 _ _ (c3 _ _ hta)), rfl, l0, _, _, _, rfl, rfl, SqL.of upd_same, four_at qon.2.2.2.2.1 qon.2.2.2.2.2, (by show 3 ≤ sizeLine; decide), fun t nt => ?_⟩
          obtain ⟨p1, p2, p3⟩ := comp_put (kk := (qF wd q).key) hD2 c1 c2 c3 s0 nt
          refine hR _ _ p1 ⟨upd_same, ?_, p3⟩
          rw [List.take_add_one, List.getElem?_map, eq, Option.map_some, Option.toList_some, List.map_append]
          exact p2
        · rintro ys2 H10 ⟨c1, c2, c3⟩
          have hD10 : D2 ≠ n ∧ D2 ≠ m := ⟨fun z => (by subst z; rw [hn9] at hD2; cases hD2), fun z => (by subst z; rw [hm9] at hD2; cases hD2)⟩
          have hn10 := c3 _ _ hn9
          have e1 : (line.map (qF wd)).take ysl.length = line.map (qF wd) := List.take_of_length_le (by rw [List.length_map, tl.length, List.length_map]; exact Nat.le_refl _)
          rw [e1] at c2
          refine ⟨n, zs, _, rfl, rfl, hn10, small1000 (by omega), ?_⟩
          have lz11 := line_put (H7 := H9) hn10 (lz9.keep (fun b ys' e nb => ⟨nb, c3 _ _ e⟩) (Tk.of c3)) hD10 c1 c2
          rw [← takes] at lz11
          refine ⟨_, _, _, rfl, by rw [upd_ne mn]; exact c3 _ _ hm9, upd_same, ?_, lz11, Same.own (sm9.trans c3) n4⟩
          exact lm9.keep (fun b ys' e nb => ⟨nb, by rw [upd_ne nb.2]; exact c3 _ _ e⟩) ((Tk.of c3).trans (Tk.lst (Tk.refl _) hn10))
    · rintro σ H7 ⟨ms, zs, v7, rfl, hm, hn, lm, lz, sm⟩
      have e1 : (linesM wd hg kvs).take xs.length = linesM wd hg kvs := List.take_of_length_le (by rw [ll.length]; exact Nat.le_refl _)
      rw [e1] at lm lz
      have B7 := B4.keep sm
      have lenT : ∀ φ : Qr → Qr, ((linesM wd hg kvs).map (·.map φ)).length ≤ 300 ∧ ∀ ln ∈ (linesM wd hg kvs).map (·.map φ), ln.length ≤ 300 := fun φ => by
        refine ⟨by rw [List.length_map]; omega, fun ln hln => ?_⟩
        obtain ⟨x, hx, rfl⟩ := List.mem_map.mp hln
        have := few2 x hx
        rw [List.length_map]
        omega
      refine ⟨_, rfl, p, wd, hg, kvs, rfl, B7, fun pt kb H8 npt s8 B8 mv8 => ?_⟩
      refine ⟨pt, hg, wd, kb, rfl, B8, fun lt xt H9 nlt hLt llt _ _ s9 => ?_⟩
      obtain ⟨fb1, fb2⟩ := lines_few2 (kvs := kb) B8.sz B8.tb
      refine ⟨lt, xt, _, _, rfl, hLt, (show LN H9 (· ≠ lt) xt (linesM hg wd kb) from llt), lines_fit B8.sz B8.tb, by omega, fun ln hln => (by have := fb2 ln hln; omega), fun l1 y1 H10 nl1 hl1 ln1 s10 => ?_⟩
      have s710 := s8.trans (s9.trans s10)
      refine ⟨_, rfl, m, ms, _, _, rfl, s710 _ _ hm, lm.keep (fun b ys' e nb => ⟨nb, s710 _ _ e⟩) (Tk.of s710), fit_T sz tb, (lenT _).1, (lenT _).2, fun l2 y2 H11 nl2 hl2 ln2 s11 => ?_⟩
      rw [canon_T sz tb B8.tb mv8] at ln1
      have r1 : RdV H11 (.ref l1) (.list ((canon ((linesM wd hg kvs).map (·.map (qT hg)))).map lnD)) := .lst (s11 _ _ hl1) (LN.rdvs (ln1.keep (ok' := (· ≠ l1)) (fun b ys' e nb => ⟨nb, s11 _ _ e⟩) (Tk.of s11)))
      have r2 : RdV H11 (.ref l2) (.list ((canon ((linesM wd hg kvs).map (·.map (qT hg)))).map lnD)) := .lst hl2 (LN.rdvs ln2)
      refine ⟨_, _, r1, r2, lns_lay _, lns_lay _, lns_depth _, _, rfl, ?_⟩
      rw [lns_eqv]
      refine iteF ?_
      have s711 := s710.trans s11
      have B11 := B7.keep s711
      refine ⟨_, rfl, p, wd, hg, kvs, rfl, B11, fun pf kf H12 npf s12 B12 mv12 => ?_⟩
      refine ⟨pf, wd, hg, kf, rfl, B12, fun lf xf H13 nlf hLf llf _ _ s13 => ?_⟩
      obtain ⟨ff1, ff2⟩ := lines_few2 (kvs := kf) B12.sz B12.tb
      refine ⟨lf, xf, _, _, rfl, hLf, (show LN H13 (· ≠ lf) xf (linesM wd hg kf) from llf), lines_fit B12.sz B12.tb, by omega, fun ln hln => (by have := ff2 ln hln; omega), fun l3 y3 H14 nl3 hl3 ln3 s14 => ?_⟩
      have s714 := s711.trans (s12.trans (s13.trans s14))
      refine ⟨_, rfl, n, zs, _, _, rfl, s714 _ _ hn, lz.keep (fun b ys' e nb => ⟨nb, s714 _ _ e⟩) (Tk.of s714), fit_F sz tb, (lenT _).1, (lenT _).2, fun l4 y4 H15 nl4 hl4 ln4 s15 => ?_⟩
      rw [canon_F sz tb B12.tb mv12] at ln3
      have r3 : RdV H15 (.ref l3) (.list ((canon ((linesM wd hg kvs).map (·.map (qF wd)))).map lnD)) := .lst (s15 _ _ hl3) (LN.rdvs (ln3.keep (ok' := (· ≠ l3)) (fun b ys' e nb => ⟨nb, s15 _ _ e⟩) (Tk.of s15)))
      have r4 : RdV H15 (.ref l4) (.list ((canon ((linesM wd hg kvs).map (·.map (qF wd)))).map lnD)) := .lst hl4 (LN.rdvs ln4)
      refine ⟨_, _, r3, r4, lns_lay _, lns_lay _, lns_depth _, ?_⟩
      rw [lns_eqv]
      exact k H15
end
theorem all_mk {l : PySem.W.OpenLaw} {w : World} {K : PySem.W.Frag} {h : Heap} {mg : Str → Option Value} {fa C : Addr} (X : K.In h) (G : h.Ns mainGlobals mg) (hfa : mg "law" = some (.ref fa))
    {f0 : Addr} {od0 an0 : Option Addr} {sl0 : Array (Option Value)} {oc0 kV0 dc0 pm0 cd0 ct0 : Value}
    {f1 : Addr} {od1 an1 : Option Addr} {sl1 : Array (Option Value)} {oc1 kV1 dc1 pm1 cd1 ct1 : Value}
    {f2 : Addr} {od2 an2 : Option Addr} {sl2 : Array (Option Value)} {oc2 kV2 dc2 pm2 cd2 ct2 : Value}
    {f3 : Addr} {od3 an3 : Option Addr} {sl3 : Array (Option Value)} {oc3 kV3 dc3 pm3 cd3 ct3 : Value}
    {f4 : Addr} {od4 an4 : Option Addr} {sl4 : Array (Option Value)} {oc4 kV4 dc4 pm4 cd4 ct4 : Value}
    {f5 : Addr} {od5 an5 : Option Addr} {sl5 : Array (Option Value)} {oc5 kV5 dc5 pm5 cd5 ct5 : Value}
    {f6 : Addr} {od6 an6 : Option Addr} {sl6 : Array (Option Value)} {oc6 kV6 dc6 pm6 cd6 ct6 : Value}
    {f7 : Addr} {od7 an7 : Option Addr} {sl7 : Array (Option Value)} {oc7 kV7 dc7 pm7 cd7 ct7 : Value}
    {f8 : Addr} {od8 an8 : Option Addr} {sl8 : Array (Option Value)} {oc8 kV8 dc8 pm8 cd8 ct8 : Value}
    {f9 : Addr} {od9 an9 : Option Addr} {sl9 : Array (Option Value)} {oc9 kV9 dc9 pm9 cd9 ct9 : Value}
    {f10 : Addr} {od10 an10 : Option Addr} {sl10 : Array (Option Value)} {oc10 kV10 dc10 pm10 cd10 ct10 : Value}
    {f11 : Addr} {od11 an11 : Option Addr} {sl11 : Array (Option Value)} {oc11 kV11 dc11 pm11 cd11 ct11 : Value}
    {f12 : Addr} {od12 an12 : Option Addr} {sl12 : Array (Option Value)} {oc12 kV12 dc12 pm12 cd12 ct12 : Value}
    {f13 : Addr} {od13 an13 : Option Addr} {sl13 : Array (Option Value)} {oc13 kV13 dc13 pm13 cd13 ct13 : Value}
    {f14 : Addr} {od14 an14 : Option Addr} {sl14 : Array (Option Value)} {oc14 kV14 dc14 pm14 cd14 ct14 : Value}
    {f15 : Addr} {od15 an15 : Option Addr} {sl15 : Array (Option Value)} {oc15 kV15 dc15 pm15 cd15 ct15 : Value}
    {f16 : Addr} {od16 an16 : Option Addr} {sl16 : Array (Option Value)} {oc16 kV16 dc16 pm16 cd16 ct16 : Value}
    {f17 : Addr} {od17 an17 : Option Addr} {sl17 : Array (Option Value)} {oc17 kV17 dc17 pm17 cd17 ct17 : Value}
    {f18 : Addr} {od18 an18 : Option Addr} {sl18 : Array (Option Value)} {oc18 kV18 dc18 pm18 cd18 ct18 : Value}
    {f19 : Addr} {od19 an19 : Option Addr} {sl19 : Array (Option Value)} {oc19 kV19 dc19 pm19 cd19 ct19 : Value}
    {f20 : Addr} {od20 an20 : Option Addr} {sl20 : Array (Option Value)} {oc20 kV20 dc20 pm20 cd20 ct20 : Value}
    {f21 : Addr} {od21 an21 : Option Addr} {sl21 : Array (Option Value)} {oc21 kV21 dc21 pm21 cd21 ct21 : Value}
    {f22 : Addr} {od22 an22 : Option Addr} {sl22 : Array (Option Value)} {oc22 kV22 dc22 pm22 cd22 ct22 : Value}
    {f23 : Addr} {od23 an23 : Option Addr} {sl23 : Array (Option Value)} {oc23 kV23 dc23 pm23 cd23 ct23 : Value}
    {f24 : Addr} {od24 an24 : Option Addr} {sl24 : Array (Option Value)} {oc24 kV24 dc24 pm24 cd24 ct24 : Value}
    {f25 : Addr} {od25 an25 : Option Addr} {sl25 : Array (Option Value)} {oc25 kV25 dc25 pm25 cd25 ct25 : Value}
    {f26 : Addr} {od26 an26 : Option Addr} {sl26 : Array (Option Value)} {oc26 kV26 dc26 pm26 cd26 ct26 : Value}
    {f27 : Addr} {od27 an27 : Option Addr} {sl27 : Array (Option Value)} {oc27 kV27 dc27 pm27 cd27 ct27 : Value}
    {f28 : Addr} {od28 an28 : Option Addr} {sl28 : Array (Option Value)} {oc28 kV28 dc28 pm28 cd28 ct28 : Value}
    {tk1 tk2 tk3 : Tok}
    {aS : Addr} {dS : Option Addr} {iS : Array Value} {nS0 : Nat} {slS : Array (Option Value)}
    {aT t1 t2 t3 : Addr} {dT d1 d2 d3 : Option Addr} {esT : Array DictEntry} {epT m1 m2 m3 : Nat} {it1 it2 it3 : Array Value} {slT sl1x sl2x sl3x : Array (Option Value)}
    {aU : Addr} {dU : Option Addr} {esU : Array DictEntry} {epU : Nat} {slU : Array (Option Value)}
    (aC : PySem.W.nsIn K mainGlobals "Board" = some (some (.ref C)))
    (a0 : PySem.W.nsIn K mainGlobals "is_size" = some (some (.ref f0)))
    (l0 : K.lookup f0 = some ⟨oc0, od0, .func (PySem.W.fnOf "is_size" "is_size" (defArgs s_is_size) (defBody s_is_size) (defScope s_is_size) .none kV0 dc0 pm0 an0 cd0 ct0), sl0⟩) (c0 : PySem.W.codeIn K cd0 "is_size" = true) (k0 : PySem.W.keepIn K (.ref f0) = true)
    (a1 : PySem.W.nsIn K mainGlobals "doors_of" = some (some (.ref f1)))
    (l1 : K.lookup f1 = some ⟨oc1, od1, .func (PySem.W.fnOf "doors_of" "doors_of" (defArgs s_doors_of) (defBody s_doors_of) (defScope s_doors_of) .none kV1 dc1 pm1 an1 cd1 ct1), sl1⟩) (c1 : PySem.W.codeIn K cd1 "doors_of" = true) (k1 : PySem.W.keepIn K (.ref f1) = true)
    (a2 : PySem.W.findIn K (.ref C) "__init__" = some (some (.ref f2))) (i2 : PySem.W.isFn K (.ref f2) = true)
    (l2 : K.lookup f2 = some ⟨oc2, od2, .func (PySem.W.fnOf "__init__" "Board.__init__" (defArgs s_init) (defBody s_init) (defScope s_init) .none kV2 dc2 pm2 an2 cd2 ct2), sl2⟩) (c2 : PySem.W.codeIn K cd2 "Board.__init__" = true) (k2 : PySem.W.keepIn K (.ref f2) = true)
    (a3 : PySem.W.findIn K (.ref C) "demand" = some (some (.ref f3))) (i3 : PySem.W.isFn K (.ref f3) = true)
    (l3 : K.lookup f3 = some ⟨oc3, od3, .func (PySem.W.fnOf "demand" "Board.demand" (defArgs s_demand) (defBody s_demand) (defScope s_demand) .none kV3 dc3 pm3 an3 cd3 ct3), sl3⟩) (c3 : PySem.W.codeIn K cd3 "Board.demand" = true) (k3 : PySem.W.keepIn K (.ref f3) = true)
    (a4 : PySem.W.findIn K (.ref C) "sign" = some (some (.ref f4))) (i4 : PySem.W.isFn K (.ref f4) = true)
    (l4 : K.lookup f4 = some ⟨oc4, od4, .func (PySem.W.fnOf "sign" "Board.sign" (defArgs s_sign) (defBody s_sign) (defScope s_sign) .none kV4 dc4 pm4 an4 cd4 ct4), sl4⟩) (c4 : PySem.W.codeIn K cd4 "Board.sign" = true) (k4 : PySem.W.keepIn K (.ref f4) = true)
    (a5 : PySem.W.findIn K (.ref C) "changed" = some (some (.ref f5))) (i5 : PySem.W.isFn K (.ref f5) = true)
    (l5 : K.lookup f5 = some ⟨oc5, od5, .func (PySem.W.fnOf "changed" "Board.changed" (defArgs s_changed) (defBody s_changed) (defScope s_changed) .none kV5 dc5 pm5 an5 cd5 ct5), sl5⟩) (c5 : PySem.W.codeIn K cd5 "Board.changed" = true) (k5 : PySem.W.keepIn K (.ref f5) = true)
    (a6 : PySem.W.findIn K (.ref C) "doors" = some (some (.ref f6))) (i6 : PySem.W.isFn K (.ref f6) = true)
    (l6 : K.lookup f6 = some ⟨oc6, od6, .func (PySem.W.fnOf "doors" "Board.doors" (defArgs s_doors) (defBody s_doors) (defScope s_doors) .none kV6 dc6 pm6 an6 cd6 ct6), sl6⟩) (c6 : PySem.W.codeIn K cd6 "Board.doors" = true) (k6 : PySem.W.keepIn K (.ref f6) = true)
    (a7 : PySem.W.nsIn K mainGlobals "with_signs" = some (some (.ref f7)))
    (l7 : K.lookup f7 = some ⟨oc7, od7, .func (PySem.W.fnOf "with_signs" "with_signs" (defArgs s_with_signs) (defBody s_with_signs) (defScope s_with_signs) .none kV7 dc7 pm7 an7 cd7 ct7), sl7⟩) (c7 : PySem.W.codeIn K cd7 "with_signs" = true) (k7 : PySem.W.keepIn K (.ref f7) = true)
    (a8 : PySem.W.nsIn K mainGlobals "turned_door" = some (some (.ref f8)))
    (l8 : K.lookup f8 = some ⟨oc8, od8, .func (PySem.W.fnOf "turned_door" "turned_door" (defArgs s_turned_door) (defBody s_turned_door) (defScope s_turned_door) .none kV8 dc8 pm8 an8 cd8 ct8), sl8⟩) (c8 : PySem.W.codeIn K cd8 "turned_door" = true) (k8 : PySem.W.keepIn K (.ref f8) = true)
    (a9 : PySem.W.nsIn K mainGlobals "turned" = some (some (.ref f9)))
    (l9 : K.lookup f9 = some ⟨oc9, od9, .func (PySem.W.fnOf "turned" "turned" (defArgs s_turned) (defBody s_turned) (defScope s_turned) .none kV9 dc9 pm9 an9 cd9 ct9), sl9⟩) (c9 : PySem.W.codeIn K cd9 "turned" = true) (k9 : PySem.W.keepIn K (.ref f9) = true)
    (a10 : PySem.W.nsIn K mainGlobals "flipped_door" = some (some (.ref f10)))
    (l10 : K.lookup f10 = some ⟨oc10, od10, .func (PySem.W.fnOf "flipped_door" "flipped_door" (defArgs s_flipped_door) (defBody s_flipped_door) (defScope s_flipped_door) .none kV10 dc10 pm10 an10 cd10 ct10), sl10⟩) (c10 : PySem.W.codeIn K cd10 "flipped_door" = true) (k10 : PySem.W.keepIn K (.ref f10) = true)
    (a11 : PySem.W.nsIn K mainGlobals "flipped" = some (some (.ref f11)))
    (l11 : K.lookup f11 = some ⟨oc11, od11, .func (PySem.W.fnOf "flipped" "flipped" (defArgs s_flipped) (defBody s_flipped) (defScope s_flipped) .none kV11 dc11 pm11 an11 cd11 ct11), sl11⟩) (c11 : PySem.W.codeIn K cd11 "flipped" = true) (k11 : PySem.W.keepIn K (.ref f11) = true)
    (a12 : PySem.W.nsIn K mainGlobals "wall" = some (some (.ref f12)))
    (l12 : K.lookup f12 = some ⟨oc12, od12, .func (PySem.W.fnOf "wall" "wall" (defArgs s_wall) (defBody s_wall) (defScope s_wall) .none kV12 dc12 pm12 an12 cd12 ct12), sl12⟩) (c12 : PySem.W.codeIn K cd12 "wall" = true) (k12 : PySem.W.keepIn K (.ref f12) = true)
    (a13 : PySem.W.nsIn K mainGlobals "is_east" = some (some (.ref f13)))
    (l13 : K.lookup f13 = some ⟨oc13, od13, .func (PySem.W.fnOf "is_east" "is_east" (defArgs s_is_east) (defBody s_is_east) (defScope s_is_east) .none kV13 dc13 pm13 an13 cd13 ct13), sl13⟩) (c13 : PySem.W.codeIn K cd13 "is_east" = true) (k13 : PySem.W.keepIn K (.ref f13) = true)
    (a14 : PySem.W.nsIn K mainGlobals "is_south" = some (some (.ref f14)))
    (l14 : K.lookup f14 = some ⟨oc14, od14, .func (PySem.W.fnOf "is_south" "is_south" (defArgs s_is_south) (defBody s_is_south) (defScope s_is_south) .none kV14 dc14 pm14 an14 cd14 ct14), sl14⟩) (c14 : PySem.W.codeIn K cd14 "is_south" = true) (k14 : PySem.W.keepIn K (.ref f14) = true)
    (a15 : PySem.W.nsIn K mainGlobals "neighbour" = some (some (.ref f15)))
    (l15 : K.lookup f15 = some ⟨oc15, od15, .func (PySem.W.fnOf "neighbour" "neighbour" (defArgs s_neighbour) (defBody s_neighbour) (defScope s_neighbour) .none kV15 dc15 pm15 an15 cd15 ct15), sl15⟩) (c15 : PySem.W.codeIn K cd15 "neighbour" = true) (k15 : PySem.W.keepIn K (.ref f15) = true)
    (a16 : PySem.W.nsIn K mainGlobals "sign_beside" = some (some (.ref f16)))
    (l16 : K.lookup f16 = some ⟨oc16, od16, .func (PySem.W.fnOf "sign_beside" "sign_beside" (defArgs s_sign_beside) (defBody s_sign_beside) (defScope s_sign_beside) .none kV16 dc16 pm16 an16 cd16 ct16), sl16⟩) (c16 : PySem.W.codeIn K cd16 "sign_beside" = true) (k16 : PySem.W.keepIn K (.ref f16) = true)
    (a17 : PySem.W.nsIn K mainGlobals "led" = some (some (.ref f17)))
    (l17 : K.lookup f17 = some ⟨oc17, od17, .func (PySem.W.fnOf "led" "led" (defArgs s_led) (defBody s_led) (defScope s_led) .none kV17 dc17 pm17 an17 cd17 ct17), sl17⟩) (c17 : PySem.W.codeIn K cd17 "led" = true) (k17 : PySem.W.keepIn K (.ref f17) = true)
    (a18 : PySem.W.nsIn K mainGlobals "quarters" = some (some (.ref f18)))
    (l18 : K.lookup f18 = some ⟨oc18, od18, .func (PySem.W.fnOf "quarters" "quarters" (defArgs s_quarters) (defBody s_quarters) (defScope s_quarters) .none kV18 dc18 pm18 an18 cd18 ct18), sl18⟩) (c18 : PySem.W.codeIn K cd18 "quarters" = true) (k18 : PySem.W.keepIn K (.ref f18) = true)
    (a19 : PySem.W.nsIn K mainGlobals "line_from" = some (some (.ref f19)))
    (l19 : K.lookup f19 = some ⟨oc19, od19, .func (PySem.W.fnOf "line_from" "line_from" (defArgs s_line_from) (defBody s_line_from) (defScope s_line_from) .none kV19 dc19 pm19 an19 cd19 ct19), sl19⟩) (c19 : PySem.W.codeIn K cd19 "line_from" = true) (k19 : PySem.W.keepIn K (.ref f19) = true)
    (a20 : PySem.W.nsIn K mainGlobals "lines" = some (some (.ref f20)))
    (l20 : K.lookup f20 = some ⟨oc20, od20, .func (PySem.W.fnOf "lines" "lines" (defArgs s_lines) (defBody s_lines) (defScope s_lines) .none kV20 dc20 pm20 an20 cd20 ct20), sl20⟩) (c20 : PySem.W.codeIn K cd20 "lines" = true) (k20 : PySem.W.keepIn K (.ref f20) = true)
    (a21 : PySem.W.nsIn K mainGlobals "_law_cell_at" = some (some (.ref f21)))
    (l21 : K.lookup f21 = some ⟨oc21, od21, .func (PySem.W.fnOf "_law_cell_at" "_law_cell_at" (defArgs s_law_cell_at) (defBody s_law_cell_at) (defScope s_law_cell_at) .none kV21 dc21 pm21 an21 cd21 ct21), sl21⟩) (c21 : PySem.W.codeIn K cd21 "_law_cell_at" = true) (k21 : PySem.W.keepIn K (.ref f21) = true)
    (a22 : PySem.W.nsIn K mainGlobals "_law_mix" = some (some (.ref f22)))
    (l22 : K.lookup f22 = some ⟨oc22, od22, .func (PySem.W.fnOf "_law_mix" "_law_mix" (defArgs s_law_mix) (defBody s_law_mix) (defScope s_law_mix) .none kV22 dc22 pm22 an22 cd22 ct22), sl22⟩) (c22 : PySem.W.codeIn K cd22 "_law_mix" = true) (k22 : PySem.W.keepIn K (.ref f22) = true)
    (a23 : PySem.W.nsIn K mainGlobals "_law_size" = some (some (.ref f23)))
    (l23 : K.lookup f23 = some ⟨oc23, od23, .func (PySem.W.fnOf "_law_size" "_law_size" (defArgs s_law_size) (defBody s_law_size) (defScope s_law_size) .none kV23 dc23 pm23 an23 cd23 ct23), sl23⟩) (c23 : PySem.W.codeIn K cd23 "_law_size" = true) (k23 : PySem.W.keepIn K (.ref f23) = true)
    (a24 : PySem.W.nsIn K mainGlobals "_law_doors" = some (some (.ref f24)))
    (l24 : K.lookup f24 = some ⟨oc24, od24, .func (PySem.W.fnOf "_law_doors" "_law_doors" (defArgs s_law_doors) (defBody s_law_doors) (defScope s_law_doors) .none kV24 dc24 pm24 an24 cd24 ct24), sl24⟩) (c24 : PySem.W.codeIn K cd24 "_law_doors" = true) (k24 : PySem.W.keepIn K (.ref f24) = true)
    (a25 : PySem.W.nsIn K mainGlobals "_law_signs" = some (some (.ref f25)))
    (l25 : K.lookup f25 = some ⟨oc25, od25, .func (PySem.W.fnOf "_law_signs" "_law_signs" (defArgs s_law_signs) (defBody s_law_signs) (defScope s_law_signs) .none kV25 dc25 pm25 an25 cd25 ct25), sl25⟩) (c25 : PySem.W.codeIn K cd25 "_law_signs" = true) (k25 : PySem.W.keepIn K (.ref f25) = true)
    (a26 : PySem.W.nsIn K mainGlobals "_law_built" = some (some (.ref f26)))
    (l26 : K.lookup f26 = some ⟨oc26, od26, .func (PySem.W.fnOf "_law_built" "_law_built" (defArgs s_law_built) (defBody s_law_built) (defScope s_law_built) .none kV26 dc26 pm26 an26 cd26 ct26), sl26⟩) (c26 : PySem.W.codeIn K cd26 "_law_built" = true) (k26 : PySem.W.keepIn K (.ref f26) = true)
    (a27 : PySem.W.nsIn K mainGlobals "_law_sorted" = some (some (.ref f27)))
    (l27 : K.lookup f27 = some ⟨oc27, od27, .func (PySem.W.fnOf "_law_sorted" "_law_sorted" (defArgs s_law_sorted) (defBody s_law_sorted) (defScope s_law_sorted) .none kV27 dc27 pm27 an27 cd27 ct27), sl27⟩) (c27 : PySem.W.codeIn K cd27 "_law_sorted" = true) (k27 : PySem.W.keepIn K (.ref f27) = true)
    (a28 : PySem.W.nsIn K mainGlobals "law" = some (some (.ref f28)))
    (l28 : K.lookup f28 = some ⟨oc28, od28, .func (PySem.W.fnOf "law" "law" (defArgs s_law) (defBody s_law) (defScope s_law) .none kV28 dc28 pm28 an28 cd28 ct28), sl28⟩) (c28 : PySem.W.codeIn K cd28 "law" = true) (k28 : PySem.W.keepIn K (.ref f28) = true)
    (pg : PySem.W.plainGet K C Str.empty = true) (hd : PySem.W.hasDictIn K C = true) (po : PySem.W.plainOver K C = true) (sa : PySem.W.findIn K (.ref C) "__setattr__" = some (some (.builtin "object.__setattr__"))) (mk : PySem.W.makesIn K C = true) (kc : PySem.W.keepIn K (.ref C) = true)
    (nW : PySem.W.findIn K (.ref C) "wide" = some none) (nH : PySem.W.findIn K (.ref C) "high" = some none) (nS : PySem.W.findIn K (.ref C) "signs" = some none)
    (g1 : PySem.W.nsIn K mainGlobals "MOST_ALONG" = some (some (.int 12 tk1))) (g2 : PySem.W.nsIn K mainGlobals "MOST_DOTS" = some (some (.int 36 tk2))) (g3 : PySem.W.nsIn K mainGlobals "NO_MIRROR" = some (some (.str "." tk3)))
    (g4 : PySem.W.nsIn K mainGlobals "SIGNS" = some (some (.ref aS))) (g5 : K.lookup aS = some ⟨.type "tuple", dS, .seq iS nS0, slS⟩)
    (gT : PySem.W.nsIn K mainGlobals "TURNS" = some (some (.ref aT))) (gT0 : K.lookup aT = some ⟨.type "dict", dT, .dict esT epT, slT⟩)
    (gU : PySem.W.nsIn K mainGlobals "TURNED_SIGNS" = some (some (.ref aU))) (gU0 : K.lookup aU = some ⟨.type "dict", dU, .dict esU epU, slU⟩)
    (z_range : PySem.W.nsIn K mainGlobals "range" = some none)
    (z_len : PySem.W.nsIn K mainGlobals "len" = some none)
    (z_min : PySem.W.nsIn K mainGlobals "min" = some none)
    (z_isinstance : PySem.W.nsIn K mainGlobals "isinstance" = some none)
    (z_int : PySem.W.nsIn K mainGlobals "int" = some none)
    (z_bool : PySem.W.nsIn K mainGlobals "bool" = some none)
    (z_tuple : PySem.W.nsIn K mainGlobals "tuple" = some none)
    (z_list : PySem.W.nsIn K mainGlobals "list" = some none)
    (z_str : PySem.W.nsIn K mainGlobals "str" = some none)
    (z_dict : PySem.W.nsIn K mainGlobals "dict" = some none)
    (z_sorted : PySem.W.nsIn K mainGlobals "sorted" = some none)
    (z_enumerate : PySem.W.nsIn K mainGlobals "enumerate" = some none)
    (vk : tk3 ≠ 0)
    (v5 : iS.size ≤ sizeLine ∧ Vals [.str ".", .str "|", .str "-"] iS.toList)
    (vT : dT = none ∧ slT = #[] ∧ ∃ h1 h2 h3 u1 u2 u3, esT = #[⟨h1, .str "." u1, .ref t1⟩, ⟨h2, .str "|" u2, .ref t2⟩, ⟨h3, .str "-" u3, .ref t3⟩] ∧ h1 = hashStr w "." ∧ h2 = hashStr w "|" ∧ h3 = hashStr w "-")
    (gT1 : K.lookup t1 = some ⟨.type "tuple", d1, .seq it1 m1, sl1x⟩)
    (gT2 : K.lookup t2 = some ⟨.type "tuple", d2, .seq it2 m2, sl2x⟩)
    (gT3 : K.lookup t3 = some ⟨.type "tuple", d3, .seq it3 m3, sl3x⟩)
    (vT1 : it1.size ≤ sizeLine ∧ Vals [.int 2, .int 3, .int 0, .int 1] it1.toList)
    (vT2 : it2.size ≤ sizeLine ∧ Vals [.int 3, .int 2, .int 1, .int 0] it2.toList)
    (vT3 : it3.size ≤ sizeLine ∧ Vals [.int 1, .int 0, .int 3, .int 2] it3.toList)
    (vU : dU = none ∧ slU = #[] ∧ ∃ h1 h2 h3 u1 u2 u3 r1 r2 r3, esU = #[⟨h1, .str "." u1, .str "." r1⟩, ⟨h2, .str "|" u2, .str "-" r2⟩, ⟨h3, .str "-" u3, .str "|" r3⟩] ∧ h1 = hashStr w "." ∧ h2 = hashStr w "|" ∧ h3 = hashStr w "-")
    : ∃ fd : FuncData, (∀ (s : Shared) (v : Value), BindsTo s fd ⟨[v], []⟩ [("script", v)]) ∧ ∀ base : Heap, K.In base → base.Ns mainGlobals mg → FnOk l.prog w K mg base CX0 8 fa fd ["script"] (spLaw K) := by
  have e := hfa.symm.trans (PySem.W.mg_of X G a28)
  cases e
  have T : Txt K mg C := ⟨⟨pg, hd, po, sa⟩, nW, nH, nS, ⟨_, PySem.W.mg_of X G g1⟩, ⟨_, PySem.W.mg_of X G g2⟩, ⟨_, PySem.W.mg_of X G g3⟩, PySem.W.mg_none_of X G z_range, PySem.W.mg_none_of X G z_len, PySem.W.mg_none_of X G z_min, PySem.W.mg_none_of X G z_isinstance, PySem.W.mg_none_of X G z_int, PySem.W.mg_none_of X G z_bool, PySem.W.mg_none_of X G z_tuple, PySem.W.mg_none_of X G z_list, PySem.W.mg_none_of X G z_str, PySem.W.mg_none_of X G z_dict, PySem.W.mg_none_of X G z_sorted, PySem.W.mg_none_of X G z_enumerate⟩
  have TN : TokN K mg := ⟨_, PySem.W.mg_of X G g3, vk, lt_low g3⟩
  have TS : SgnT K mg := ⟨aS, PySem.W.mg_of X G g4, fun H => .inr ⟨_, iS, nS0, g5, rfl, rfl, v5.1, v5.2⟩⟩
  have TT : Turns l.prog w K mg := turns_mk (PySem.W.mg_of X G gT) gT0 vT.1 vT.2.1 vT.2.2 gT1 gT2 gT3 vT1 vT2 vT3
  have TU : TSigns l.prog w K mg := tsigns_mk (PySem.W.mg_of X G gU) gU0 vU.1 vU.2.1 vU.2.2
  have F0 := fun_mk (st := s_is_size) l0 c0 k0
  have b0 := F0.binds (ps := ["wide", "high"]) fun _ _ _ _ _ _ us hl => match us, hl with | [_, _], _ => rfl
  have F1 := fun_mk (st := s_doors_of) l1 c1 k1
  have b1 := F1.binds (ps := ["wide", "high"]) fun _ _ _ _ _ _ us hl => match us, hl with | [_, _], _ => rfl
  have F2 := fun_mk (st := s_init) l2 c2 k2
  have b2 := F2.binds (ps := ["self", "wide", "high"]) fun _ _ _ _ _ _ us hl => match us, hl with | [_, _, _], _ => rfl
  have F3 := fun_mk (st := s_demand) l3 c3 k3
  have b3 := F3.binds (ps := ["self", "door"]) fun _ _ _ _ _ _ us hl => match us, hl with | [_, _], _ => rfl
  have F4 := fun_mk (st := s_sign) l4 c4 k4
  have b4 := F4.binds (ps := ["self", "door"]) fun _ _ _ _ _ _ us hl => match us, hl with | [_, _], _ => rfl
  have F5 := fun_mk (st := s_changed) l5 c5 k5
  have b5 := F5.binds (ps := ["self", "door", "sign"]) fun _ _ _ _ _ _ us hl => match us, hl with | [_, _, _], _ => rfl
  have F6 := fun_mk (st := s_doors) l6 c6 k6
  have b6 := F6.binds (ps := ["self"]) fun _ _ _ _ _ _ us hl => match us, hl with | [_], _ => rfl
  have F7 := fun_mk (st := s_with_signs) l7 c7 k7
  have b7 := F7.binds (ps := ["wide", "high", "placed"]) fun _ _ _ _ _ _ us hl => match us, hl with | [_, _, _], _ => rfl
  have F8 := fun_mk (st := s_turned_door) l8 c8 k8
  have b8 := F8.binds (ps := ["board", "door"]) fun _ _ _ _ _ _ us hl => match us, hl with | [_, _], _ => rfl
  have F9 := fun_mk (st := s_turned) l9 c9 k9
  have b9 := F9.binds (ps := ["board"]) fun _ _ _ _ _ _ us hl => match us, hl with | [_], _ => rfl
  have F10 := fun_mk (st := s_flipped_door) l10 c10 k10
  have b10 := F10.binds (ps := ["board", "door"]) fun _ _ _ _ _ _ us hl => match us, hl with | [_, _], _ => rfl
  have F11 := fun_mk (st := s_flipped) l11 c11 k11
  have b11 := F11.binds (ps := ["board"]) fun _ _ _ _ _ _ us hl => match us, hl with | [_], _ => rfl
  have F12 := fun_mk (st := s_wall) l12 c12 k12
  have b12 := F12.binds (ps := ["level"]) fun _ _ _ _ _ _ us hl => match us, hl with | [_], _ => rfl
  have F13 := fun_mk (st := s_is_east) l13 c13 k13
  have b13 := F13.binds (ps := ["corner"]) fun _ _ _ _ _ _ us hl => match us, hl with | [_], _ => rfl
  have F14 := fun_mk (st := s_is_south) l14 c14 k14
  have b14 := F14.binds (ps := ["corner"]) fun _ _ _ _ _ _ us hl => match us, hl with | [_], _ => rfl
  have F15 := fun_mk (st := s_neighbour) l15 c15 k15
  have b15 := F15.binds (ps := ["quarter", "level"]) fun _ _ _ _ _ _ us hl => match us, hl with | [_, _], _ => rfl
  have F16 := fun_mk (st := s_sign_beside) l16 c16 k16
  have b16 := F16.binds (ps := ["board", "quarter", "level"]) fun _ _ _ _ _ _ us hl => match us, hl with | [_, _, _], _ => rfl
  have F17 := fun_mk (st := s_led) l17 c17 k17
  have b17 := F17.binds (ps := ["board", "quarter", "level"]) fun _ _ _ _ _ _ us hl => match us, hl with | [_, _, _], _ => rfl
  have F18 := fun_mk (st := s_quarters) l18 c18 k18
  have b18 := F18.binds (ps := ["board"]) fun _ _ _ _ _ _ us hl => match us, hl with | [_], _ => rfl
  have F19 := fun_mk (st := s_line_from) l19 c19 k19
  have b19 := F19.binds (ps := ["board", "first"]) fun _ _ _ _ _ _ us hl => match us, hl with | [_, _], _ => rfl
  have F20 := fun_mk (st := s_lines) l20 c20 k20
  have b20 := F20.binds (ps := ["board"]) fun _ _ _ _ _ _ us hl => match us, hl with | [_], _ => rfl
  have F21 := fun_mk (st := s_law_cell_at) l21 c21 k21
  have b21 := F21.binds (ps := ["script", "k"]) fun _ _ _ _ _ _ us hl => match us, hl with | [_, _], _ => rfl
  have F22 := fun_mk (st := s_law_mix) l22 c22 k22
  have b22 := F22.binds (ps := ["cell", "k"]) fun _ _ _ _ _ _ us hl => match us, hl with | [_, _], _ => rfl
  have F23 := fun_mk (st := s_law_size) l23 c23 k23
  have b23 := F23.binds (ps := ["cell"]) fun _ _ _ _ _ _ us hl => match us, hl with | [_], _ => rfl
  have F24 := fun_mk (st := s_law_doors) l24 c24 k24
  have b24 := F24.binds (ps := ["wide", "high"]) fun _ _ _ _ _ _ us hl => match us, hl with | [_, _], _ => rfl
  have F25 := fun_mk (st := s_law_signs) l25 c25 k25
  have b25 := F25.binds (ps := ["script", "wide", "high"]) fun _ _ _ _ _ _ us hl => match us, hl with | [_, _, _], _ => rfl
  have F26 := fun_mk (st := s_law_built) l26 c26 k26
  have b26 := F26.binds (ps := ["wide", "high", "signs"]) fun _ _ _ _ _ _ us hl => match us, hl with | [_, _, _], _ => rfl
  have F27 := fun_mk (st := s_law_sorted) l27 c27 k27
  have b27 := F27.binds (ps := ["found"]) fun _ _ _ _ _ _ us hl => match us, hl with | [_], _ => rfl
  have F28 := fun_mk (st := s_law) l28 c28 k28
  refine ⟨PySem.W.fnOf "law" "law" (defArgs s_law) (defBody s_law) (defScope s_law) .none kV28 dc28 pm28 an28 cd28 ct28, fun s v => .of_eq rfl, fun base _ _ => ?_⟩
  have D_is_size : DefAt l.prog w K mg base 1 "is_size" ["wide", "high"] spSize := ⟨_, _, ok_is_size F0 T, PySem.W.mg_of X G a0, k0, b0⟩
  have D_doors_of : DefAt l.prog w K mg base 1 "doors_of" ["wide", "high"] spDoors := ⟨_, _, ok_doors_of F1 T, PySem.W.mg_of X G a1, k1, b1⟩
  have D_Board : ClassAt l.prog w K mg base 2 C "Board" ["self", "wide", "high"] (spInit C) := ⟨_, _, ok_init F2 T D_is_size D_doors_of, ⟨mk, a2, i2, kc⟩, PySem.W.mg_of X G aC, b2⟩
  have D_demand : MethAt l.prog w K mg base 1 C "demand" ["self", "door"] (spDemand C) := ⟨_, _, ok_demand F3 T, ⟨a3, i3, k3⟩, b3⟩
  have D_sign : MethAt l.prog w K mg base 2 C "sign" ["self", "door"] (spSign C) := ⟨_, _, ok_sign F4 T D_demand, ⟨a4, i4, k4⟩, b4⟩
  have D_changed : MethAt l.prog w K mg base 4 C "changed" ["self", "door", "sign"] (spChanged C) := ⟨_, _, ok_changed F5 T TS D_demand D_Board, ⟨a5, i5, k5⟩, b5⟩
  have D_doors : MethAt l.prog w K mg base 1 C "doors" ["self"] (spBDoors C) := ⟨_, _, ok_doors F6 T, ⟨a6, i6, k6⟩, b6⟩
  have D_with_signs : DefAt l.prog w K mg base 5 "with_signs" ["wide", "high", "placed"] (spWith C) := ⟨_, _, ok_with_signs F7 T D_Board D_changed, PySem.W.mg_of X G a7, k7, b7⟩
  have D_turned_door : DefAt l.prog w K mg base 1 "turned_door" ["board", "door"] (spTD C mT) := ⟨_, _, ok_turned_door F8 T, PySem.W.mg_of X G a8, k8, b8⟩
  have D_turned : DefAt l.prog w K mg base 6 "turned" ["board"] (spTurned C) := ⟨_, _, ok_turned F9 T TU D_turned_door D_sign D_doors D_with_signs, PySem.W.mg_of X G a9, k9, b9⟩
  have D_flipped_door : DefAt l.prog w K mg base 1 "flipped_door" ["board", "door"] (spTD C mF) := ⟨_, _, ok_flipped_door F10 T, PySem.W.mg_of X G a10, k10, b10⟩
  have D_flipped : DefAt l.prog w K mg base 6 "flipped" ["board"] (spFlipped C) := ⟨_, _, ok_flipped F11 T D_flipped_door D_sign D_doors D_with_signs, PySem.W.mg_of X G a11, k11, b11⟩
  have D_wall : DefAt l.prog w K mg base 1 "wall" ["level"] spWall := ⟨_, _, ok_wall F12 , PySem.W.mg_of X G a12, k12, b12⟩
  have D_is_east : DefAt l.prog w K mg base 1 "is_east" ["corner"] spEast := ⟨_, _, ok_is_east F13 , PySem.W.mg_of X G a13, k13, b13⟩
  have D_is_south : DefAt l.prog w K mg base 1 "is_south" ["corner"] spSouth := ⟨_, _, ok_is_south F14 , PySem.W.mg_of X G a14, k14, b14⟩
  have D_neighbour : DefAt l.prog w K mg base 2 "neighbour" ["quarter", "level"] spNb := ⟨_, _, ok_neighbour F15 D_is_east D_is_south, PySem.W.mg_of X G a15, k15, b15⟩
  have D_sign_beside : DefAt l.prog w K mg base 3 "sign_beside" ["board", "quarter", "level"] (spBeside C) := ⟨_, _, ok_sign_beside F16 T D_neighbour D_wall D_sign, PySem.W.mg_of X G a16, k16, b16⟩
  have D_led : DefAt l.prog w K mg base 4 "led" ["board", "quarter", "level"] (spLed C) := ⟨_, _, ok_led F17 T TT D_neighbour D_wall D_sign_beside, PySem.W.mg_of X G a17, k17, b17⟩
  have D_quarters : DefAt l.prog w K mg base 1 "quarters" ["board"] (spQs C) := ⟨_, _, ok_quarters F18 T, PySem.W.mg_of X G a18, k18, b18⟩
  have D_line_from : DefAt l.prog w K mg base 5 "line_from" ["board", "first"] (spLine C) := ⟨_, _, ok_line_from F19 T D_led, PySem.W.mg_of X G a19, k19, b19⟩
  have D_lines : DefAt l.prog w K mg base 6 "lines" ["board"] (spLines C) := ⟨_, _, ok_lines F20 T D_quarters D_line_from, PySem.W.mg_of X G a20, k20, b20⟩
  have D_law_cell_at : DefAt l.prog w K mg base 1 "_law_cell_at" ["script", "k"] (spCell K) := ⟨_, _, ok_law_cell_at F21 T, PySem.W.mg_of X G a21, k21, b21⟩
  have D_law_mix : DefAt l.prog w K mg base 1 "_law_mix" ["cell", "k"] spMix := ⟨_, _, ok_law_mix F22 , PySem.W.mg_of X G a22, k22, b22⟩
  have D_law_size : DefAt l.prog w K mg base 1 "_law_size" ["cell"] spLawSize := ⟨_, _, ok_law_size F23 , PySem.W.mg_of X G a23, k23, b23⟩
  have D_law_doors : DefAt l.prog w K mg base 1 "_law_doors" ["wide", "high"] spDoors := ⟨_, _, ok_law_doors F24 T, PySem.W.mg_of X G a24, k24, b24⟩
  have D_law_signs : DefAt l.prog w K mg base 2 "_law_signs" ["script", "wide", "high"] (spSigns K) := ⟨_, _, ok_law_signs F25 T D_law_cell_at D_law_mix D_law_doors, PySem.W.mg_of X G a25, k25, b25⟩
  have D_law_built : DefAt l.prog w K mg base 5 "_law_built" ["wide", "high", "signs"] (spBuilt C) := ⟨_, _, ok_law_built F26 T D_law_doors D_Board D_changed, PySem.W.mg_of X G a26, k26, b26⟩
  have D_law_sorted : DefAt l.prog w K mg base 1 "_law_sorted" ["found"] spSorted := ⟨_, _, ok_law_sorted F27 T, PySem.W.mg_of X G a27, k27, b27⟩
  exact ok_law F28 T D_law_cell_at D_law_size D_law_signs D_law_built D_lines D_law_sorted D_turned D_flipped
theorem walk {l : PySem.W.OpenLaw} {q : Program} {loose : List Str} {XP : (Str → Option Value) → Heap → Prop} {as0 : List Addr} {nn tt : Nat} {d : DefRec} {K : Params → PySem.W.Frag} (hn : l.most = some 63) (hdf : d.params.defaults = [])
    (hkeys : ∀ P, as0 = (K P).map (·.1)) (hlow : ∀ w : World, lowT (K w.params) ≤ tt)
    (F : ∀ (w : World) (mg : Str → Option Value) (fa : Addr) (h : Heap), (K w.params).In h → h.Ns mainGlobals mg → mg d.name = some (.ref fa) →
      ∃ fd : FuncData, (∀ (s : Shared) (u : Value), BindsTo s fd ⟨[u], []⟩ [("script", u)]) ∧ ∀ base : Heap, (K w.params).In base → base.Ns mainGlobals mg → FnOk l.prog w (K w.params) mg base CX0 8 fa fd ["script"] (spLaw (K w.params))) :
    PySem.W.WalkX q loose XP (PySem.W.X.obsZ as0) (PySem.W.X.valZ K nn tt) l.row.toRowW d [] (fun f vs => PySem.call f vs) :=
  L2.walkX_of (n := 63) (k := 8) (x := "script") (sp := spLaw) hn (by decide) hdf ⟨rfl, by decide, by decide⟩ hkeys hlow F (fun _ _ a ns hl _ hS => ⟨a, ns, rfl, hS, hl, fun _ => rfl⟩)
end Sl
open PySem PySem.W PyProof.Rows
set_option maxRecDepth 100000 in
set_option maxHeartbeats 0 in
theorem PySem.Challenge.cw_sandline_k15_whole_lines_turned_holds : PySem.Challenge.rw_sandline_k15_whole_lines_turned.Holds := by
  w_on; o_law; z_head; (case hw => w_witness2)
  k_fill
  refine Sl.walk (l := PySem.Challenge.rw_sandline_k15_whole_lines_turned) rfl rfl (fun _ => by kernel_rfl) ?low ?F
  case low =>
    intro w
    refine' L2.low_of ?g ?h
    (case g => k_is)
    (case h => exact Nat.le_of_ble_eq_true rfl)
  case F =>
    intro w mg fa h KX G hmg
    refine' Sl.all_mk KX G hmg ?aC ?a0 ?l0 ?c0 ?k0 ?a1 ?l1 ?c1 ?k1 ?a2 ?i2 ?l2 ?c2 ?k2 ?a3 ?i3 ?l3 ?c3 ?k3 ?a4 ?i4 ?l4 ?c4 ?k4 ?a5 ?i5 ?l5 ?c5 ?k5 ?a6 ?i6 ?l6 ?c6 ?k6 ?a7 ?l7 ?c7 ?k7 ?a8 ?l8 ?c8 ?k8 ?a9 ?l9 ?c9 ?k9 ?a10 ?l10 ?c10 ?k10 ?a11 ?l11 ?c11 ?k11 ?a12 ?l12 ?c12 ?k12 ?a13 ?l13 ?c13 ?k13 ?a14 ?l14 ?c14 ?k14 ?a15 ?l15 ?c15 ?k15 ?a16 ?l16 ?c16 ?k16 ?a17 ?l17 ?c17 ?k17 ?a18 ?l18 ?c18 ?k18 ?a19 ?l19 ?c19 ?k19 ?a20 ?l20 ?c20 ?k20 ?a21 ?l21 ?c21 ?k21 ?a22 ?l22 ?c22 ?k22 ?a23 ?l23 ?c23 ?k23 ?a24 ?l24 ?c24 ?k24 ?a25 ?l25 ?c25 ?k25 ?a26 ?l26 ?c26 ?k26 ?a27 ?l27 ?c27 ?k27 ?a28 ?l28 ?c28 ?k28 ?pg ?hd ?po ?sa ?mk ?kc ?nW ?nH ?nS ?g1 ?g2 ?g3 ?g4 ?g5 ?gT ?gT0 ?gU ?gU0 ?z_range ?z_len ?z_min ?z_isinstance ?z_int ?z_bool ?z_tuple ?z_list ?z_str ?z_dict ?z_sorted ?z_enumerate ?vk ?v5 ?vT ?gT1 ?gT2 ?gT3 ?vT1 ?vT2 ?vT3 ?vU
    (case aC => k_is)
    (case a0 => k_is)
    (case l0 => k_is)
    (case c0 => k_is)
    (case k0 => k_is)
    (case a1 => k_is)
    (case l1 => k_is)
    (case c1 => k_is)
    (case k1 => k_is)
    (case a2 => k_is)
    (case i2 => k_is)
    (case l2 => k_is)
    (case c2 => k_is)
    (case k2 => k_is)
    (case a3 => k_is)
    (case i3 => k_is)
    (case l3 => k_is)
    (case c3 => k_is)
    (case k3 => k_is)
    (case a4 => k_is)
    (case i4 => k_is)
    (case l4 => k_is)
    (case c4 => k_is)
    (case k4 => k_is)
    (case a5 => k_is)
    (case i5 => k_is)
    (case l5 => k_is)
    (case c5 => k_is)
    (case k5 => k_is)
    (case a6 => k_is)
    (case i6 => k_is)
    (case l6 => k_is)
    (case c6 => k_is)
    (case k6 => k_is)
    (case a7 => k_is)
    (case l7 => k_is)
    (case c7 => k_is)
    (case k7 => k_is)
    (case a8 => k_is)
    (case l8 => k_is)
    (case c8 => k_is)
    (case k8 => k_is)
    (case a9 => k_is)
    (case l9 => k_is)
    (case c9 => k_is)
    (case k9 => k_is)
    (case a10 => k_is)
    (case l10 => k_is)
    (case c10 => k_is)
    (case k10 => k_is)
    (case a11 => k_is)
    (case l11 => k_is)
    (case c11 => k_is)
    (case k11 => k_is)
    (case a12 => k_is)
    (case l12 => k_is)
    (case c12 => k_is)
    (case k12 => k_is)
    (case a13 => k_is)
    (case l13 => k_is)
    (case c13 => k_is)
    (case k13 => k_is)
    (case a14 => k_is)
    (case l14 => k_is)
    (case c14 => k_is)
    (case k14 => k_is)
    (case a15 => k_is)
    (case l15 => k_is)
    (case c15 => k_is)
    (case k15 => k_is)
    (case a16 => k_is)
    (case l16 => k_is)
    (case c16 => k_is)
    (case k16 => k_is)
    (case a17 => k_is)
    (case l17 => k_is)
    (case c17 => k_is)
    (case k17 => k_is)
    (case a18 => k_is)
    (case l18 => k_is)
    (case c18 => k_is)
    (case k18 => k_is)
    (case a19 => k_is)
    (case l19 => k_is)
    (case c19 => k_is)
    (case k19 => k_is)
    (case a20 => k_is)
    (case l20 => k_is)
    (case c20 => k_is)
    (case k20 => k_is)
    (case a21 => k_is)
    (case l21 => k_is)
    (case c21 => k_is)
    (case k21 => k_is)
    (case a22 => k_is)
    (case l22 => k_is)
    (case c22 => k_is)
    (case k22 => k_is)
    (case a23 => k_is)
    (case l23 => k_is)
    (case c23 => k_is)
    (case k23 => k_is)
    (case a24 => k_is)
    (case l24 => k_is)
    (case c24 => k_is)
    (case k24 => k_is)
    (case a25 => k_is)
    (case l25 => k_is)
    (case c25 => k_is)
    (case k25 => k_is)
    (case a26 => k_is)
    (case l26 => k_is)
    (case c26 => k_is)
    (case k26 => k_is)
    (case a27 => k_is)
    (case l27 => k_is)
    (case c27 => k_is)
    (case k27 => k_is)
    (case a28 => k_is)
    (case l28 => k_is)
    (case c28 => k_is)
    (case k28 => k_is)
    (case pg => k_is)
    (case hd => k_is)
    (case po => k_is)
    (case sa => k_is)
    (case mk => k_is)
    (case kc => k_is)
    (case nW => k_is)
    (case nH => k_is)
    (case nS => k_is)
    (case g1 => k_is)
    (case g2 => k_is)
    (case g3 => k_is)
    (case g4 => k_is)
    (case g5 => k_is)
    (case gT => k_is)
    (case gT0 => k_is)
    (case gU => k_is)
    (case gU0 => k_is)
    (case z_range => k_is)
    (case z_len => k_is)
    (case z_min => k_is)
    (case z_isinstance => k_is)
    (case z_int => k_is)
    (case z_bool => k_is)
    (case z_tuple => k_is)
    (case z_list => k_is)
    (case z_str => k_is)
    (case z_dict => k_is)
    (case z_sorted => k_is)
    (case z_enumerate => k_is)
    (case vk => exact Nat.succ_ne_zero _)
    (case v5 => exact ⟨by decide, .cons ⟨_, rfl⟩ (.cons ⟨_, rfl⟩ (.cons ⟨_, rfl⟩ .nil))⟩)
    (case vT => exact ⟨rfl, rfl, _, _, _, _, _, _, rfl, rfl, rfl, rfl⟩)
    (case gT1 => k_is)
    (case gT2 => k_is)
    (case gT3 => k_is)
    (case vT1 => exact ⟨by decide, .cons ⟨_, rfl⟩ (.cons ⟨_, rfl⟩ (.cons ⟨_, rfl⟩ (.cons ⟨_, rfl⟩ .nil)))⟩)
    (case vT2 => exact ⟨by decide, .cons ⟨_, rfl⟩ (.cons ⟨_, rfl⟩ (.cons ⟨_, rfl⟩ (.cons ⟨_, rfl⟩ .nil)))⟩)
    (case vT3 => exact ⟨by decide, .cons ⟨_, rfl⟩ (.cons ⟨_, rfl⟩ (.cons ⟨_, rfl⟩ (.cons ⟨_, rfl⟩ .nil)))⟩)
    (case vU => exact ⟨rfl, rfl, _, _, _, _, _, _, _, _, _, rfl, rfl, rfl, rfl⟩)