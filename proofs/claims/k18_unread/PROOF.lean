import PyProof.Rows.All
import Wide.All
import OpenK.AllK
import Wide.FinOn
import Lean
import PyProof.EqAt
import PyProof.EqKinds
import PyProof.TupleCall
import PySem.Challenge.RW_sandline_k18_unread
import KE.KDictList
import PyProof.CompUse
import PyProof.EnumMake
import PyProof.EnumFor
import PyProof.Rows.EnumRows
import PyProof.StrOps2
import PyProof.ListStr
import PyProof.Rows.StrWeight2
import PyProof.StrReplace2
import PyProof.StrBlockH
import PyProof.StrLawsReplace
import PyProof.SliceStr2
import PyProof.StationsW
import PyProof.ExcBaseAll.ValueError
import KE.KIsAll
import PyProof.ExcArgs
import PyProof.ExcAttrAll.ValueError
import PyProof.RulesAs
import PyProof.NsDelKeeps
import PyProof.Rows.Catch
import KE.RegKIsAll
set_option Elab.async false
set_option linter.all false
set_option maxRecDepth 100000
set_option maxHeartbeats 4000000
namespace L2
open PySem
theorem with_toks {α : Type} {M : Model} {A : Around} {t : Sem α} {Q : α → Shared → Prop} {E : Value → Shared → Prop} {s : Shared} (h : wpAny M A t (fun a s' => s.toks ≤ s'.toks → Q a s') (fun e s' => s.toks ≤ s'.toks → E e s') s) : wpAny M A t Q E s :=
  wpAny_with_toks (Nat.le_refl _) h
end L2
namespace L2
open PySem PySem.Spec PyProof.Rows
abbrev Key := Sum Int Str
def keyIs : Key → Value → Bool
  | .inl k, v => Value.isInt k v
  | .inr x, v => Value.isStrOf x v
def keyH (w : World) : Key → Int
  | .inl k => hashInt k
  | .inr x => hashStr w x
theorem keyIs_shape : ∀ {k : Key} {v : Value}, keyIs k v = true → (∃ i t, k = Sum.inl i ∧ v = Value.int i t) ∨ (∃ x t, k = Sum.inr x ∧ v = Value.str x t)
  | .inl i, v, h => by
    obtain ⟨t, e⟩ := Value.isInt_shape (k := i) (v := v) h
    exact .inl ⟨i, t, rfl, e⟩
  | .inr x, v, h => by
    obtain ⟨t, e⟩ := Value.isStrOf_shape (x := x) (v := v) h
    exact .inr ⟨x, t, rfl, e⟩
theorem keyIs_int (i : Int) (t : Tok) : keyIs (.inl i) (.int i t) = true := by simp [keyIs, Value.isInt]
theorem keyIs_str (x : Str) (t : Tok) : keyIs (.inr x) (.str x t) = true := by simp [keyIs, Value.isStrOf]
theorem key_ll (a b : Int) : decide ((Sum.inl a : Key) = Sum.inl b) = (a == b) := by
  by_cases e : a = b
  · subst e; simp
  · have h : ¬ (Sum.inl a : Key) = Sum.inl b := fun q => e (Sum.inl.inj q)
    rw [decide_eq_false h]
    exact (beq_eq_false_iff_ne.mpr e).symm
theorem key_rr (a b : Str) : decide ((Sum.inr a : Key) = Sum.inr b) = decide (a = b) := by
  by_cases e : a = b
  · subst e; simp
  · have h : ¬ (Sum.inr a : Key) = Sum.inr b := fun q => e (Sum.inr.inj q)
    rw [decide_eq_false h, decide_eq_false e]
theorem key_lr (a : Int) (b : Str) : decide ((Sum.inl a : Key) = Sum.inr b) = false := decide_eq_false (fun q => nomatch q)
theorem key_rl (a : Str) (b : Int) : decide ((Sum.inr a : Key) = Sum.inl b) = false := decide_eq_false (fun q => nomatch q)
def mixKind (prog : Program) (w : World) : PySem.KeyKind prog w Key where
  is := keyIs
  hash := keyH w
  inj := fun v a b ha hb => by
    rcases keyIs_shape ha with ⟨i, t, rfl, rfl⟩ | ⟨x, t, rfl, rfl⟩
    · rcases keyIs_shape hb with ⟨j, u, rfl, e⟩ | ⟨y, u, rfl, e⟩
      · injection e with e1 _; rw [e1]
      · exact nomatch e
    · rcases keyIs_shape hb with ⟨j, u, rfl, e⟩ | ⟨y, u, rfl, e⟩
      · exact nomatch e
      · injection e with e1 _; rw [e1]
  byValue := fun k v h => by
    rcases keyIs_shape h with ⟨i, t, rfl, rfl⟩ | ⟨x, t, rfl, rfl⟩ <;> rfl
  pyHash := fun hv h => by
    rcases keyIs_shape hv with ⟨i, t, rfl, rfl⟩ | ⟨x, t, rfl, rfl⟩
    · exact wpAny_pyHash_int h
    · exact wpAny_pyHash_str h
  eqBool := fun hu hv h => by
    rcases keyIs_shape hu with ⟨i, t, rfl, rfl⟩ | ⟨x, t, rfl, rfl⟩
    · rcases keyIs_shape hv with ⟨j, u, rfl, rfl⟩ | ⟨y, u, rfl, rfl⟩
      · rw [key_ll] at h; exact wpAny_eqBool_int h
      · rw [key_lr] at h; exact SeqAt.EqAt.int_str i t y u _ _ _ _ h
    · rcases keyIs_shape hv with ⟨j, u, rfl, rfl⟩ | ⟨y, u, rfl, rfl⟩
      · rw [key_rl] at h; exact SeqAt.EqAt.str_int x t j u _ _ _ _ h
      · rw [key_rr] at h; exact wpAny_eqBool_str h
  «strs» := fun k x t v h => by
    rcases keyIs_shape h with ⟨i, u, rfl, e⟩ | ⟨y, u, rfl, e⟩
    · exact nomatch e
    · injection e with e1 _
      subst e1
      cases v <;> rfl
theorem mixKind_int (prog : Program) (w : World) (i : Int) (t : Tok) : (mixKind prog w).is (.inl i) (.int i t) = true := keyIs_int i t
theorem mixKind_str (prog : Program) (w : World) (x : Str) (t : Tok) : (mixKind prog w).is (.inr x) (.str x t) = true := keyIs_str x t
end L2
namespace L2
open PySem PySem.Spec PyProof.Rows
inductive V where
  | non | bl (b : Bool) | int (i : Int) | str (x : Str) | byt (b : Array UInt8) | flt (b : UInt64) | ref (a : Addr) | ty (n : String)
  deriving DecidableEq
def RelV : V → Value → Prop
  | .non, u => u = Value.none
  | .bl b, u => u = Value.bool b
  | .int i, u => ∃ t, u = Value.int i t
  | .str x, u => ∃ t, u = Value.str x t
  | .byt b, u => ∃ t, u = Value.bytes b t
  | .flt b, u => ∃ t, u = Value.float b t
  | .ref a, u => u = Value.ref a
  | .ty n, u => u = Value.type n
abbrev Vals : List V → List Value → Prop := Paired RelV
theorem Vals.length {xs : List V} {us : List Value} (r : Vals xs us) : xs.length = us.length := Paired.length r
theorem Vals.get : ∀ {xs : List V} {us : List Value} {i : Nat} {x : V}, Vals xs us → xs[i]? = some x → ∃ u, us[i]? = some u ∧ RelV x u
  | _, _, _, _, .nil, e => by simp at e
  | _, _, 0, _, .cons r _, e => by simp at e; subst e; exact ⟨_, rfl, r⟩
  | _, _, i + 1, x, .cons _ t, e => by
    obtain ⟨u, h1, h2⟩ := Vals.get (i := i) (x := x) t (by simpa using e)
    exact ⟨u, by simpa using h1, h2⟩
theorem Vals.set {x : V} {u : Value} (r : RelV x u) : ∀ {xs : List V} {us : List Value} (i : Nat), Vals xs us → Vals (xs.set i x) (us.set i u)
  | _, _, _, .nil => .nil
  | _, _, 0, .cons _ t => .cons r t
  | _, _, i + 1, .cons q t => .cons q (Vals.set r i t)
theorem Vals.append : ∀ {xs ys : List V} {us ws : List Value}, Vals xs us → Vals ys ws → Vals (xs ++ ys) (us ++ ws)
  | _, _, _, _, .nil, s => s
  | _, _, _, _, .cons r t, s => .cons r (Vals.append t s)
theorem Vals.take : ∀ {xs : List V} {us : List Value} (n : Nat), Vals xs us → Vals (xs.take n) (us.take n)
  | _, _, 0, _ => .nil
  | _, _, _ + 1, .nil => .nil
  | _, _, n + 1, .cons r t => .cons r (Vals.take n t)
theorem Vals.drop : ∀ {xs : List V} {us : List Value} (n : Nat), Vals xs us → Vals (xs.drop n) (us.drop n)
  | _, _, 0, r => r
  | _, _, _ + 1, .nil => .nil
  | _, _, n + 1, .cons _ t => Vals.drop n t
theorem Vals.none_of : ∀ {xs : List V} {us : List Value} {i : Nat}, Vals xs us → xs[i]? = none → us[i]? = none := fun {xs us i} r e => by
  have h1 := r.length
  have h2 : xs.length ≤ i := List.getElem?_eq_none_iff.mp e
  exact List.getElem?_eq_none_iff.mpr (by omega)
def RelO : Option V → Option Value → Prop
  | some v, some u => RelV v u
  | none, none => True
  | _, _ => False
def KV {κ : Type} : List (κ × V) → List (κ × Value) → Prop := Paired fun (p : κ × V) (q : κ × Value) => p.1 = q.1 ∧ RelV p.2 q.2
def kV : Key → V
  | .inl i => .int i
  | .inr x => .str x
inductive HO where
  | lst (xs : List V)
  | tup (xs : List V)
  | dK (kvs : List (Key × V)) | dT (kvs : List (List Key × V))
  | set (S : Int → Bool) (n : Nat)
  | ins (C dx : Addr) (fs : List (Str × V))
  | own (x : Addr)
  | xd (fs : List (Str × V))
  | met (f x : Addr)
  | rng (lo hi : Int)
  | frz (o : Obj) (u : HO)
  | tbl (ps : Array Value)
  | ext (φ : Heap → Prop)
abbrev Hp := Addr → Option HO
def upd (H : Hp) (a : Addr) (o : HO) : Hp := fun b => if b = a then some o else H b
theorem upd_same {H : Hp} {a : Addr} {o : HO} : upd H a o a = some o := by unfold upd; rw [if_pos rfl]
theorem upd_ne {H : Hp} {a b : Addr} {o : HO} (h : b ≠ a) : upd H a o b = H b := by unfold upd; rw [if_neg h]
theorem upd_upd {H : Hp} {a : Addr} {o u : HO} : upd (upd H a o) a u = upd H a u := by
  funext b; unfold upd; split <;> rfl
theorem ne_of {H : Hp} {a b : Addr} {o u : HO} (h : H a = some o) (h' : H b = some u) (d : o ≠ u) : a ≠ b := by
  intro e; subst e; rw [h] at h'; exact d (Option.some.inj h')
theorem ne_of_none {H : Hp} {a b : Addr} {o : HO} (h : H a = some o) (h' : H b = none) : a ≠ b := by
  intro e; subst e; rw [h] at h'; cases h'
section
variable (P : Program) (w : World)
def ObjOk (H : Hp) (h : Heap) (a : Addr) : HO → Prop
  | .lst xs => xs.length ≤ sizeLine ∧ ∃ (its : List Value) (n : Nat), Vals xs its ∧ h.get? a = some { cls := .type "list", data := .seq its.toArray n }
  | .tup xs => xs.length ≤ sizeLine ∧ ∃ its : List Value, Vals xs its ∧ IsTup h a its.toArray
  | .dK kvs => kvs.length ≤ sizeLine ∧ (a == sysModules) = false ∧ ∃ vs, KV kvs vs ∧ h.DictOf (mixKind P w) a vs
  | .dT kvs => kvs.length ≤ sizeLine ∧ (a == sysModules) = false ∧ ∃ xs : List (List Key × Addr × Value),
      Paired (fun (p : List Key × V) (q : List Key × Addr × Value) => p.1 = q.1 ∧ H q.2.1 = some (.tup (p.1.map kV)) ∧ RelV p.2 q.2.2) kvs xs ∧
      ∃ o es ep, h.get? a = some o ∧ o.ExactDict ∧ o.data = .dict es ep ∧ es.toList = xs.map (entryOfKey (tupleKind (mixKind P w))) ∧ (xs.map (·.1)).Nodup
  | .set S n => h.SetOf (intKind P w) a S n
  | .ins C dx fs => H dx = some (.own a) ∧ fs.length ≤ 1000 ∧ dx ≠ a ∧ h.get? a = some (PySem.W.instObj C dx) ∧
      ∃ mA, h.Ns1 dx mA ∧ (∀ f, RelO (fs.lookup f) (mA f)) ∧ PySem.Within mA (fs.map (·.1))
  | .own _ => ∃ o, h.get? a = some o
  | .xd fs => ∃ mA, h.Ns1 a mA ∧ ∀ f, RelO (fs.lookup f) (mA f)
  | .rng lo hi => ∃ t u v, h.get? a = some { cls := .type "range", data := .fields #[.int lo t, .int hi u, .int 1 v] }
  | .frz o u => h.get? a = some o ∧ ObjOk H h a u
  | .tbl ps => h.get? a = some { cls := .none, data := .fields ps }
  | .met f x => h.get? a = some (PySem.W.methodObj (.ref f) (.ref x))
  | .ext φ => φ h ∧ (∃ o, h.get? a = some o) ∧ ∀ h1 h2 : Heap, φ h1 → (∀ o, h1.get? a = some o → h2.get? a = some o) → φ h2
def HOk (H : Hp) (h : Heap) : Prop := ∀ a o, H a = some o → ObjOk P w H h a o
end
section
variable {P : Program} {w : World} {H H' : Hp} {h h' : Heap} {a : Addr} {o : HO}
theorem ObjOk.lt (x : ObjOk P w H h a o) : a < h.objs.size := by
  cases o with
  | lst xs => obtain ⟨_, _, _, _, e⟩ := x; exact Heap.lt_size e
  | tup xs => obtain ⟨_, _, _, p⟩ := x; exact p.lt
  | dK kvs => obtain ⟨_, _, _, _, o, _, _, e, _⟩ := x; exact Heap.lt_size e
  | dT kvs => obtain ⟨_, _, _, _, o, _, _, e, _⟩ := x; exact Heap.lt_size e
  | set S n => obtain ⟨o, _, _, _, e, _⟩ := x; exact Heap.lt_size e
  | ins C dx fs => obtain ⟨_, _, _, e, _⟩ := x; exact Heap.lt_size e
  | own y => obtain ⟨_, e⟩ := x; exact Heap.lt_size e
  | xd fs => obtain ⟨_, ⟨_, _, _, e, _⟩, _⟩ := x; exact Heap.lt_size e
  | rng lo hi => obtain ⟨_, _, _, e⟩ := x; exact Heap.lt_size e
  | frz ob u => obtain ⟨e, _⟩ := x; exact Heap.lt_size e
  | tbl ps => exact Heap.lt_size (show h.get? a = some _ from x)
  | met f y => exact Heap.lt_size (show h.get? a = some _ from x)
  | ext φ => obtain ⟨_, ⟨_, e⟩, _⟩ := x; exact Heap.lt_size e
theorem Paired.mapP {α β : Type} {F G : α → β → Prop} : ∀ {l₁ : List α} {l₂ : List β}, Paired F l₁ l₂ → (∀ a b, F a b → G a b) → Paired G l₁ l₂
  | _, _, .nil, _ => .nil
  | _, _, .cons r t, f => .cons (f _ _ r) (Paired.mapP t f)
theorem ObjOk.stay (x : ObjOk P w H h a o) (k : ∀ b u, (b = a ∨ H b = some (.own a)) → h.get? b = some u → h'.get? b = some u)
    (ho : ∀ b, H b = some (.own a) → H' b = some (.own a)) (ht : ∀ b xs, H b = some (.tup xs) → H' b = some (.tup xs)) : ObjOk P w H' h' a o := by
  induction o with
  | lst xs => obtain ⟨z, its, n, r, e⟩ := x; exact ⟨z, its, n, r, k _ _ (.inl rfl) e⟩
  | tup xs => obtain ⟨z, its, r, ob, e, c⟩ := x; exact ⟨z, its, r, ob, k _ _ (.inl rfl) e, c⟩
  | dK kvs => obtain ⟨z, y, vs, r, ob, es, ep, e, c⟩ := x; exact ⟨z, y, vs, r, ob, es, ep, k _ _ (.inl rfl) e, c⟩
  | dT kvs =>
    obtain ⟨z, y, xs, r, ob, es, ep, e, c⟩ := x
    exact ⟨z, y, xs, Paired.mapP r fun p q z => ⟨z.1, ht _ _ z.2.1, z.2.2⟩, ob, es, ep, k _ _ (.inl rfl) e, c⟩
  | set S n => obtain ⟨ob, es, ep, t, e, c⟩ := x; exact ⟨ob, es, ep, t, k _ _ (.inl rfl) e, c⟩
  | ins C dx fs =>
    obtain ⟨d, z, ne, e, mA, ⟨od, es, ep, e2, c⟩, r⟩ := x
    exact ⟨ho _ d, z, ne, k _ _ (.inl rfl) e, mA, ⟨od, es, ep, k _ _ (.inr d) e2, c⟩, r⟩
  | own y => obtain ⟨ob, e⟩ := x; exact ⟨ob, k _ _ (.inl rfl) e⟩
  | xd fs => obtain ⟨mA, ⟨od, es, ep, e, c⟩, r⟩ := x; exact ⟨mA, ⟨od, es, ep, k _ _ (.inl rfl) e, c⟩, r⟩
  | rng lo hi => obtain ⟨t, u, v, e⟩ := x; exact ⟨t, u, v, k _ _ (.inl rfl) e⟩
  | frz ob u ih => obtain ⟨e, q⟩ := x; exact ⟨k _ _ (.inl rfl) e, ih q⟩
  | tbl ps =>
    have e : h.get? a = some { cls := .none, data := .fields ps } := x
    show h'.get? a = some { cls := .none, data := .fields ps }
    exact k a _ (.inl rfl) e
  | met f y =>
    have e : h.get? a = some (PySem.W.methodObj (.ref f) (.ref y)) := x
    show h'.get? a = some (PySem.W.methodObj (.ref f) (.ref y))
    exact k a _ (.inl rfl) e
  | ext φ => obtain ⟨p, ⟨o, e⟩, st⟩ := x; exact ⟨st _ _ p fun o q => k _ _ (.inl rfl) q, ⟨o, k _ _ (.inl rfl) e⟩, st⟩
theorem HOk.lt (x : HOk P w H h) (e : H a = some o) : a < h.objs.size := (x a o e).lt
theorem HOk.fresh (x : HOk P w H h) (e : h.objs.size ≤ a) : H a = none := by
  cases q : H a with
  | none => rfl
  | some u => exact absurd (Nat.lt_of_lt_of_le (x.lt q) e) (Nat.lt_irrefl _)
theorem HOk.kept (x : HOk P w H h) (k : ∀ b u, h.get? b = some u → h'.get? b = some u) : HOk P w H h' := fun a o e =>
  (x a o e).stay (fun b u _ q => k b u q) (fun _ q => q) fun _ _ q => q
theorem HOk.laid (x : HOk P w H h) (k : ∀ b u, h.get? b = some u → h'.get? b = some u) (hp : h.objs.size ≤ a) (new : ObjOk P w (upd H a o) h' a o) : HOk P w (upd H a o) h' := fun b u e => by
  have hn := x.fresh hp
  by_cases hb : b = a
  · subst hb; rw [upd_same] at e; cases e; exact new
  · rw [upd_ne hb] at e
    exact (x b u e).stay (fun c v _ q => k c v q) (fun c q => by rw [upd_ne (ne_of_none q hn)]; exact q) fun c xs q => by rw [upd_ne (ne_of_none q hn)]; exact q
end
def Rd (H : Hp) (a : Addr) (u : HO) : Prop := H a = some u ∨ ∃ o, H a = some (.frz o u)
theorem Rd.of {H : Hp} {a : Addr} {u : HO} (h : H a = some u) : Rd H a u := .inl h
theorem Rd.ok {P : Program} {w : World} {H : Hp} {h : Heap} {a : Addr} {u : HO} (r : Rd H a u) (x : HOk P w H h) : ObjOk P w H h a u := by
  rcases r with r | ⟨o, r⟩
  · exact x a u r
  · obtain ⟨_, q⟩ := x a _ r
    exact q
def Mut : Option HO → Prop
  | some (.lst _) => True
  | some (.dK _) => True
  | some (.dT _) => True
  | some (.set _ _) => True
  | some (.ins _ _ _) => True
  | some (.ext _) => True
  | _ => False
section
variable {P : Program} {w : World} {H : Hp} {h h' : Heap} {x e : Addr} {o' : HO}
theorem HOk.write (ok : HOk P w H h) (mu : Mut (H x)) (he : e = x ∨ H e = some (.own x)) (k : ∀ b u, b ≠ e → h.get? b = some u → h'.get? b = some u) (heo : ∃ u, h'.get? e = some u)
    (new : ObjOk P w (upd H x o') h' x o') : HOk P w (upd H x o') h' := fun b u q => by
  have nown : ∀ c y, H c = some (.own y) → c ≠ x := fun c y r z => by subst z; rw [r] at mu; exact mu
  have ntup : ∀ c xs, H c = some (.tup xs) → c ≠ x := fun c xs r z => by subst z; rw [r] at mu; exact mu
  by_cases hb : b = x
  · subst hb; rw [upd_same] at q; cases q; exact new
  · rw [upd_ne hb] at q
    by_cases hbe : b = e
    · have q' : H b = some (.own x) := by
        rcases he with z | z
        · exact absurd (hbe.trans z) hb
        · rw [hbe]; exact z
      rw [q] at q'; cases q'
      obtain ⟨v, hv⟩ := heo
      exact ⟨v, by rw [hbe]; exact hv⟩
    · refine (ok b u q).stay (fun c v hc r => k c v ?_ r) (fun c r => by rw [upd_ne (nown c b r)]; exact r) fun c xs r => by rw [upd_ne (ntup c xs r)]; exact r
      rcases hc with rfl | hc
      · exact hbe
      · rintro rfl
        rcases he with z | z
        · exact nown c b hc z
        · rw [hc] at z; cases z; exact hb rfl
end
structure Un (fs ex : List Addr) (H H' : Hp) (h h' : Heap) : Prop where
  keep : ∀ b o, h.get? b = some o → H b = none → b ∉ fs → b ∉ ex → h'.get? b = some o
  slot : ∀ b o, h.get? b = some o → H b = none → b ∈ fs → b ∉ ex → ∃ sl, h'.get? b = some { o with slots := sl }
  free : ∀ b o, h.get? b = some o → H b = none → b ∉ ex → H' b = none
  there : ∀ b o, h.get? b = some o → b ∉ ex → ∃ o', h'.get? b = some o'
  tups : ∀ b xs, H b = some (.tup xs) → H' b = some (.tup xs)
  frzs : ∀ b o u, H b = some (.frz o u) → H' b = some (.frz o u)
  tbls : ∀ b ps, H b = some (.tbl ps) → ∃ more, H' b = some (.tbl (ps ++ more))
section
variable {fs fs' ex ex' : List Addr} {H H1 H2 : Hp} {h h1 h2 h' : Heap} {a x e : Addr} {o : HO}
theorem Un.any (u : Un fs ex H H1 h h1) {b : Addr} {ob : Obj} (q : h.get? b = some ob) (n : H b = none) (hx : b ∉ ex) : ∃ sl, h1.get? b = some { ob with slots := sl } := by
  by_cases hb : b ∈ fs
  · exact u.slot b ob q n hb hx
  · exact ⟨ob.slots, u.keep b ob q n hb hx⟩
theorem Un.trans (a : Un fs ex H H1 h h1) (b : Un fs ex H1 H2 h1 h2) : Un fs ex H H2 h h2 where
  keep := fun c ob q n hc hx => b.keep c ob (a.keep c ob q n hc hx) (a.free c ob q n hx) hc hx
  slot := fun c ob q n hc hx => by
    obtain ⟨sl, e1⟩ := a.slot c ob q n hc hx
    obtain ⟨sl', e2⟩ := b.slot c _ e1 (a.free c ob q n hx) hc hx
    exact ⟨sl', e2⟩
  free := fun c ob q n hx => by
    obtain ⟨o', e1⟩ := a.there c ob q hx
    exact b.free c o' e1 (a.free c ob q n hx) hx
  there := fun c ob q hx => by
    obtain ⟨o', e1⟩ := a.there c ob q hx
    exact b.there c o' e1 hx
  tups := fun c xs q => b.tups c xs (a.tups c xs q)
  frzs := fun c ob xs q => b.frzs c ob xs (a.frzs c ob xs q)
  tbls := fun c ps q => by
    obtain ⟨m1, e1⟩ := a.tbls c ps q
    obtain ⟨m2, e2⟩ := b.tbls c _ e1
    exact ⟨m1 ++ m2, by rw [e2, Array.append_assoc]⟩
theorem Un.kept (k : ∀ b u, h.get? b = some u → h'.get? b = some u) : Un fs ex H H h h' :=
  ⟨fun b ob q _ _ _ => k b ob q, fun b ob q _ _ _ => ⟨ob.slots, k b ob q⟩, fun _ _ _ n _ => n, fun b ob q _ => ⟨ob, k b ob q⟩, fun _ _ q => q, fun _ _ _ q => q, fun _ ps q => ⟨#[], by rw [q]; simp⟩⟩
theorem Un.refl : Un fs ex H H h h := Un.kept fun _ _ q => q
theorem Un.laid (k : ∀ b u, h.get? b = some u → h'.get? b = some u) (hp : h.objs.size ≤ a) (hn : H a = none) : Un fs ex H (upd H a o) h h' where
  keep := fun b u q _ _ _ => k b u q
  slot := fun b u q _ _ _ => ⟨u.slots, k b u q⟩
  free := fun b u q n _ => by rw [upd_ne (Nat.ne_of_lt (Nat.lt_of_lt_of_le (Heap.lt_size q) hp))]; exact n
  there := fun b u q _ => ⟨u, k b u q⟩
  tups := fun b xs q => by rw [upd_ne (ne_of_none q hn)]; exact q
  frzs := fun b u xs q => by rw [upd_ne (ne_of_none q hn)]; exact q
  tbls := fun b ps q => ⟨#[], by rw [upd_ne (ne_of_none q hn), q]; simp⟩
theorem Un.write (mu : Mut (H x)) (he : e = x ∨ H e = some (.own x)) (k : ∀ b u, b ≠ e → h.get? b = some u → h'.get? b = some u) (heo : ∃ u, h'.get? e = some u) : Un fs ex H (upd H x o) h h' := by
  have hx : ∀ b, H b = none → b ≠ x := fun b n z => by subst z; rw [n] at mu; exact mu
  have hb : ∀ b, H b = none → b ≠ e := fun b n z => by
    subst z
    rcases he with r | r
    · exact hx b n r
    · rw [n] at r; cases r
  have hm : ∀ b u, H b = some u → ¬ Mut (some u) → b ≠ x := fun b u q nm z => by subst z; rw [q] at mu; exact nm mu
  refine ⟨fun b u q n _ _ => k b u (hb b n) q, fun b u q n _ _ => ⟨u.slots, k b u (hb b n) q⟩, fun b u q n _ => by rw [upd_ne (hx b n)]; exact n, fun b u q _ => ?_,
    fun b xs q => by rw [upd_ne (hm b _ q fun z => z)]; exact q, fun b u xs q => by rw [upd_ne (hm b _ q fun z => z)]; exact q, fun b ps q => ⟨#[], by rw [upd_ne (hm b _ q fun z => z), q]; simp⟩⟩
  by_cases hbe : b = e
  · subst hbe; exact heo
  · exact ⟨u, k b u hbe q⟩
theorem Un.mono (u : Un fs ex H H1 h h1) (hs : ∀ b ∈ fs, b ∈ fs') (hx : ∀ b ∈ ex, b ∈ ex') : Un fs' ex' H H1 h h1 :=
  ⟨fun b ob q n hb he => u.keep b ob q n (fun z => hb (hs b z)) fun z => he (hx b z), fun _ _ q n _ he => u.any q n fun z => he (hx _ z), fun b ob q n he => u.free b ob q n fun z => he (hx b z), fun b ob q he => u.there b ob q fun z => he (hx b z), u.tups, u.frzs, u.tbls⟩
end
def trk (h : Heap) (H : Hp) : List Addr := (List.range h.objs.size).filter fun a => (H a).isSome
def hidT (h : Heap) (H : Hp) : Heap := PySem.W.hideAll h (trk h H)
theorem hidT_size (h : Heap) (H : Hp) : (hidT h H).objs.size = h.objs.size := PySem.W.hideAll_size _ _
theorem hidT_get {h : Heap} {H : Hp} {b : Addr} {o : Obj} (e : h.get? b = some o) (n : H b = none) : (hidT h H).get? b = some o :=
  PySem.W.hideAll_get _ e fun hm => by
    have q : (H b).isSome = true := (List.mem_filter.mp hm).2
    rw [n] at q; simp at q
theorem of_hidT {h : Heap} {H : Hp} {b : Addr} {o : Obj} (e : (hidT h H).get? b = some o) : h.get? b = some o ∧ H b = none := by
  have e' : h.get? b = some o := PySem.W.of_hideAll (trk h H) e
  refine ⟨e', ?_⟩
  cases q : H b with
  | none => rfl
  | some x =>
    have hm : b ∈ trk h H := List.mem_filter.mpr ⟨List.mem_range.mpr (Heap.lt_size e'), by simp [q]⟩
    have z : (hidT h H).get? b = none := PySem.W.hideAll_none (trk h H) hm
    rw [z] at e; cases e
def allNews (g h : Heap) (L : Addr) : List (Addr × Obj) := (List.range h.objs.size).filterMap fun a => if a = L ∨ (g.get? a).isSome = true then none else (h.get? a).map fun o => (a, o)
def rest (g h : Heap) (L d : Addr) : List (Addr × Obj) := (allNews g h L).filter fun p => decide (p.1 ≠ d)
end L2
namespace L2
open PySem PySem.Spec PyProof.Rows
structure Mod (K : PySem.W.Frag) (mg : Str → Option Value) (base : Heap) : Prop where
  kin : K.In base
  glob : base.Ns mainGlobals mg
  blt : ∃ mb, base.Ns builtinsNs mb ∧ ∀ x : Str, x ≠ "__name__" → mb x = bootBuiltins x
  nolimit : base.NoLimit
structure Cx where
  prog : Program
  w : World
  K : PySem.W.Frag
  mg : Str → Option Value
  base : Heap
  A : Around
  N : List Str
  s₀ : Shared
  H₀ : Hp
  env : Env
  outer : List Env
  stack : List Env
  ex : List Addr
  fn : Str → Bool
  calm : Bool
  pn : List (Addr × Obj)
  xe : Value → Shared → Prop
def lowT (K : PySem.W.Frag) : Nat := match PySem.W.nsIn K mainGlobals "NO_MIRROR" with
  | some (some (.str _ t)) => t + 1
  | _ => 0
def frs (l : List Env) : List Addr := l.filterMap (·.frame)
abbrev Cx.fs (X : Cx) : List Addr := frs X.outer
def Vis (sc : Scope) (x : Str) : Prop := sc.names.lookup x = some .local ∨ sc.names.lookup x = some .cell ∨ sc.names.lookup x = some .free
def Loc (sc : Scope) (x : Str) : Prop := sc.names.lookup x = some .local ∨ sc.names.lookup x = some .cell
def Look (env : Env) (h : Heap) (m : Str → Option Value) (x : Str) (u : Value) : Prop :=
  (env.kindOf x = some .local ∧ m x = some u) ∨ ((env.kindOf x = some .cell ∨ env.kindOf x = some .free) ∧ ∃ c, env.cells.lookup x = some c ∧ h.IsCell c (some u))
structure Cx.Ok (X : Cx) : Prop where
  mod : Mod X.K X.mg X.base
  kind : X.env.scope.kind = .function
  glob : X.env.globals = mainGlobals
  blt : X.env.builtins = builtinsNs
  above : X.s₀.heap.objs.size ≤ X.env.locals
  inj : ∀ x y c, X.env.cells.lookup x = some c → X.env.cells.lookup y = some c → x = y
  has : ∀ x, (X.env.kindOf x = some .cell ∨ X.env.kindOf x = some .free) → ∃ c, X.env.cells.lookup x = some c
  cab : ∀ x c, X.fn x = true → X.env.cells.lookup x = some c → X.s₀.heap.objs.size ≤ c
  hd : X.calm = true → X.A.handled = none
  frames : X.A.frames = some X.stack
  stk : X.stack = X.outer ∨ (X.stack = X.env :: X.outer ∧ X.env.frame = some X.env.locals)
  exf : ∀ b ∈ X.ex, b ≠ X.env.locals ∧ ∀ x c, X.env.cells.lookup x = some c → c ≠ b
  bs : ∀ b o, X.base.get? b = some o → X.s₀.heap.get? b = some o ∧ X.H₀ b = none
  bsz : X.base.objs.size ≤ X.s₀.heap.objs.size
  noex : ∀ b o, X.base.get? b = some o → b ∉ X.ex
  exfs : ∀ b ∈ X.ex, b ∉ X.fs
  funs : X.s₀.heap.FunFrames X.base X.outer
  frf : ∀ b ∈ X.fs, X.H₀ b = none
  low : lowT X.K ≤ X.s₀.toks
structure Inv (X : Cx) (pins : List (Addr × Obj)) (σ : List (Option V)) (H : Hp) (s : Shared) : Prop where
  ok : X.Ok
  os : s.os = X.s₀.os
  bare : AllBare s.gens
  base : Un X.fs X.ex X.H₀ H X.s₀.heap s.heap
  loc : ∃ m, s.heap.Ns X.env.locals m ∧ ∀ (i : Nat) (x : Str) (v : V), X.N[i]? = some x → σ[i]? = some (some v) → Vis X.env.scope x → ∃ u, RelV v u ∧ Look X.env s.heap m x u
  cell : ∀ x c, X.env.cells.lookup x = some c → ∃ v, s.heap.IsCell c v
  free : H X.env.locals = none
  freeC : ∀ x c, X.env.cells.lookup x = some c → H c = none
  pin : ∀ p ∈ X.pn ++ pins, s.heap.get? p.1 = some p.2 ∧ H p.1 = none ∧ p.1 ≠ X.env.locals ∧ p.1 ∉ X.fs ∧ ∀ v, p.2.data ≠ .cell v
  hok : HOk X.prog X.w H s.heap
  len : σ.length = X.N.length
  tk : X.s₀.toks ≤ s.toks
section
variable {X : Cx} {pins : List (Addr × Obj)} {σ : List (Option V)} {H H' : Hp} {s : Shared} {h' : Heap}
theorem Cx.Ok.nofr (ok : X.Ok) {b : Addr} {o : Obj} (e : X.base.get? b = some o) : b ∉ X.fs := fun hb => by
  have := (ok.funs.mem hb).1
  rw [e] at this; cases this
theorem Inv.bs (I : Inv X pins σ H s) : ∀ b o, X.base.get? b = some o → s.heap.get? b = some o ∧ H b = none := fun b o e =>
  ⟨I.base.keep b o (I.ok.bs b o e).1 (I.ok.bs b o e).2 (I.ok.nofr e) (I.ok.noex b o e), I.base.free b o (I.ok.bs b o e).1 (I.ok.bs b o e).2 (I.ok.noex b o e)⟩
theorem Inv.bk (I : Inv X pins σ H s) : ∀ b o, X.base.get? b = some o → s.heap.get? b = some o := fun b o e => (I.bs b o e).1
theorem Inv.mod (I : Inv X pins σ H s) : Mod X.K X.mg X.base := I.ok.mod
theorem Inv.kIn (I : Inv X pins σ H s) : X.K.In s.heap := I.ok.mod.kin.keeps I.bk
theorem Inv.nolimit (I : Inv X pins σ H s) : s.heap.NoLimit := I.ok.mod.nolimit.keeps I.bk
theorem Inv.fr (I : Inv X pins σ H s) : ∃ m, Fr X.base X.env.locals s.heap m :=
  let ⟨m, hn, _⟩ := I.loc
  ⟨m, hn, I.bk, Nat.le_trans I.ok.bsz I.ok.above⟩
theorem Inv.lt (I : Inv X pins σ H s) : X.env.locals < s.heap.objs.size := let ⟨_, hn, _⟩ := I.loc; hn.lt
theorem Inv.sz (I : Inv X pins σ H s) : X.s₀.heap.objs.size ≤ s.heap.objs.size := Nat.le_trans I.ok.above (Nat.le_of_lt I.lt)
theorem Inv.nofs (I : Inv X pins σ H s) {a : Addr} (h : s.heap.objs.size ≤ a) : a ∉ X.fs := fun hb => by
  obtain ⟨_, o, ho, _⟩ := I.ok.funs.mem hb
  exact absurd (Nat.lt_of_lt_of_le (Heap.lt_size ho) (Nat.le_trans I.sz h)) (Nat.lt_irrefl _)
theorem Inv.cne (I : Inv X pins σ H s) : ∀ x c, X.env.cells.lookup x = some c → c ≠ X.env.locals := fun x c e z => by
  obtain ⟨v, o, ho, hd⟩ := I.cell x c e
  obtain ⟨m, ⟨o', es, ep, ho', hd', _⟩, _⟩ := I.loc
  rw [z, ho'] at ho; cases ho; rw [hd'] at hd; cases hd
theorem Inv.funs (I : Inv X pins σ H s) : s.heap.FunFrames X.base X.outer := by
  have all : ∀ (l : List Env), (∀ b ∈ frs l, b ∈ X.fs) → X.s₀.heap.FunFrames X.base l → s.heap.FunFrames X.base l := by
    intro l
    induction l with
    | nil => intro _ _; trivial
    | cons env r ih =>
      intro hs hl
      obtain ⟨hk, ⟨L, o, hf, hn, ho, hd⟩, hr⟩ := hl
      have hL : L ∈ X.fs := hs L (by unfold frs; rw [List.filterMap_cons, hf]; exact List.mem_cons_self)
      obtain ⟨sl, e⟩ := I.base.slot L o ho (I.ok.frf L hL) hL fun z => I.ok.exfs L z hL
      exact ⟨hk, ⟨L, _, hf, hn, e, hd⟩, ih (fun b hb => hs b (by unfold frs; rw [List.filterMap_cons, hf]; exact List.mem_cons_of_mem _ hb)) hr⟩
  exact all X.outer (fun _ hb => hb) I.ok.funs
theorem Inv.stack (I : Inv X pins σ H s) : s.heap.FunFrames X.base X.stack := by
  rcases I.ok.stk with e | ⟨e, hf⟩
  · rw [e]; exact I.funs
  · rw [e]
    obtain ⟨m, hn, _⟩ := I.loc
    refine .cons (by rw [I.ok.kind]; decide) hf hn ?_ I.funs
    exact Heap.get?_none_of_le (Nat.le_trans I.ok.bsz I.ok.above)
theorem Inv.stkSub (I : Inv X pins σ H s) : ∀ b ∈ frs X.stack, b ∈ X.env.locals :: X.fs := fun b hb => by
  rcases I.ok.stk with e | ⟨e, hf⟩
  · rw [e] at hb; exact List.mem_cons_of_mem _ hb
  · rw [e] at hb
    unfold frs at hb
    rw [List.filterMap_cons, hf] at hb
    exact hb
theorem Inv.stkFree (I : Inv X pins σ H s) : ∀ b ∈ frs X.stack, H b = none := fun b hb => by
  rcases List.mem_cons.mp (I.stkSub b hb) with e | hb
  · rw [e]; exact I.free
  · obtain ⟨_, o, ho, _⟩ := I.ok.funs.mem hb
    exact I.base.free b o ho (I.ok.frf b hb) fun z => I.ok.exfs b z hb
theorem Inv.step {g' : Array GenState} {t' : Nat} {d' : Drawn} {ch : List Addr} (I : Inv X pins σ H s)
    (hch : ∀ b ∈ ch, (b ∈ X.ex ∨ X.s₀.heap.objs.size ≤ b) ∧ b ≠ X.env.locals ∧ (∀ x c, X.env.cells.lookup x = some c → c ≠ b) ∧ ∀ p ∈ X.pn ++ pins, p.1 ≠ b)
    (keep : ∀ b o, b ≠ X.env.locals → b ∉ X.fs → b ∉ ch → s.heap.get? b = some o → H b = none → h'.get? b = some o)
    (slot : ∀ b o, b ≠ X.env.locals → b ∈ X.fs → b ∉ ch → s.heap.get? b = some o → H b = none → ∃ sl, h'.get? b = some { o with slots := sl }) (free : ∀ b o, b ∉ ch → s.heap.get? b = some o → H b = none → H' b = none)
    (there : ∀ b o, b ∉ ch → s.heap.get? b = some o → ∃ o', h'.get? b = some o')
    (tups : ∀ b xs, H b = some (.tup xs) → H' b = some (.tup xs)) (frzs : ∀ b o u, H b = some (.frz o u) → H' b = some (.frz o u)) (tbls : ∀ b ps, H b = some (.tbl ps) → ∃ more, H' b = some (.tbl (ps ++ more)))
    (ns : ∀ m, s.heap.Ns X.env.locals m → h'.Ns X.env.locals m) (hok : HOk X.prog X.w H' h') (hg : AllBare g') (ht : s.toks ≤ t' := by first | exact Nat.le_refl _ | exact Nat.le_succ _ | assumption | omega) :
    Inv X pins σ H' { s with heap := h', gens := g', drawn := d', toks := t' } := by
  have neL : ∀ b o, X.s₀.heap.get? b = some o → b ≠ X.env.locals := fun b o e => Nat.ne_of_lt (Nat.lt_of_lt_of_le (Heap.lt_size e) I.ok.above)
  have neC : ∀ b o, X.s₀.heap.get? b = some o → b ∉ X.ex → b ∉ ch := fun b o e hx hb => by
    rcases (hch b hb).1 with z | z
    · exact hx z
    · exact absurd (Nat.lt_of_lt_of_le (Heap.lt_size e) z) (Nat.lt_irrefl _)
  have cellK : ∀ x c, X.env.cells.lookup x = some c → ∀ v, s.heap.IsCell c v → h'.IsCell c v := fun x c e v ⟨o, ho, hd⟩ => by
    have nch : c ∉ ch := fun z => (hch c z).2.2.1 x c e rfl
    by_cases hc : c ∈ X.fs
    · obtain ⟨sl, q⟩ := slot c o (I.cne x c e) hc nch ho (I.freeC x c e)
      exact ⟨_, q, hd⟩
    · exact ⟨o, keep c o (I.cne x c e) hc nch ho (I.freeC x c e), hd⟩
  refine ⟨I.ok, I.os, hg, ⟨fun b o e n hb hx => ?_, fun b o e n hb hx => ?_, fun b o e n hx => ?_, fun b o e hx => ?_, fun b xs e => tups b xs (I.base.tups b xs e), fun b o xs e => frzs b o xs (I.base.frzs b o xs e), fun b ps e => ?_⟩, ?_, fun x c e => ?_, ?_, fun x c e => ?_, fun p hp => ?_, hok, I.len, Nat.le_trans I.tk ht⟩
  · exact keep b o (neL b o e) hb (neC b o e hx) (I.base.keep b o e n hb hx) (I.base.free b o e n hx)
  · obtain ⟨sl, e1⟩ := I.base.slot b o e n hb hx
    obtain ⟨sl', e2⟩ := slot b _ (neL b o e) hb (neC b o e hx) e1 (I.base.free b o e n hx)
    exact ⟨sl', e2⟩
  · obtain ⟨o', e1⟩ := I.base.there b o e hx
    exact free b o' (neC b o e hx) e1 (I.base.free b o e n hx)
  · obtain ⟨o', e1⟩ := I.base.there b o e hx
    exact there b o' (neC b o e hx) e1
  · obtain ⟨m1, e1⟩ := I.base.tbls b ps e
    obtain ⟨m2, e2⟩ := tbls b _ e1
    exact ⟨m1 ++ m2, by rw [e2, Array.append_assoc]⟩
  · obtain ⟨m, hn, hl⟩ := I.loc
    refine ⟨m, ns m hn, fun i x v e1 e2 e3 => ?_⟩
    obtain ⟨u, r, l⟩ := hl i x v e1 e2 e3
    refine ⟨u, r, ?_⟩
    rcases l with l | ⟨k, c, e, z⟩
    · exact .inl l
    · exact .inr ⟨k, c, e, cellK x c e _ z⟩
  · obtain ⟨v, z⟩ := I.cell x c e
    exact ⟨v, cellK x c e v z⟩
  · obtain ⟨m, ⟨o, _, _, ho, _⟩, _⟩ := I.loc
    exact free _ o (fun z => (hch _ z).2.1 rfl) ho I.free
  · obtain ⟨v, o, ho, hd⟩ := I.cell x c e
    exact free c o (fun z => (hch c z).2.2.1 x c e rfl) ho (I.freeC x c e)
  · obtain ⟨e, n, ne, nf, d⟩ := I.pin p hp
    have nch : p.1 ∉ ch := fun z => (hch p.1 z).2.2.2 p hp rfl
    exact ⟨keep p.1 p.2 ne nf nch e n, free p.1 p.2 nch e n, ne, nf, d⟩
theorem Inv.un {t' : Nat} (I : Inv X pins σ H s) (u : Un X.fs [] H H' s.heap h') (hok : HOk X.prog X.w H' h') (ht : s.toks ≤ t' := by first | exact Nat.le_refl _ | exact Nat.le_succ _ | assumption | omega) : Inv X pins σ H' { s with heap := h', toks := t' } := by
  obtain ⟨m, ⟨o, es, ep, ho, r⟩, _⟩ := id I.loc
  obtain ⟨sl, hL⟩ := u.any ho I.free (by simp)
  exact I.step (g' := s.gens) (d' := s.drawn) (ch := []) (fun _ z => nomatch z) (fun b o _ hb _ e n => u.keep b o e n hb (by simp)) (fun b o _ hb _ e n => u.slot b o e n hb (by simp)) (fun b o _ e n => u.free b o e n (by simp)) (fun b o _ e => u.there b o e (by simp)) u.tups u.frzs u.tbls (fun m' hm => by
    obtain ⟨o', es', ep', ho', r'⟩ := hm
    rw [ho] at ho'; cases ho'
    exact ⟨_, es', ep', hL, r'⟩) hok I.bare
theorem Inv.call {g' : Array GenState} {t' : Nat} {d' : Drawn} {ch : List Addr} (I : Inv X pins σ H s) (u : Un (frs X.stack) ch H H' s.heap h') (hok : HOk X.prog X.w H' h') (hg : AllBare g')
    (hch : ∀ b ∈ ch, (b ∈ X.ex ∨ X.s₀.heap.objs.size ≤ b) ∧ b ≠ X.env.locals ∧ (∀ x c, X.env.cells.lookup x = some c → c ≠ b) ∧ ∀ p ∈ X.pn ++ pins, p.1 ≠ b) (ht : s.toks ≤ t' := by first | exact Nat.le_refl _ | exact Nat.le_succ _ | assumption | omega) :
    Inv X pins σ H' { s with heap := h', gens := g', drawn := d', toks := t' } := by
  obtain ⟨m, ⟨o, es, ep, ho, r⟩, _⟩ := id I.loc
  obtain ⟨sl, hL⟩ := u.any ho I.free fun z => (hch _ z).2.1 rfl
  exact I.step (ch := ch) hch (fun b o hL hb hc e n => u.keep b o e n (fun z => (List.mem_cons.mp (I.stkSub b z)).elim hL hb) hc) (fun b o _ _ hc e n => u.any e n hc) (fun b o hc e n => u.free b o e n hc) (fun b o hc e => u.there b o e hc) u.tups u.frzs u.tbls (fun m' hm => by
    obtain ⟨o', es', ep', ho', r'⟩ := hm
    rw [ho] at ho'; cases ho'
    exact ⟨_, es', ep', hL, r'⟩) hok hg
theorem Inv.turned {t' : Nat} {it : Addr} (I : Inv X pins σ H s) (k : ∀ b o, b ≠ it → s.heap.get? b = some o → h'.get? b = some o) (hn : H it = none) (hL : it ≠ X.env.locals)
    (h1 : it ∈ X.ex ∨ X.s₀.heap.objs.size ≤ it) (h2 : ∀ x c, X.env.cells.lookup x = some c → c ≠ it) (h3 : ∀ p ∈ X.pn ++ pins, p.1 ≠ it) (ht : s.toks ≤ t' := by first | exact Nat.le_refl _ | exact Nat.le_succ _ | assumption | omega) : Inv X pins σ H { s with heap := h', toks := t' } := by
  have nit : ∀ b u, H b = some u → b ≠ it := fun b u e z => by rw [z, hn] at e; cases e
  refine I.step (g' := s.gens) (d' := s.drawn) (ch := [it]) (fun b hb => ?_) (fun b o _ _ hc e _ => k b o (fun z => hc (by simp [z])) e) (fun b o _ _ hc e _ => ⟨o.slots, k b o (fun z => hc (by simp [z])) e⟩) (fun _ _ _ _ n => n)
    (fun b o hc e => ⟨o, k b o (fun z => hc (by simp [z])) e⟩) (fun _ _ e => e) (fun _ _ _ e => e) (fun b ps e => ⟨#[], by rw [e]; simp⟩) (fun m hm => ?_) (fun b u e => ?_) I.bare
  · have e : b = it := by simpa using hb
    subst e
    exact ⟨h1, hL, h2, h3⟩
  · obtain ⟨o, es, ep, ho, r⟩ := hm
    exact ⟨o, es, ep, k _ o (Ne.symm hL) ho, r⟩
  · refine (I.hok b u e).stay (fun c v hc q => k c v ?_ q) (fun _ q => q) fun _ _ q => q
    rcases hc with z | z
    · rw [z]; exact nit b u e
    · exact nit c _ z
theorem Inv.tok (I : Inv X pins σ H s) (t : Nat) (ht : s.toks ≤ t := by first | exact Nat.le_refl _ | exact Nat.le_succ _ | assumption | omega) : Inv X pins σ H { s with toks := t } := I.un (h' := s.heap) (t' := t) Un.refl I.hok
theorem Inv.kept {t' : Nat} (I : Inv X pins σ H s) (k : ∀ b u, s.heap.get? b = some u → h'.get? b = some u) (ht : s.toks ≤ t' := by first | exact Nat.le_refl _ | exact Nat.le_succ _ | assumption | omega) : Inv X pins σ H { s with heap := h', toks := t' } := I.un (Un.kept k) (I.hok.kept k)
theorem Inv.laid {a : Addr} {o : HO} {t' : Nat} (I : Inv X pins σ H s) (k : ∀ b u, s.heap.get? b = some u → h'.get? b = some u) (hp : s.heap.objs.size ≤ a) (new : ObjOk X.prog X.w (upd H a o) h' a o) (ht : s.toks ≤ t' := by first | exact Nat.le_refl _ | exact Nat.le_succ _ | assumption | omega) :
    Inv X pins σ (upd H a o) { s with heap := h', toks := t' } := I.un (Un.laid k hp (I.hok.fresh hp)) (I.hok.laid k hp new)
theorem Inv.write {x e : Addr} {o : HO} {t' : Nat} (I : Inv X pins σ H s) (mu : Mut (H x)) (he : e = x ∨ H e = some (.own x)) (k : ∀ b u, b ≠ e → s.heap.get? b = some u → h'.get? b = some u) (heo : ∃ u, h'.get? e = some u)
    (new : ObjOk X.prog X.w (upd H x o) h' x o) (ht : s.toks ≤ t' := by first | exact Nat.le_refl _ | exact Nat.le_succ _ | assumption | omega) : Inv X pins σ (upd H x o) { s with heap := h', toks := t' } := I.un (Un.write mu he k heo) (I.hok.write mu he k heo new)
theorem Inv.weak {σ' : List (Option V)} (I : Inv X pins σ H s) (hl : σ'.length = σ.length) (w : ∀ (i : Nat) v, σ'[i]? = some (some v) → σ[i]? = some (some v)) : Inv X pins σ' H s :=
  ⟨I.ok, I.os, I.bare, I.base, let ⟨m, hn, hl'⟩ := I.loc; ⟨m, hn, fun i x v e1 e2 e3 => hl' i x v e1 (w i v e2) e3⟩, I.cell, I.free, I.freeC, I.pin, I.hok, hl.trans I.len, I.tk⟩
theorem Inv.pins_of {pins' : List (Addr × Obj)} (I : Inv X pins σ H s) (h : ∀ p ∈ pins', s.heap.get? p.1 = some p.2 ∧ H p.1 = none ∧ p.1 ≠ X.env.locals ∧ p.1 ∉ X.fs ∧ ∀ v, p.2.data ≠ .cell v) : Inv X pins' σ H s :=
  ⟨I.ok, I.os, I.bare, I.base, I.loc, I.cell, I.free, I.freeC, fun p hp => (List.mem_append.mp hp).elim (fun z => I.pin p (List.mem_append_left _ z)) (h p), I.hok, I.len, I.tk⟩
theorem nodup_ix {N : List Str} (hN : N.Nodup) {i j : Nat} {x : Str} (a : N[i]? = some x) (b : N[j]? = some x) : i = j := by
  obtain ⟨h1, e1⟩ := List.getElem?_eq_some_iff.mp a
  obtain ⟨h2, e2⟩ := List.getElem?_eq_some_iff.mp b
  exact (List.getElem_inj hN).mp (e1.trans e2.symm)
theorem store_ok2 {M : Model} {A : Around} {E : Value → Shared → Prop} {i : Nat} {x : Str} {v : V} {u : Value} {Q : Unit → Shared → Prop} (I : Inv X pins σ H s) (hN : X.N.Nodup) (hi : X.N[i]? = some x) (hx : Loc X.env.scope x) (r : RelV v u)
    (h : ∀ s', Inv X pins (σ.set i (some v)) H s' → (∃ a, Heap.SameBut a s.heap s'.heap ∧ (a = X.env.locals ∨ X.env.cells.lookup x = some a)) → Q () s') (hf : X.fn x = true ∨ X.env.scope.names.lookup x = some .local := by first | exact .inl rfl | exact .inr rfl | assumption) : wpAny M A (storeName X.env x u) Q E s := by
  obtain ⟨m, hn, hl⟩ := id I.loc
  have hcls : (X.env.scope.kind == .class || (X.env.scope.kind == .module && X.env.locals != X.env.globals)) = false := by rw [I.ok.kind]; rfl
  have hiσ : i < σ.length := by rw [I.len]; exact (List.getElem?_eq_some_iff.mp hi).1
  have cne := I.cne
  have tracked : ∀ {a : Addr} {h' : Heap}, (∃ o, s.heap.get? a = some o ∧ H a = none) → Heap.SameBut a s.heap h' → HOk X.prog X.w H h' := fun {a h'} ha hs b ob e => by
    obtain ⟨_, _, hfree⟩ := ha
    refine (I.hok b ob e).stay (fun c w' hc q => (hs.2 c ?_).trans q) (fun _ q => q) fun _ _ q => q
    rintro rfl
    rcases hc with rfl | hc
    · rw [hfree] at e; cases e
    · rw [hfree] at hc; cases hc
  rcases hx with hk | hk
  · refine wpAny_storeName_local hk hn (fun h' hn' hs => ?_) hcls
    obtain ⟨oL, _, _, hoL, _⟩ := id hn
    refine h _ ⟨I.ok, I.os, I.bare, ⟨fun b o e n hb hx => ?_, fun b o e n hb hx => ?_, I.base.free, fun b o e hx => ?_, I.base.tups, I.base.frzs, I.base.tbls⟩, ⟨_, hn', fun j y v' e1 e2 e3 => ?_⟩, fun y c e => ?_, I.free, I.freeC, fun p hp => ?_, tracked ⟨oL, hoL, I.free⟩ hs, by simpa using I.len, Nat.le_succ_of_le I.tk⟩ ⟨_, hs, .inl rfl⟩
    · exact (hs.2 b (Nat.ne_of_lt (Nat.lt_of_lt_of_le (Heap.lt_size e) I.ok.above))).trans (I.base.keep b o e n hb hx)
    · obtain ⟨sl, e1⟩ := I.base.slot b o e n hb hx
      exact ⟨sl, (hs.2 b (Nat.ne_of_lt (Nat.lt_of_lt_of_le (Heap.lt_size e) I.ok.above))).trans e1⟩
    · obtain ⟨o', e1⟩ := I.base.there b o e hx
      exact ⟨o', (hs.2 b (Nat.ne_of_lt (Nat.lt_of_lt_of_le (Heap.lt_size e) I.ok.above))).trans e1⟩
    · by_cases hj : j = i
      · subst hj
        rw [hi] at e1; cases e1
        rw [List.getElem?_set_self hiσ] at e2
        cases e2
        exact ⟨u, r, .inl ⟨hk, by simp⟩⟩
      · rw [List.getElem?_set_ne (Ne.symm hj)] at e2
        obtain ⟨u', r', q⟩ := hl j y v' e1 e2 e3
        refine ⟨u', r', ?_⟩
        rcases q with ⟨k, e⟩ | ⟨k, c, e, z⟩
        · refine .inl ⟨k, ?_⟩
          have : y ≠ x := fun e => hj (nodup_ix hN e1 (e ▸ hi))
          simp [this, e]
        · exact .inr ⟨k, c, e, z.sameBut hs (cne y c e)⟩
    · obtain ⟨w', z⟩ := I.cell y c e
      exact ⟨w', z.sameBut hs (cne y c e)⟩
    · obtain ⟨e, n, ne, nf, d⟩ := I.pin p hp
      exact ⟨(hs.2 p.1 ne).trans e, n, ne, nf, d⟩
  · have hfn : X.fn x = true := by
      rcases hf with z | z
      · exact z
      · rw [z] at hk; cases hk
    obtain ⟨c, hc⟩ := I.ok.has x (.inl hk)
    obtain ⟨w', z⟩ := I.cell x c hc
    refine wpAny_storeName_cell I.ok.kind hk hc z (fun h' hc' hs => ?_)
    obtain ⟨oc, hoc, hocd⟩ := id z
    refine h { s with heap := h' } ⟨I.ok, I.os, I.bare, ⟨fun b o e n hb hx => ?_, fun b o e n hb hx => ?_, I.base.free, fun b o e hx => ?_, I.base.tups, I.base.frzs, I.base.tbls⟩, ⟨m, hn.sameBut hs (Ne.symm (cne x c hc)), fun j y v' e1 e2 e3 => ?_⟩, fun y c' e => ?_, I.free, I.freeC, fun p hp => ?_, tracked ⟨oc, hoc, I.freeC x c hc⟩ hs, by simpa using I.len, I.tk⟩ ⟨c, hs, .inr hc⟩
    · exact (hs.2 b (Nat.ne_of_lt (Nat.lt_of_lt_of_le (Heap.lt_size e) (I.ok.cab x c hfn hc)))).trans (I.base.keep b o e n hb hx)
    · obtain ⟨sl, e1⟩ := I.base.slot b o e n hb hx
      exact ⟨sl, (hs.2 b (Nat.ne_of_lt (Nat.lt_of_lt_of_le (Heap.lt_size e) (I.ok.cab x c hfn hc)))).trans e1⟩
    · obtain ⟨o', e1⟩ := I.base.there b o e hx
      exact ⟨o', (hs.2 b (Nat.ne_of_lt (Nat.lt_of_lt_of_le (Heap.lt_size e) (I.ok.cab x c hfn hc)))).trans e1⟩
    · by_cases hj : j = i
      · subst hj
        rw [hi] at e1; cases e1
        rw [List.getElem?_set_self hiσ] at e2
        cases e2
        exact ⟨u, r, .inr ⟨.inl hk, c, hc, hc'⟩⟩
      · rw [List.getElem?_set_ne (Ne.symm hj)] at e2
        obtain ⟨u', r', q⟩ := hl j y v' e1 e2 e3
        refine ⟨u', r', ?_⟩
        rcases q with q | ⟨k, c', e, z'⟩
        · exact .inl q
        · refine .inr ⟨k, c', e, z'.sameBut hs ?_⟩
          rintro rfl
          exact hj (nodup_ix hN e1 (I.ok.inj _ _ _ e hc ▸ hi))
    · by_cases hcc : c' = c
      · subst hcc; exact ⟨_, hc'⟩
      · obtain ⟨w2, z2⟩ := I.cell y c' e
        exact ⟨w2, z2.sameBut hs hcc⟩
    · obtain ⟨e, n, ne, nf, d⟩ := I.pin p hp
      refine ⟨(hs.2 p.1 ?_).trans e, n, ne, nf, d⟩
      intro q
      rw [q, hoc] at e
      have q' : oc = p.2 := Option.some.inj e
      exact d w' (by rw [← q']; exact hocd)
theorem store_ok {M : Model} {A : Around} {E : Value → Shared → Prop} {i : Nat} {x : Str} {v : V} {u : Value} {Q : Unit → Shared → Prop} (I : Inv X pins σ H s) (hN : X.N.Nodup) (hi : X.N[i]? = some x) (hx : Loc X.env.scope x) (r : RelV v u)
    (h : ∀ s', Inv X pins (σ.set i (some v)) H s' → Q () s') (hf : X.fn x = true ∨ X.env.scope.names.lookup x = some .local := by first | exact .inl rfl | exact .inr rfl | assumption) : wpAny M A (storeName X.env x u) Q E s :=
  store_ok2 I hN hi hx r (fun s' I' _ => h s' I') hf
theorem Inv.call' {s' : Shared} {ch : List Addr} (I : Inv X pins σ H s) (ho : s'.os = s.os) (u : Un (frs X.stack) ch H H' s.heap s'.heap) (hok : HOk X.prog X.w H' s'.heap) (hg : AllBare s'.gens)
    (hch : ∀ b ∈ ch, (b ∈ X.ex ∨ X.s₀.heap.objs.size ≤ b) ∧ b ≠ X.env.locals ∧ (∀ x c, X.env.cells.lookup x = some c → c ≠ b) ∧ ∀ p ∈ X.pn ++ pins, p.1 ≠ b) (ht : s.toks ≤ s'.toks := by first | exact Nat.le_refl _ | exact Nat.le_succ _ | assumption | omega) : Inv X pins σ H' s' := by
  obtain ⟨h', g', d', t', o'⟩ := s'
  have e : o' = s.os := ho
  subst e
  exact I.call (g' := g') (t' := t') (d' := d') u hok hg hch
end
abbrev XK := Value → Option Addr → Hp → Prop
abbrev St := List (Option V)
abbrev VK := V → Hp → Prop
abbrev TE := St → Hp → VK → Prop
abbrev TT := St → Hp → (Bool → Hp → Prop) → Prop
abbrev TA := St → Hp → (List V → Hp → Prop) → Prop
structure Ends where
  nx : St → Hp → Prop
  rt : VK
  bk : St → Hp → Prop := fun _ _ => False
  ct : St → Hp → Prop := fun _ _ => False
abbrev TS := Ends → St → Hp → Prop
def EP (X : Cx) (pins : List (Addr × Obj)) (σ : St) (Q : VK) (u : Value) (s' : Shared) : Prop := ∃ v H', Inv X pins σ H' s' ∧ RelV v u ∧ Q v H'
def TP (X : Cx) (pins : List (Addr × Obj)) (σ : St) (Q : Bool → Hp → Prop) (b : Bool) (s' : Shared) : Prop := ∃ H', Inv X pins σ H' s' ∧ Q b H'
def AP (X : Cx) (pins : List (Addr × Obj)) (σ : St) (Q : List V → Hp → Prop) (us : List Value) (s' : Shared) : Prop := ∃ vs H', Inv X pins σ H' s' ∧ Vals vs us ∧ Q vs H'
def SP (X : Cx) (pins : List (Addr × Obj)) (D : Ends) (f : Flow) (s' : Shared) : Prop :=
  match f with
  | .next => ∃ σ' H', Inv X pins σ' H' s' ∧ D.nx σ' H'
  | .brk => ∃ σ' H', Inv X pins σ' H' s' ∧ D.bk σ' H'
  | .cont => ∃ σ' H', Inv X pins σ' H' s' ∧ D.ct σ' H'
  | .ret u => ∃ v σ' H', Inv X pins σ' H' s' ∧ RelV v u ∧ D.rt v H'
def PE (X : Cx) (e : Expr) (t : TE) : Prop :=
  ∀ (pins : List (Addr × Obj)) (s : Shared) (σ : St) (H : Hp) (Q : VK), Inv X pins σ H s → t σ H Q → wpAny (model X.prog X.w) X.A (eval e X.env) (EP X pins σ Q) X.xe s
def PT (X : Cx) (e : Expr) (t : TT) : Prop :=
  ∀ (pins : List (Addr × Obj)) (s : Shared) (σ : St) (H : Hp) (Q : Bool → Hp → Prop), Inv X pins σ H s → t σ H Q → wpAny (model X.prog X.w) X.A (isTrue e X.env (eval e X.env)) (TP X pins σ Q) X.xe s
def PW (X : Cx) (e : Expr) (t : TT) : Prop :=
  ∀ (whole : Sem Value) (pins : List (Addr × Obj)) (s : Shared) (σ : St) (H : Hp) (Q : Bool → Hp → Prop), Inv X pins σ H s → t σ H Q → wpAny (model X.prog X.w) X.A (isTrue e X.env whole) (TP X pins σ Q) X.xe s
theorem PW.pt {X : Cx} {e : Expr} {t : TT} (h : PW X e t) : PT X e t := h _
def PA (X : Cx) (es : List Expr) (t : TA) : Prop :=
  ∀ (pos : Pos) (pins : List (Addr × Obj)) (s : Shared) (σ : St) (H : Hp) (Q : List V → Hp → Prop), Inv X pins σ H s → t σ H Q → wpAny (model X.prog X.w) X.A (spliced (backTo pos (starEach es X.env))) (AP X pins σ Q) X.xe s
def PS (X : Cx) (st : Stmt) (t : TS) : Prop :=
  ∀ (pins : List (Addr × Obj)) (s : Shared) (σ : St) (H : Hp) (D : Ends), Inv X pins σ H s → t D σ H → wpAny (model X.prog X.w) X.A (exec st X.env) (SP X pins D) X.xe s
def PSs (X : Cx) (st : List Stmt) (t : TS) : Prop :=
  ∀ (pins : List (Addr × Obj)) (s : Shared) (σ : St) (H : Hp) (D : Ends), Inv X pins σ H s → t D σ H → wpAny (model X.prog X.w) X.A (execs st X.env) (SP X pins D) X.xe s
theorem thn {α : Type} {t : Sem α} {Q Q' : α → Shared → Prop} {M : Model} {A : Around} {E : Value → Shared → Prop} {s : Shared} (h : wpAny M A t Q E s) (hQ : ∀ a s, Q a s → Q' a s) : wpAny M A t Q' E s := wpAny_mono h hQ fun _ _ x => x
end L2
namespace L2
open PySem PySem.Spec PyProof.Rows
section
variable {X : Cx}
def tVar (i : Nat) : TE := fun σ H Q => ∃ v, σ[i]? = some (some v) ∧ Q v H
def tC (v : V) : TE := fun _ H Q => Q v H
theorem pe_var {i : Nat} {x : Str} {pos : Pos} (hN : X.N[i]? = some x) (hv : Vis X.env.scope x) (hd : (x == ("__debug__" : Str)) = false := by decide) (hcd : (x == ("__classdict__" : Str)) = false := by decide) : PE X (.Name x pos) (tVar i) := by
  intro pins s σ H Q I h
  obtain ⟨v, e, h⟩ := h
  obtain ⟨m, hn, hl⟩ := I.loc
  obtain ⟨u, r, l⟩ := hl i x v hN e hv
  have fin : EP X pins σ Q u s := ⟨v, H, I, r, h⟩
  rcases l with ⟨hk, hm⟩ | ⟨hk, c, hc, hcell⟩
  · exact wpAny_Name (wpAny_loadName_local I.ok.kind hk hn hm fin) hd
  · rcases hk with hk | hk
    · exact wpAny_Name (wpAny_loadName_cell I.ok.kind hk hc hcell fin) hd
    · exact wpAny_Name (wpAny_loadName_free I.ok.kind hk hc hcell fin hcd) hd
theorem pe_int {i j pos} : PE X (.Constant (.int i) j pos) (tC (.int i)) := fun _ _ _ H _ I h => wpAny_Constant_int ⟨.int i, H, I.tok _, ⟨_, rfl⟩, h⟩
theorem pe_bl {b j pos} : PE X (.Constant (.bool b) j pos) (tC (.bl b)) := fun _ _ _ H _ I h => Constant_bool ⟨.bl b, H, I, rfl, h⟩
theorem pe_str {x j pos} : PE X (.Constant (.str x) j pos) (tC (.str x)) := fun _ _ _ H _ I h => Calls.Constant_str ⟨.str x, H, I.tok _, ⟨_, rfl⟩, h⟩
def Gl (X : Cx) (x : Str) : Prop := X.env.kindOf x = some .globalImplicit
theorem ld_glob {E : Value → Shared → Prop} {pins : List (Addr × Obj)} {s : Shared} {σ : St} {H : Hp} {x : Str} {u : Value} {pos : Pos} {Q : Value → Shared → Prop} (I : Inv X pins σ H s) (hg : Gl X x) (hm : X.mg x = some u) (h : Q u s)
    (hd : (x == ("__debug__" : Str)) = false := by decide) : wpAny (model X.prog X.w) X.A (eval (.Name x pos) X.env) Q E s :=
  Calls.Name_function_global I.ok.kind hg (Calls.loadGlobal_global (by rw [I.ok.glob]; exact I.mod.glob.keeps I.bk) hm h) hd
theorem ld_blt {E : Value → Shared → Prop} {pins : List (Addr × Obj)} {s : Shared} {σ : St} {H : Hp} {x : Str} {u : Value} {pos : Pos} {Q : Value → Shared → Prop} (I : Inv X pins σ H s) (hg : Gl X x) (hm : X.mg x = none) (hv : bootBuiltins x = some u) (h : Q u s)
    (hn : x ≠ "__name__" := by decide) (hd : (x == ("__debug__" : Str)) = false := by decide) : wpAny (model X.prog X.w) X.A (eval (.Name x pos) X.env) Q E s := by
  obtain ⟨mb, h1, h2⟩ := I.mod.blt
  exact Calls.Name_function_global I.ok.kind hg (Calls.loadGlobal_builtin (by rw [I.ok.glob]; exact I.mod.glob.keeps I.bk) hm (by rw [I.ok.blt]; exact h1.keeps I.bk) ((h2 x hn).trans hv) h) hd
theorem pe_glob {x : Str} {v : V} {u : Value} {pos : Pos} (hg : Gl X x) (hm : X.mg x = some u) (r : RelV v u) (hd : (x == ("__debug__" : Str)) = false := by decide) : PE X (.Name x pos) (tC v) :=
  fun _ _ _ H _ I h => ld_glob I hg hm ⟨v, H, I, r, h⟩ hd
theorem pe_bltn {x : Str} {v : V} {u : Value} {pos : Pos} (hg : Gl X x) (hm : X.mg x = none) (hv : bootBuiltins x = some u) (r : RelV v u) (hn : x ≠ "__name__" := by decide) (hd : (x == ("__debug__" : Str)) = false := by decide) : PE X (.Name x pos) (tC v) :=
  fun _ _ _ H _ I h => ld_blt I hg hm hv ⟨v, H, I, r, h⟩ hn hd
variable {a b : Expr} {ta tb : TE} {pos : Pos}
def PC (X : Cx) (op : CmpOp) (a b : Expr) (t : TE) : Prop :=
  ∀ (pins : List (Addr × Obj)) (s : Shared) (σ : St) (H : Hp) (Q : VK), Inv X pins σ H s → t σ H Q →
    wpAny (model X.prog X.w) X.A (eval a X.env) (fun v s₁ => wpAny (model X.prog X.w) X.A (eval b X.env) (fun u s₂ => wpAny (model X.prog X.w) X.A (compareOp op v u) (EP X pins σ Q) X.xe s₂) X.xe s₁) X.xe s
theorem nobehind (b : Expr) {op : CmpOp} (h : op ≠ .In) (h2 : op ≠ .NotIn) : behindInMarks op b = false := by
  have e1 : (op == CmpOp.In) = false := by cases op <;> first | rfl | exact absurd rfl h
  have e2 : (op == CmpOp.NotIn) = false := by cases op <;> first | rfl | exact absurd rfl h2
  cases b <;> simp [behindInMarks, e1, e2]
def tB (t : TE) : TT := fun σ H Q => t σ H fun x H1 => ∃ c, x = .bl c ∧ Q c H1
theorem pt_cmp {op : CmpOp} {t : TE} (h : PC X op a b t) (h1 : behindInMarks op b = false := by first | exact nobehind _ (by decide) (by decide) | rfl) : PT X (.Compare a [op] [b] pos) (tB t) := by
  intro pins s σ H Q I hw
  refine wpAny_isTrue_Compare1 (thn (h pins s σ H _ I hw) fun v s1 h1 => thn h1 fun u s2 h2 => thn h2 fun c s3 ⟨x, H1, I1, r1, q1⟩ => ?_) h1
  obtain ⟨d, rfl, q⟩ := q1
  cases r1
  exact wpAny_truthy_bool ⟨H1, I1, q⟩
theorem pt_val {e : Expr} {t : TE} (h : PE X e t) (he : ∀ whole, isTrue e X.env whole = (do let v ← whole; standAt e.pos; holding [v] (truthy v)) := by intro _; rfl) : PT X e (tB t) := by
  intro pins s σ H Q I hw
  refine isTrue_plain (thn (h pins s σ H _ I hw) fun v s1 ⟨x, H1, I1, r1, q1⟩ => ?_) (he _)
  obtain ⟨d, rfl, q⟩ := q1
  cases r1
  exact wpAny_truthy_bool ⟨H1, I1, q⟩
variable {tA tB' : TT} {rest : List Expr}
def tAnd (t u : TT) : TT := fun σ H Q => t σ H fun c H1 => if c = true then u σ H1 Q else Q false H1
def tOr (t u : TT) : TT := fun σ H Q => t σ H fun c H1 => if c = true then Q true H1 else u σ H1 Q
def tNot (t : TT) : TT := fun σ H Q => t σ H fun c H1 => Q (!c) H1
theorem pw_and1 (ha : PT X a tA) : PW X (.BoolOp .And [a] pos) tA := by
  intro wh pins s σ H Q I h
  refine isTrue_and (thn (ha pins s σ H Q I h) fun c s1 e => ?_)
  cases c with
  | true => exact isTrue_and_nil e
  | false => exact e
theorem pw_or1 (ha : PT X a tA) : PW X (.BoolOp .Or [a] pos) tA := by
  intro wh pins s σ H Q I h
  refine isTrue_or (thn (ha pins s σ H Q I h) fun c s1 e => ?_)
  cases c with
  | false => exact isTrue_or_nil e
  | true => exact e
theorem pw_and (ha : PT X a tA) (hb : PW X (.BoolOp .And (b :: rest) pos) tB') : PW X (.BoolOp .And (a :: b :: rest) pos) (tAnd tA tB') := by
  intro wh pins s σ H Q I h
  refine isTrue_and (thn (ha pins s σ H _ I h) fun c s1 ⟨H1, I1, q1⟩ => ?_)
  cases c with
  | true => exact hb wh pins s1 σ H1 Q I1 q1
  | false => exact ⟨H1, I1, q1⟩
theorem pw_or (ha : PT X a tA) (hb : PW X (.BoolOp .Or (b :: rest) pos) tB') : PW X (.BoolOp .Or (a :: b :: rest) pos) (tOr tA tB') := by
  intro wh pins s σ H Q I h
  refine isTrue_or (thn (ha pins s σ H _ I h) fun c s1 ⟨H1, I1, q1⟩ => ?_)
  cases c with
  | true => exact ⟨H1, I1, q1⟩
  | false => exact hb wh pins s1 σ H1 Q I1 q1
theorem pt_not (ha : PT X a tA) : PT X (.UnaryOp .Not a pos) (tNot tA) := by
  intro pins s σ H Q I h
  exact isTrue_not (ha pins s σ H (fun c H1 => Q (!c) H1) I h)
def tAndV (ta tb : TE) : TE := fun σ H Q => ta σ H fun x H1 => ∃ c, x = .bl c ∧ if c = true then tb σ H1 Q else Q (.bl false) H1
theorem pe_one {op} {t : TE} (h : PE X a t) : PE X (.BoolOp op [a] pos) t := fun pins s σ H Q I hw => BoolOp_one (h pins s σ H Q I hw)
theorem pe_and (ha : PE X a ta) (hb : PE X (.BoolOp .And (b :: rest) pos) tb) : PE X (.BoolOp .And (a :: b :: rest) pos) (tAndV ta tb) := by
  intro pins s σ H Q I h
  refine BoolOp_and (thn (ha pins s σ H _ I h) fun v s1 ⟨x, H1, I1, r1, q1⟩ => ?_)
  obtain ⟨c, rfl, q1⟩ := q1
  cases r1
  refine wpAny_truthy_bool ?_
  cases c with
  | true => exact hb pins s1 σ H1 Q I1 q1
  | false => exact ⟨.bl false, H1, I1, rfl, q1⟩
def tIf (t : TT) (ta tb : TE) : TE := fun σ H Q => t σ H fun c H1 => if c = true then ta σ H1 Q else tb σ H1 Q
theorem pe_ifExp {c : Expr} (hc : PT X c tA) (ha : PE X a ta) (hb : PE X b tb) : PE X (.IfExp c a b pos) (tIf tA ta tb) := by
  intro pins s σ H Q I h
  refine wpAny_IfExp (thn (hc pins s σ H _ I h) fun d s1 ⟨H1, I1, q1⟩ => ?_)
  cases d with
  | true => exact ha pins s1 σ H1 Q I1 q1
  | false => exact hb pins s1 σ H1 Q I1 q1
end
end L2
namespace L2
open PySem PySem.Spec PyProof.Rows
def SqL (K : PySem.W.Frag) (H : Hp) (a : Addr) (xs : List V) : Prop :=
  Rd H a (.lst xs) ∨
    ∃ (o : Obj) (its : Array Value) (n : Nat), K.lookup a = some o ∧ o.cls = .type "list" ∧ o.dict = none ∧ o.data = .seq its n ∧ its.size ≤ sizeLine ∧ Vals xs its.toList
def SqT (K : PySem.W.Frag) (H : Hp) (a : Addr) (xs : List V) : Prop :=
  Rd H a (.tup xs) ∨
    ∃ (o : Obj) (its : Array Value) (n : Nat), K.lookup a = some o ∧ o.cls = .type "tuple" ∧ o.data = .seq its n ∧ its.size ≤ sizeLine ∧ Vals xs its.toList
def absV : Value → Option V
  | .none => some .non
  | .bool b => some (.bl b)
  | .int i _ => some (.int i)
  | .str x _ => some (.str x)
  | .bytes b _ => some (.byt b)
  | .float b _ => some (.flt b)
  | .ref a => some (.ref a)
  | .type n => some (.ty n)
  | _ => none
theorem RelV.abs {x : V} {u : Value} (r : RelV x u) : absV u = some x := by
  cases x with
  | non => cases r; rfl
  | bl _ => cases r; rfl
  | int _ => obtain ⟨t, rfl⟩ := r; rfl
  | str _ => obtain ⟨t, rfl⟩ := r; rfl
  | byt _ => obtain ⟨t, rfl⟩ := r; rfl
  | flt _ => obtain ⟨t, rfl⟩ := r; rfl
  | ref _ => cases r; rfl
  | ty _ => cases r; rfl
theorem RelV.inj {x y : V} {u : Value} (r : RelV x u) (q : RelV y u) : x = y := Option.some.inj (r.abs.symm.trans q.abs)
theorem Vals.inj : ∀ {xs ys : List V} {us : List Value}, Vals xs us → Vals ys us → xs = ys
  | _, _, _, .nil, .nil => rfl
  | _, _, _, .cons r t, .cons r' t' => by rw [r.inj r', Vals.inj t t']
section
variable {X : Cx} {pins : List (Addr × Obj)} {σ : St} {H : Hp} {s : Shared} {a : Addr} {xs ys : List V}
theorem SqL.of {K : PySem.W.Frag} (h : H a = some (.lst xs)) : SqL K H a xs := .inl (.inl h)
theorem SqT.of {K : PySem.W.Frag} (h : H a = some (.tup xs)) : SqT K H a xs := .inl (.inl h)
theorem Inv.list (I : Inv X pins σ H s) (h : SqL X.K H a xs) : ∃ its : List Value, Vals xs its ∧ PlainL s.heap a its.toArray ∧ xs.length ≤ sizeLine := by
  rcases h with h | ⟨o, its, n, hk, hc, hd, hs, hz, r⟩
  · obtain ⟨z, its, n, r, e⟩ := h.ok I.hok
    exact ⟨its, r, ⟨_, n, e, rfl, rfl, rfl⟩, z⟩
  · refine ⟨its.toList, r, ⟨o, n, I.kIn a o hk, hc, hd, by simpa using hs⟩, ?_⟩
    have e := r.length
    simp only [Array.length_toList] at e
    omega
theorem Inv.tuple (I : Inv X pins σ H s) (h : SqT X.K H a xs) : ∃ its : List Value, Vals xs its ∧ IsTup s.heap a its.toArray ∧ xs.length ≤ sizeLine := by
  rcases h with h | ⟨o, its, n, hk, hc, hs, hz, r⟩
  · obtain ⟨z, its, r, p⟩ := h.ok I.hok
    exact ⟨its, r, p, z⟩
  · refine ⟨its.toList, r, ⟨o, I.kIn a o hk, hc, n, by simpa using hs⟩, ?_⟩
    have e := r.length
    simp only [Array.length_toList] at e
    omega
theorem Inv.list_inj (I : Inv X pins σ H s) (h : SqL X.K H a xs) (h' : SqL X.K H a ys) : xs = ys := by
  obtain ⟨its, r, ⟨o, n, e, _, _, d⟩, _⟩ := I.list h
  obtain ⟨its', r', ⟨o', n', e', _, _, d'⟩, _⟩ := I.list h'
  rw [e] at e'; cases e'
  rw [d] at d'
  injection d' with d1 _
  have : its = its' := by simpa using congrArg Array.toList d1
  subst this
  exact r.inj r'
end
abbrev Cx.wish (X : Cx) (E : Value → Shared → Prop) : Cx := { X with xe := E }
abbrev Cx.nox (X : Cx) : Cx := X.wish fun _ _ => False
theorem Cx.Ok.wish {X : Cx} (ok : X.Ok) (E : Value → Shared → Prop) : (X.wish E).Ok :=
  ⟨ok.mod, ok.kind, ok.glob, ok.blt, ok.above, ok.inj, ok.has, ok.cab, ok.hd, ok.frames, ok.stk, ok.exf, ok.bs, ok.bsz, ok.noex, ok.exfs, ok.funs, ok.frf, ok.low⟩
theorem Cx.Ok.unwish {X : Cx} {E : Value → Shared → Prop} (ok : (X.wish E).Ok) : X.Ok :=
  ⟨ok.mod, ok.kind, ok.glob, ok.blt, ok.above, ok.inj, ok.has, ok.cab, ok.hd, ok.frames, ok.stk, ok.exf, ok.bs, ok.bsz, ok.noex, ok.exfs, ok.funs, ok.frf, ok.low⟩
section
variable {X : Cx} {pins : List (Addr × Obj)} {σ : St} {H : Hp} {s : Shared} {E : Value → Shared → Prop}
theorem Inv.wish (I : Inv X pins σ H s) (E : Value → Shared → Prop) : Inv (X.wish E) pins σ H s := ⟨I.ok.wish E, I.os, I.bare, I.base, I.loc, I.cell, I.free, I.freeC, I.pin, I.hok, I.len, I.tk⟩
theorem Inv.unwish (I : Inv (X.wish E) pins σ H s) : Inv X pins σ H s := ⟨I.ok.unwish, I.os, I.bare, I.base, I.loc, I.cell, I.free, I.freeC, I.pin, I.hok, I.len, I.tk⟩
theorem SP.unwish {D : Ends} {f : Flow} {s' : Shared} (h : SP (X.wish E) pins D f s') : SP X pins D f s' := by
  cases f with
  | next => obtain ⟨σ', H', I, q⟩ := h; exact ⟨σ', H', I.unwish, q⟩
  | brk => obtain ⟨σ', H', I, q⟩ := h; exact ⟨σ', H', I.unwish, q⟩
  | cont => obtain ⟨σ', H', I, q⟩ := h; exact ⟨σ', H', I.unwish, q⟩
  | ret u => obtain ⟨v, σ', H', I, r, q⟩ := h; exact ⟨v, σ', H', I.unwish, r, q⟩
theorem PE.nox {e : Expr} {t : TE} (h : PE X.nox e t) : PE X e t := fun pins s σ H Q I hw =>
  wpAny_mono (h pins s σ H Q (I.wish _) hw) (fun _ _ ⟨v, H', I', r, q⟩ => ⟨v, H', I'.unwish, r, q⟩) fun _ _ z => False.elim z
theorem PT.nox {e : Expr} {t : TT} (h : PT X.nox e t) : PT X e t := fun pins s σ H Q I hw =>
  wpAny_mono (h pins s σ H Q (I.wish _) hw) (fun _ _ ⟨H', I', q⟩ => ⟨H', I'.unwish, q⟩) fun _ _ z => False.elim z
theorem PSs.nox {st : List Stmt} {t : TS} (h : PSs X.nox st t) : PSs X st t := fun pins s σ H D I hw =>
  wpAny_mono (h pins s σ H D (I.wish _) hw) (fun _ _ q => q.unwish) fun _ _ z => False.elim z
end
section
variable {X : Cx} {st : Stmt} {rest : List Stmt} {t u : TS} {e : Expr} {te : TE} {pos : Pos}
def tNext : TS := fun D σ H => D.nx σ H
def tSeq (t u : TS) : TS := fun D σ H => t { D with nx := u D } σ H
theorem pss_nil : PSs X [] tNext := fun _ _ σ H _ I h => wpAny_execs_nil ⟨σ, H, I, h⟩
theorem pss_cons (h1 : PS X st t) (h2 : PSs X rest u) : PSs X (st :: rest) (tSeq t u) := by
  intro pins s σ H D I h
  refine wpAny_execs_cons (thn (h1 pins s σ H { D with nx := u D } I h) fun f s1 q => ?_)
  cases f with
  | next =>
    obtain ⟨σ', H', I', q⟩ := q
    exact h2 pins s1 σ' H' D I' q
  | ret v => exact q
  | brk => exact q
  | cont => exact q
theorem pss_one (h1 : PS X st t) : PSs X [st] t := by
  intro pins s σ H D I h
  refine wpAny_execs_cons (thn (h1 pins s σ H D I h) fun f s1 q => ?_)
  cases f with
  | next => exact wpAny_execs_nil q
  | ret v => exact q
  | brk => exact q
  | cont => exact q
theorem Inv.quiet {pins : List (Addr × Obj)} {σ : St} {H : Hp} {s : Shared} (I : Inv X pins σ H s) : interactive X.env = false := by simp [interactive, I.ok.kind]
def tDrop (te : TE) : TS := fun D σ H => te σ H fun _ H1 => D.nx σ H1
theorem ps_expr (he : PE X e te) (hs : swapsWith e none pos.line X.env = pure false := by rfl) : PS X (.Expr e pos) (tDrop te) := by
  intro pins s σ H D I h
  exact wpAny_Expr_any (thn (he pins s σ H _ I h) fun v s1 ⟨x, H1, I1, r1, q1⟩ => ⟨σ, H1, I1, q1⟩) I.quiet hs
def tRet (te : TE) : TS := fun D σ H => te σ H D.rt
theorem ps_ret (he : PE X e te) : PS X (.Return (some e) pos) (tRet te) := by
  intro pins s σ H D I h
  exact wpAny_Return_some (thn (he pins s σ H _ I h) fun v s1 ⟨x, H1, I1, r1, q1⟩ => ⟨x, σ, H1, I1, r1, q1⟩)
def tIfS (c : TT) (t u : TS) : TS := fun D σ H => c σ H fun b H1 => if b = true then t D σ H1 else u D σ H1
theorem ps_if {c : Expr} {a b : List Stmt} {tc : TT} (hc : PT X c tc) (ha : PSs X a t) (hb : PSs X b u) : PS X (.If c a b pos) (tIfS tc t u) := by
  intro pins s σ H D I h
  refine wpAny_If (thn (hc pins s σ H _ I h) fun d s1 ⟨H1, I1, q1⟩ => ?_)
  cases d with
  | true => exact ha pins s1 σ H1 D I1 q1
  | false => exact hb pins s1 σ H1 D I1 q1
def tNever : TS := fun _ _ _ => False
theorem pss_never {sts : List Stmt} : PSs X sts tNever := fun _ _ _ _ _ _ h => h.elim
end
abbrev TG := V → St → Hp → (St → Hp → Prop) → Prop
abbrev TGs := List V → St → Hp → (St → Hp → Prop) → Prop
def PG (X : Cx) (target : Expr) (t : TG) : Prop :=
  ∀ (pins : List (Addr × Obj)) (s : Shared) (σ : St) (H : Hp) (v : V) (u : Value) (Q : St → Hp → Prop), Inv X pins σ H s → RelV v u → t v σ H Q →
    wpAny (model X.prog X.w) X.A (assign target X.env u) (fun _ s' => ∃ σ' H', Inv X pins σ' H' s' ∧ Q σ' H') X.xe s
def PGs (X : Cx) (ts : List Expr) (t : TGs) : Prop :=
  ∀ (pins : List (Addr × Obj)) (s : Shared) (σ : St) (H : Hp) (vs : List V) (us : List Value) (Q : St → Hp → Prop), Inv X pins σ H s → Vals vs us → t vs σ H Q →
    wpAny (model X.prog X.w) X.A (assignInOrder ((assignEach ts X.env).map (·.2)) us) (fun _ s' => ∃ σ' H', Inv X pins σ' H' s' ∧ Q σ' H') X.xe s
abbrev TSet := V → V → V → Hp → (Hp → Prop) → Prop
def PSet (X : Cx) (t : TSet) : Prop :=
  ∀ (pins : List (Addr × Obj)) (s : Shared) (σ : St) (H : Hp) (o i v : V) (ov iv u : Value) (Q : Hp → Prop), Inv X pins σ H s → RelV o ov → RelV i iv → RelV v u → t o i v H Q →
    wpAny (model X.prog X.w) X.A (setItem ov iv u) (fun _ s' => ∃ H', Inv X pins σ H' s' ∧ Q H') X.xe s
section
variable {X : Cx} {pos : Pos}
def gName (i : Nat) : TG := fun v σ H Q => Q (σ.set i (some v)) H
theorem pg_name {i : Nat} {x : Str} (hN : X.N.Nodup) (hi : X.N[i]? = some x) (hx : Loc X.env.scope x) (hf : X.fn x = true ∨ X.env.scope.names.lookup x = some .local := by first | exact .inl rfl | exact .inr rfl | assumption) : PG X (.Name x pos) (gName i) := by
  intro pins s σ H v u Q I r h
  exact wpAny_assign_Name (store_ok I hN hi hx r (fun s' I' => ⟨_, H, I', h⟩) hf)
def gNil : TGs := fun vs σ H Q => vs = [] ∧ Q σ H
def gCons (t : TG) (u : TGs) : TGs := fun vs σ H Q => ∃ v r, vs = v :: r ∧ t v σ H fun σ' H' => u r σ' H' Q
theorem pgs_nil : PGs X [] gNil := by
  intro pins s σ H vs us Q I r h
  obtain ⟨e, h⟩ := h
  subst e
  cases r
  exact assignInOrder_nil ⟨σ, H, I, h⟩
theorem pgs_cons {e : Expr} {es : List Expr} {t : TG} {u : TGs} (h1 : PG X e t) (h2 : PGs X es u)
    (hs : (assignEach (e :: es) X.env).map (·.2) = assign e X.env :: (assignEach es X.env).map (·.2) := by rfl) : PGs X (e :: es) (gCons t u) := by
  intro pins s σ H vs us Q I r h
  obtain ⟨v, vr, e1, h⟩ := h
  subst e1
  cases r with
  | cons r rr =>
    rw [hs]
    refine assignInOrder_cons (thn (h1 pins s σ H _ _ _ I r h) fun _ s1 ⟨σ1, H1, I1, q1⟩ => ?_)
    exact h2 pins s1 σ1 H1 _ _ Q I1 rr q1
def gTup (K : PySem.W.Frag) (n : Nat) (t : TGs) : TG := fun v σ H Q => ∃ a xs, v = .ref a ∧ SqT K H a xs ∧ xs.length = n ∧ t xs σ H Q
theorem pg_tup {es : List Expr} {k : Nat} {t : TGs} {n : Nat} (hc : X.calm = true) (h : PGs X es t)
    (hn : (assignEach es X.env).length = n := by rfl) (hst : (assignEach es X.env).findIdx? (·.1) = none := by rfl) : PG X (.Tuple es k pos) (gTup X.K n t) := by
  intro pins s σ H v u Q I r hw
  obtain ⟨a, xs, e1, hq, hl, hw⟩ := hw
  subst e1
  cases r
  obtain ⟨its, rv, ht, hz⟩ := I.tuple hq
  refine assign_Tuple_tuple (I.ok.hd hc) ht (by simp [hn, ← hl, rv.length]) hst fun h' hx => ?_
  have I1 : Inv X pins σ H { s with heap := h' } := I.kept (t' := s.toks) fun b o e => hx b o (Nat.ne_of_lt (Heap.lt_size e)) e
  exact h pins _ σ H xs _ Q I1 (by simpa using rv) hw
def gSub (to ti : TE) (t : TSet) : TG := fun v σ H Q => to σ H fun o H1 => ti σ H1 fun i H2 => t o i v H2 fun H3 => Q σ H3
theorem pg_sub {o i : Expr} {to ti : TE} {t : TSet} (ho : PE X o to) (hi : PE X i ti) (hs : PSet X t)
    (ha : ∀ v, assign (.Subscript o i pos) X.env v = (do
      let ov ← holding [v] (eval o X.env)
      let iv ← holding [v, ov] (eval i X.env)
      standAt pos
      holding [v, ov, iv] (setItem ov iv v)
      release [v, ov, iv] []) := by intro _; rfl) : PG X (.Subscript o i pos) (gSub to ti t) := by
  intro pins s σ H v u Q I r h
  rw [ha]
  refine wpAny_bind (wpAny_holding (thn (ho pins s σ H _ I h) fun ov s1 ⟨x, H1, I1, r1, q1⟩ => ?_))
  refine wpAny_bind (wpAny_holding (thn (hi pins s1 σ H1 _ I1 q1) fun iv s2 ⟨y, H2, I2, r2, q2⟩ => ?_))
  refine wpAny_bind (wpAny_standAt (wpAny_bind (wpAny_holding (thn (hs pins s2 σ H2 x y v ov iv u _ I2 r1 r2 r q2) fun _ s3 ⟨H3, I3, q3⟩ => ?_))))
  exact wpAny_release ⟨σ, H3, I3, q3⟩
def tAsg (te : TE) (g : TG) : TS := fun D σ H => te σ H fun x H1 => g x σ H1 D.nx
theorem ps_asg {tg e : Expr} {te : TE} {g : TG} (he : PE X e te) (hg : PG X tg g) (hs : swapsWithSole [tg] e pos.line X.env = pure false := by rfl) (hw : swappedStores [tg] e X.env = pure none := by rfl)
    (h1 : (assignEach [tg] X.env).map (·.2) = [assign tg X.env] := by rfl) : PS X (.Assign [tg] e pos) (tAsg te g) := by
  intro pins s σ H D I h
  refine wpAny_Assign_stores (thn (he pins s σ H _ I h) fun v s1 ⟨x, H1, I1, r1, q1⟩ => ?_) hs hw
  rw [h1]
  exact thn (hg pins s1 σ H1 x v _ I1 r1 q1) fun _ s2 q => q
theorem ps_set {i : Nat} {x : Str} {e : Expr} {te : TE} {pos' : Pos} (hN : X.N.Nodup) (hi : X.N[i]? = some x) (hx : Loc X.env.scope x) (he : PE X e te) (hs : swapsWith e (some (.Name x pos')) pos.line X.env = pure false := by rfl) (hf : X.fn x = true ∨ X.env.scope.names.lookup x = some .local := by first | exact .inl rfl | exact .inr rfl | assumption) :
    PS X (.Assign [.Name x pos'] e pos) (tAsg te (gName i)) := by
  intro pins s σ H D I h
  refine wpAny_Assign_Name (thn (he pins s σ H _ I h) fun v s1 ⟨y, H1, I1, r1, q1⟩ => ?_) hs
  exact store_ok I1 hN hi hx r1 (fun s2 I2 => ⟨_, H1, I2, q1⟩) hf
end
section
variable {X : Cx} {pos : Pos}
end
structure It where
  go : Nat → Hp → Prop
  yld : Nat → Hp → V → Hp → Prop
  stop : Nat → Hp → Prop
def FpOk (X : Cx) (pins : List (Addr × Obj)) (H : Hp) (b : Addr) : Prop :=
  H b = none ∧ b ≠ X.env.locals ∧ b ∉ X.fs ∧ (b ∈ X.ex ∨ X.s₀.heap.objs.size ≤ b) ∧ (∀ x c, X.env.cells.lookup x = some c → c ≠ b) ∧ ∀ p ∈ X.pn ++ pins, p.1 ≠ b
theorem Inv.fpOk {X : Cx} {pins : List (Addr × Obj)} {σ : St} {H H' : Hp} {s : Shared} {b : Addr} (I : Inv X pins σ H s) (hb : s.heap.objs.size ≤ b) (hn : H' b = none) : FpOk X pins H' b := by
  refine ⟨hn, Nat.ne_of_gt (Nat.lt_of_lt_of_le I.lt hb), I.nofs hb, .inr (Nat.le_trans I.sz hb), fun x c e z => ?_, fun p hp z => ?_⟩
  · obtain ⟨v, q⟩ := I.cell x c e
    exact absurd (Nat.lt_of_lt_of_le q.lt (by rw [z]; exact hb)) (Nat.lt_irrefl _)
  · exact absurd (Nat.lt_of_lt_of_le (Heap.lt_size (I.pin p hp).1) (by rw [z]; exact hb)) (Nat.lt_irrefl _)
structure Turn (P : Program) (w : World) (K : PySem.W.Frag) (tg : Expr) (J : It) (fp : List Addr) (it : Addr) (tn : Nat → Heap → Prop) : Prop where
  mem : it ∈ fp
  obj : ∀ i h, tn i h → ∀ b ∈ fp, ∃ o, h.get? b = some o ∧ ∀ v, o.data ≠ .cell v
  keep : ∀ i h h', tn i h → (∀ b ∈ fp, ∀ o, h.get? b = some o → h'.get? b = some o) → tn i h'
  item : ∀ (X : Cx), X.prog = P → X.w = w → X.K = K → X.calm = true → ∀ (i : Nat) (pins : List (Addr × Obj)) (s : Shared) (σ : St) (H : Hp) (E : Value → Shared → Prop), Inv X pins σ H s → (∀ b ∈ fp, FpOk X pins H b) → tn i s.heap → J.go i H →
    wpAny (model P w) X.A (pyNext (.ref it)) (fun r s1 => ∃ u, r = some u ∧
      wpAny (model P w) X.A (letOwnedTupleGo tg (.ref it) u) (fun _ s2 => ∃ x H', Inv X pins σ H' s2 ∧ RelV x u ∧ J.yld i H x H' ∧ tn (i + 1) s2.heap ∧ ∀ b ∈ fp, H' b = none) E s1) E s
  done : ∀ (X : Cx), X.prog = P → X.w = w → X.K = K → X.calm = true → ∀ (i : Nat) (pins : List (Addr × Obj)) (s : Shared) (σ : St) (H : Hp) (E : Value → Shared → Prop), Inv X pins σ H s → (∀ b ∈ fp, FpOk X pins H b) → tn i s.heap → J.stop i H →
    wpAny (model P w) X.A (pyNext (.ref it)) (fun r s1 => r = none ∧ Inv X pins σ H s1) E s
  self : ∀ (A : Around) (i : Nat) (s : Shared) (Q : Value → Shared → Prop) (E : Value → Shared → Prop), tn i s.heap → Q (.ref it) s → wpAny (model P w) A (pyIter (.ref it)) Q E s
abbrev TI := St → Hp → (It → Hp → Prop) → Prop
def PIE (X : Cx) (pins : List (Addr × Obj)) (σ : St) (tg : Expr) (R : It → Hp → Prop) (itv : Value) (s2 : Shared) : Prop :=
  ∃ (it : Addr) (fp : List Addr) (tn : Nat → Heap → Prop) (J : It) (H' : Hp), itv = .ref it ∧ Inv X pins σ H' s2 ∧ Turn X.prog X.w X.K tg J fp it tn ∧ tn 0 s2.heap ∧ (∀ b ∈ fp, FpOk X pins H' b) ∧ R J H'
def PI (X : Cx) (tg iter : Expr) (wi : TI) : Prop :=
  ∀ (pins : List (Addr × Obj)) (s : Shared) (σ : St) (H : Hp) (R : It → Hp → Prop), Inv X pins σ H s → wi σ H R →
    wpAny (model X.prog X.w) X.A (eval iter X.env) (fun v s1 => wpAny (model X.prog X.w) X.A (pyIter v) (PIE X pins σ tg R) X.xe s1) X.xe s
theorem go_of {M : Model} {A : Around} {E : Value → Shared → Prop} {s : Shared} {tg : Expr} {it : Addr} {u : Value} {o : Obj} {n : String} {vs : Array Value} {Q : Unit → Shared → Prop} (ho : s.heap.get? it = some o) (hc : o.cls = .type n) (hd : o.data = .fields vs)
    (hn : ["enumerate", "zip", "dict_itemiterator", "dict_reverseitemiterator", "odict_iterator", "itertools.zip_longest", "itertools.pairwise"].contains n = false) (hQ : Q () s) : wpAny M A (letOwnedTupleGo tg (.ref it) u) Q E s := by
  unfold letOwnedTupleGo
  cases tg <;> first
    | exact wpAny_pure hQ
    | (cases u <;> first
        | exact wpAny_pure hQ
        | (refine wpAny_bind (wpAny_load ho ?_)
           rw [hc, hd]
           show wpAny M A (if (["enumerate", "zip", "dict_itemiterator", "dict_reverseitemiterator", "odict_iterator", "itertools.zip_longest", "itertools.pairwise"].contains n && vs[0]? == some (rawInt _)) = true then _ else _) Q E s
           rw [if_neg (by intro h; rw [hn, Bool.false_and] at h; cases h)]
           exact wpAny_pure hQ))
def Itl (K : PySem.W.Frag) (a : Addr) : It :=
  ⟨fun i H => ∃ xs x, SqL K H a xs ∧ xs[i]? = some x, fun i H x H' => H' = H ∧ ∀ xs, SqL K H a xs → xs[i]? = some x, fun i H => ∃ xs, SqL K H a xs ∧ xs.length ≤ i⟩
def Itr (lo : Int) (n : Nat) : It := ⟨fun i _ => i < n, fun i H x H' => H' = H ∧ x = .int (lo + i), fun i _ => n ≤ i⟩
theorem turn_list {P : Program} {w : World} {K : PySem.W.Frag} {tg : Expr} (a it : Addr) : Turn P w K tg (Itl K a) [it] it (fun i h => h.IsListIter it a i) where
  mem := by simp
  obj := fun i h st b hb => by
    have e : b = it := by simpa using hb
    subst e
    obtain ⟨o, e, c, d⟩ := st
    exact ⟨o, e, fun v z => by rw [d] at z; cases z⟩
  keep := fun i h h' st k => st.at fun o e => k it (by simp) o e
  item := by
    intro X hP hw hK hc i pins s σ H E I hf st hg
    subst hP hw hK
    obtain ⟨xs, x, hq, hx⟩ := hg
    obtain ⟨its, rv, p, hz⟩ := I.list hq
    obtain ⟨u, hu, ru⟩ := rv.get hx
    obtain ⟨f0, f1, f2, f3, f4, f5⟩ := hf it (by simp)
    refine wpAny_pyNext_list_item st p.isList (x := u) (by simpa using hu) fun h' st' sb => ?_
    have I1 : Inv X pins σ H { s with heap := h' } := I.turned (t' := s.toks) (fun b o hb e => (sb.2 b hb).trans e) f0 f1 f3 f4 f5
    obtain ⟨o, e, c, d⟩ := id st'
    exact ⟨u, rfl, go_of (s := { s with heap := h' }) e c d (by decide) ⟨x, H, I1, ru, ⟨rfl, fun ys hy => by rw [I.list_inj hy hq]; exact hx⟩, st', fun b hb => (hf b hb).1⟩⟩
  done := by
    intro X hP hw hK hc i pins s σ H E I hf st hg
    subst hP hw hK
    obtain ⟨xs, hq, hx⟩ := hg
    obtain ⟨its, rv, p, hz⟩ := I.list hq
    obtain ⟨f0, f1, f2, f3, f4, f5⟩ := hf it (by simp)
    have hl := rv.length
    exact wpAny_pyNext_list_end (I.ok.hd hc) st p.isList (by simp; omega) fun h' eb => ⟨rfl, I.turned (t' := s.toks) (fun b o hb e => eb b o hb e) f0 f1 f3 f4 f5⟩
  self := fun _ _ _ _ _ st h => wpAny_pyIter_listiter st h
theorem turn_range {P : Program} {w : World} {K : PySem.W.Frag} {tg : Expr} (it : Addr) (lo : Int) (n : Nat) : Turn P w K tg (Itr lo n) [it] it (fun i h => IsRangeIter h it (lo + (i : Nat) * 1) ((n : Int) - (i : Nat)) 1) where
  mem := by simp
  obj := fun i h st b hb => by
    have e : b = it := by simpa using hb
    subst e
    exact ⟨_, st, fun v z => by
      have z' : Data.fields _ = Data.cell v := z
      cases z'⟩
  keep := fun i h h' st k => k it (by simp) _ st
  item := by
    intro X hP hw hK hc i pins s σ H E I hf st hg
    subst hP hw hK
    obtain ⟨f0, f1, f2, f3, f4, f5⟩ := hf it (by simp)
    have W := Walks.range (prog := X.prog) (w := X.w) (I.ok.hd hc) it lo 1 n
    refine with_toks (W.item i s _ _ hg st fun v h' tk hv st' kk htk => ?_)
    obtain ⟨t, rfl⟩ := hv
    have I1 : Inv X pins σ H { s with heap := h', toks := tk } := I.turned (fun b o hb e => kk b o (by simpa using hb) e) f0 f1 f3 f4 f5
    refine ⟨_, rfl, go_of (s := { s with heap := h', toks := tk }) (n := "range_iterator") st' rfl rfl (by decide) ⟨.int (lo + i), H, I1, ⟨t, ?_⟩, ⟨rfl, rfl⟩, st', fun b hb => (hf b hb).1⟩⟩
    rw [Int.mul_one]
  done := by
    intro X hP hw hK hc i pins s σ H E I hf st hg
    subst hP hw hK
    obtain ⟨f0, f1, f2, f3, f4, f5⟩ := hf it (by simp)
    exact wpAny_pyNext_range_end (I.ok.hd hc) st (by have : n ≤ i := hg; omega) fun h' eb => ⟨rfl, I.turned (t' := s.toks) (fun b o hb e => eb b o hb e) f0 f1 f3 f4 f5⟩
  self := fun _ _ _ _ _ st h => wpAny_pyIter_rangeiter st h
end L2
namespace L2
open PySem PySem.Spec PyProof.Rows
section
variable {X : Cx} {tg : Expr}
def iList (K : PySem.W.Frag) (tl : TE) : TI := fun σ H R => tl σ H fun x H1 => ∃ a, x = .ref a ∧ (∃ xs, SqL K H1 a xs) ∧ R (Itl K a) H1
theorem pi_list {l : Expr} {tl : TE} (hl : PE X l tl) : PI X tg l (iList X.K tl) := by
  intro pins s σ H R I h
  refine thn (hl pins s σ H _ I h) fun v s1 ⟨x, H1, I1, r1, q1⟩ => ?_
  obtain ⟨a, e, ⟨xs, hq⟩, q⟩ := q1
  subst e
  cases r1
  obtain ⟨its, rv, p, hz⟩ := I1.list hq
  refine wpAny_pyIter_list p.isList ?_
  refine ⟨s1.heap.objs.size, [s1.heap.objs.size], _, _, H1, rfl, I1.kept (t' := s1.toks) fun b o e => Heap.get?_push_of_some _ e, turn_list a _, ⟨_, Heap.get?_push_size _ rfl, rfl, rfl⟩, fun b hb => ?_, q⟩
  have e : b = s1.heap.objs.size := by simpa using hb
  subst e
  exact I1.fpOk (Nat.le_refl _) (I1.hok.fresh (Nat.le_refl _))
theorem range_it {pins : List (Addr × Obj)} {σ : St} {H : Hp} {s : Shared} {R : It → Hp → Prop} {E : Value → Shared → Prop} {lo hi : Int} {t u v : Tok} {tk : Nat} (I : Inv X pins σ H s) (h1 : -(2 ^ 62) ≤ lo) (h2 : lo < 2 ^ 62) (h3 : -(2 ^ 62) ≤ hi) (h4 : hi < 2 ^ 62)
    (q : R (Itr lo (hi - lo).toNat) H) (htk : s.toks ≤ tk := by first | exact Nat.le_refl _ | exact Nat.le_succ _ | assumption | omega) : wpAny (model X.prog X.w) X.A (pyIter (.ref s.heap.objs.size)) (PIE X pins σ tg R) E { s with heap := s.heap.push { cls := .type "range", data := .fields #[.int lo t, .int hi u, .int 1 v] }, toks := tk } := by
  refine wpAny_pyIter_range (IsRange.new ..) (small_one h1 h2 h3 h4) ?_
  have I1 : Inv X pins σ H { s with heap := s.heap.push { cls := .type "range", data := .fields #[.int lo t, .int hi u, .int 1 v] }, toks := tk } := I.kept fun b o e => Heap.get?_push_of_some _ e
  refine ⟨(s.heap.push { cls := .type "range", data := .fields #[.int lo t, .int hi u, .int 1 v] }).objs.size, [(s.heap.push { cls := .type "range", data := .fields #[.int lo t, .int hi u, .int 1 v] }).objs.size], _, _, H, rfl,
    I1.kept (t' := tk) fun b o e => Heap.get?_push_of_some _ e, turn_range _ lo (hi - lo).toNat, ?_, fun b hb => ?_, q⟩
  · have e1 : lo + ((0 : Nat) : Int) * 1 = lo := by simp
    have e2 : (((hi - lo).toNat : Nat) : Int) - ((0 : Nat) : Int) = Builtin.Range.rangeSize lo hi 1 := by rw [rangeSize_one]; split <;> omega
    show IsRangeIter _ _ (lo + ((0 : Nat) : Int) * 1) ((((hi - lo).toNat : Nat) : Int) - ((0 : Nat) : Int)) 1
    rw [e1, e2]
    exact Heap.get?_push_size _ rfl
  · have e : b = (s.heap.push { cls := .type "range", data := .fields #[.int lo t, .int hi u, .int 1 v] }).objs.size := by simpa using hb
    subst e
    exact I1.fpOk (Nat.le_refl _) (I1.hok.fresh (Nat.le_refl _))
def iRng1 (ta : TA) : TI := fun σ H R => ta σ H fun vs H1 => ∃ j : Int, vs = [.int j] ∧ -(2 ^ 62) ≤ j ∧ j < 2 ^ 62 ∧ R (Itr 0 j.toNat) H1
theorem pi_range1 {a : Expr} {ta : TA} {p pos : Pos} (hg : Gl X "range") (hm : X.mg "range" = none) (ha : PA X [a] ta) (hs : starEach [a] X.env = [(false, eval a X.env)] := by rfl) : PI X tg (.Call (.Name "range" p) [a] [] pos) (iRng1 ta) := by
  intro pins s σ H R I h
  refine Call_ (ld_blt I hg hm boot_range (PyProof.Rows.callWith_type1 (thn (ha pos pins s σ H _ I h) fun us s1 ⟨vs, H1, I1, r1, q1⟩ => ?_) hs rfl))
  obtain ⟨j, e, q1, q2, q⟩ := q1
  subst e
  cases r1 with
  | cons r rr =>
    cases rr
    obtain ⟨t, rfl⟩ := r
    exact call_range_1 (range_it I1 (by omega) (by omega) q1 q2 (by simpa using q))
def tFor (wi : TI) (g : TG) (tb : TS) : TS := fun D σ H => wi σ H fun J H1 => ∃ W : Nat → Nat → St → Hp → Prop, (∃ m, W 0 m σ H1) ∧ ∀ i m σ H, W i m σ H →
  (J.stop i H ∧ D.nx σ H) ∨ (J.go i H ∧ ∃ N : St → Hp → Prop, (∀ σ' H', N σ' H' → ∃ m', m' < m ∧ W (i + 1) m' σ' H') ∧ ∀ x H', J.yld i H x H' → g x σ H' fun σ2 H2 => tb { D with nx := N, ct := N, bk := D.nx } σ2 H2)
def pinsAt (fp : List Addr) (h : Heap) : List (Addr × Obj) := fp.filterMap fun b => (h.get? b).map fun o => (b, o)
theorem mem_pinsAt {fp : List Addr} {h : Heap} {b : Addr} {o : Obj} (hb : b ∈ fp) (e : h.get? b = some o) : (b, o) ∈ pinsAt fp h := List.mem_filterMap.mpr ⟨b, hb, by rw [e]; rfl⟩
theorem of_pinsAt {fp : List Addr} {h : Heap} {p : Addr × Obj} (hp : p ∈ pinsAt fp h) : p.1 ∈ fp ∧ h.get? p.1 = some p.2 := by
  obtain ⟨b, hb, e⟩ := List.mem_filterMap.mp hp
  cases q : h.get? b with
  | none => rw [q] at e; cases e
  | some o =>
    rw [q] at e
    have e' : (b, o) = p := Option.some.inj e
    subst e'
    exact ⟨hb, q⟩
theorem Inv.pinned {pins : List (Addr × Obj)} {σ : St} {H : Hp} {s : Shared} {fp : List Addr} (I : Inv X pins σ H s) (hf : ∀ b ∈ fp, FpOk X pins H b) (ho : ∀ b ∈ fp, ∃ o, s.heap.get? b = some o ∧ ∀ v, o.data ≠ .cell v) : Inv X (pins ++ pinsAt fp s.heap) σ H s :=
  I.pins_of fun p hp => (List.mem_append.mp hp).elim (fun z => I.pin p (List.mem_append_right _ z)) fun z => by
    obtain ⟨hb, e⟩ := of_pinsAt z
    obtain ⟨f0, f1, f2, _⟩ := hf p.1 hb
    obtain ⟨o, e', d⟩ := ho p.1 hb
    rw [e] at e'; cases e'
    exact ⟨e, f0, f1, f2, d⟩
theorem Inv.unpinned {pins pl : List (Addr × Obj)} {σ : St} {H : Hp} {s : Shared} (I : Inv X (pins ++ pl) σ H s) : Inv X pins σ H s := I.pins_of fun p hp => I.pin p (List.mem_append_right _ (List.mem_append_left _ hp))
theorem ps_for {iter : Expr} {body : List Stmt} {wi : TI} {g : TG} {tb : TS} {pos : Pos} (hp : PassesOwn (model X.prog X.w) X.A X.env X.xe) (hc : X.calm = true) (hi : PI X tg iter wi) (hg : PG X tg g) (hb : PSs X body tb)
    (hs : ∀ x, foldedSetIterable iter X.env x = pure x := by intro _; rfl) : PS X (.For tg iter body [] pos) (tFor wi g tb) := by
  intro pins s σ H D I h
  refine wpAny_For (thn (hi pins s σ H _ I h) fun v s1 h1 => thn h1 fun itv s2 h2 => ?_) hs
  obtain ⟨it, fp, tn, J, H2, e, I2, T, st2, f2, W, ⟨m0, w0⟩, turn⟩ := h2
  subst e
  have stat : ∀ {H' : Hp}, (∀ b ∈ fp, H' b = none) → ∀ b ∈ fp, FpOk X pins H' b := fun hn b hb => ⟨hn b hb, (f2 b hb).2⟩
  refine codeAny_forLoop_any (fun n s' => ∃ i σ' H', Inv X pins σ' H' s' ∧ tn i s'.heap ∧ (∀ b ∈ fp, H' b = none) ∧ W i n σ' H') ?_ m0 ⟨0, σ, H2, I2, st2, fun b hb => (f2 b hb).1, w0⟩
  rintro n s3 ⟨i, σ3, H3, I3, st3, fr3, w3⟩
  rcases turn i n σ3 H3 w3 with ⟨stop, qn⟩ | ⟨go, N, hN, step⟩
  · refine wpAny_passesOwn hp (thn (T.done X rfl rfl rfl hc i pins s3 σ3 H3 X.xe I3 (stat fr3) st3 stop) fun r s4 ⟨hr, I4⟩ => ?_)
    subst hr
    exact wpAny_execs_nil ⟨σ3, H3, I4, qn⟩
  · refine wpAny_passesOwn hp (thn (T.item X rfl rfl rfl hc i pins s3 σ3 H3 X.xe I3 (stat fr3) st3 go) fun r s4 ⟨u, hr, h4⟩ => ?_)
    subst hr
    refine wpAny_passesOwn hp (thn h4 fun _ s5 ⟨x, H5, I5, r5, y5, st5, fr5⟩ => ?_)
    have I5' := I5.pinned (stat fr5) (T.obj _ _ st5)
    refine wpAny_passesOwn hp (thn (hg _ s5 σ3 H5 x u _ I5' r5 (step x H5 y5)) fun _ s6 ⟨σ6, H6, I6, q6⟩ => ?_)
    refine wpAny_passesOwn hp (thn (hb _ s6 σ6 H6 _ I6 q6) fun f s7 q7 => ?_)
    have again : ∀ {σ7 : St} {H7 : Hp}, Inv X (pins ++ pinsAt fp s5.heap) σ7 H7 s7 → N σ7 H7 → ∃ m, m < n ∧ ∃ i σ' H', Inv X pins σ' H' s7 ∧ tn i s7.heap ∧ (∀ b ∈ fp, H' b = none) ∧ W i m σ' H' := fun {σ7 H7} I7 n7 => by
      obtain ⟨m', hm, w7⟩ := hN σ7 H7 n7
      refine ⟨m', hm, i + 1, σ7, H7, I7.unpinned, T.keep _ _ _ st5 fun b hb o e => (I7.pin (b, o) (List.mem_append_right _ (List.mem_append_right _ (mem_pinsAt hb e)))).1, fun b hb => ?_, w7⟩
      obtain ⟨o, e, d⟩ := T.obj _ _ st5 b hb
      exact (I7.pin (b, o) (List.mem_append_right _ (List.mem_append_right _ (mem_pinsAt hb e)))).2.1
    cases f with
    | next => obtain ⟨σ7, H7, I7, n7⟩ := q7; exact again I7 n7
    | cont => obtain ⟨σ7, H7, I7, n7⟩ := q7; exact again I7 n7
    | brk => obtain ⟨σ7, H7, I7, q7⟩ := q7; exact ⟨σ7, H7, I7.unpinned, q7⟩
    | ret v => obtain ⟨x7, σ7, H7, I7, r7, q7⟩ := q7; exact ⟨x7, σ7, H7, I7.unpinned, r7, q7⟩
end
theorem for_list {K : PySem.W.Frag} {a : Addr} {xs : List V} {g : TG} {tb : TS} {D : Ends} {σ : St} {H : Hp} (Pv : Nat → St → Hp → Prop) (h0 : Pv 0 σ H) (hl : ∀ i σ H, i ≤ xs.length → Pv i σ H → SqL K H a xs)
    (hs : ∀ i x σ H, xs[i]? = some x → Pv i σ H → g x σ H fun σ2 H2 => tb { D with nx := Pv (i + 1), ct := Pv (i + 1), bk := D.nx } σ2 H2) (hd : ∀ σ H, Pv xs.length σ H → D.nx σ H) :
    ∃ W : Nat → Nat → St → Hp → Prop, (∃ m, W 0 m σ H) ∧ ∀ i m σ H, W i m σ H →
      ((Itl K a).stop i H ∧ D.nx σ H) ∨ ((Itl K a).go i H ∧ ∃ N : St → Hp → Prop, (∀ σ' H', N σ' H' → ∃ m', m' < m ∧ W (i + 1) m' σ' H') ∧ ∀ x H', (Itl K a).yld i H x H' → g x σ H' fun σ2 H2 => tb { D with nx := N, ct := N, bk := D.nx } σ2 H2) := by
  refine ⟨fun i m σ H => m = xs.length - i ∧ i ≤ xs.length ∧ Pv i σ H, ⟨xs.length, by simp, Nat.zero_le _, h0⟩, ?_⟩
  rintro i m σ H ⟨rfl, hi, p⟩
  have q := hl i σ H hi p
  by_cases hlt : i < xs.length
  · refine .inr ⟨⟨xs, xs[i], q, by simp [hlt]⟩, Pv (i + 1), fun σ' H' p' => ⟨xs.length - (i + 1), by omega, rfl, hlt, p'⟩, fun x H' y => ?_⟩
    obtain ⟨e, y⟩ := y
    subst e
    exact hs i x σ _ (y xs q) p
  · have e : i = xs.length := by omega
    subst e
    exact .inl ⟨⟨xs, q, Nat.le_refl _⟩, hd σ H p⟩
theorem for_range {lo : Int} {n : Nat} {g : TG} {tb : TS} {D : Ends} {σ : St} {H : Hp} (Pv : Nat → St → Hp → Prop) (h0 : Pv 0 σ H)
    (hs : ∀ i σ H, i < n → Pv i σ H → g (.int (lo + i)) σ H fun σ2 H2 => tb { D with nx := Pv (i + 1), ct := Pv (i + 1), bk := D.nx } σ2 H2) (hd : ∀ σ H, Pv n σ H → D.nx σ H) :
    ∃ W : Nat → Nat → St → Hp → Prop, (∃ m, W 0 m σ H) ∧ ∀ i m σ H, W i m σ H →
      ((Itr lo n).stop i H ∧ D.nx σ H) ∨ ((Itr lo n).go i H ∧ ∃ N : St → Hp → Prop, (∀ σ' H', N σ' H' → ∃ m', m' < m ∧ W (i + 1) m' σ' H') ∧ ∀ x H', (Itr lo n).yld i H x H' → g x σ H' fun σ2 H2 => tb { D with nx := N, ct := N, bk := D.nx } σ2 H2) := by
  refine ⟨fun i m σ H => m = n - i ∧ i ≤ n ∧ Pv i σ H, ⟨n, by simp, Nat.zero_le _, h0⟩, ?_⟩
  rintro i m σ H ⟨rfl, hi, p⟩
  by_cases hlt : i < n
  · refine .inr ⟨hlt, Pv (i + 1), fun σ' H' p' => ⟨n - (i + 1), by omega, rfl, hlt, p'⟩, fun x H' y => ?_⟩
    obtain ⟨e, y⟩ := y
    subst e y
    exact hs i σ _ hlt p
  · have e : i = n := by omega
    subst e
    exact .inl ⟨Nat.le_refl _, hd σ H p⟩
end L2
namespace L2
open PySem PySem.Spec PyProof.Rows
abbrev R2 := V → V → Hp → VK → Prop
def OpR (X : Cx) (f : Value → Value → Sem Value) (r : R2) : Prop :=
  ∀ (pins : List (Addr × Obj)) (s : Shared) (σ : St) (H : Hp) (x y : V) (v u : Value) (Q : VK), Inv X pins σ H s → RelV x v → RelV y u → r x y H Q →
    wpAny (model X.prog X.w) X.A (f v u) (EP X pins σ Q) X.xe s
def UnR (X : Cx) (f : Value → Sem Value) (r : V → Hp → VK → Prop) : Prop :=
  ∀ (pins : List (Addr × Obj)) (s : Shared) (σ : St) (H : Hp) (x : V) (v : Value) (Q : VK), Inv X pins σ H s → RelV x v → r x H Q →
    wpAny (model X.prog X.w) X.A (f v) (EP X pins σ Q) X.xe s
def CallR (X : Cx) (f : Value) (r : List V → Hp → VK → Prop) : Prop :=
  ∀ (pins : List (Addr × Obj)) (s : Shared) (σ : St) (H : Hp) (xs : List V) (us : List Value) (Q : VK), Inv X pins σ H s → Vals xs us → r xs H Q →
    wpAny (model X.prog X.w) X.A (call f us) (EP X pins σ Q) X.xe s
def tOp (r : R2) (ta tb : TE) : TE := fun σ H Q => ta σ H fun x H1 => tb σ H1 fun y H2 => r x y H2 Q
def tUn (r : V → Hp → VK → Prop) (ta : TE) : TE := fun σ H Q => ta σ H fun x H1 => r x H1 Q
def rI (C : Int → Int → Prop) (g : Int → Int → V) : R2 := fun x y H Q => ∃ i j, x = .int i ∧ y = .int j ∧ C i j ∧ Q (g i j) H
def rI0 (g : Int → Int → V) : R2 := fun x y H Q => ∃ i j, x = .int i ∧ y = .int j ∧ Q (g i j) H
def rU (g : Int → V) : V → Hp → VK → Prop := fun x H Q => ∃ i, x = .int i ∧ Q (g i) H
section
variable {X : Cx} {a b c : Expr} {ta tb tc : TE} {pos : Pos}
theorem binT (ha : PE X a ta) (hb : PE X b tb) {pins : List (Addr × Obj)} {s : Shared} {σ : St} {H : Hp} {R : V → V → Hp → Prop} (I : Inv X pins σ H s)
    (h : ta σ H fun x H1 => tb σ H1 fun y H2 => R x y H2) {Q : Value → Shared → Prop} {f : Value → Value → Sem Value}
    (hf : ∀ v u s2 x y H2, Inv X pins σ H2 s2 → RelV x v → RelV y u → R x y H2 → wpAny (model X.prog X.w) X.A (f v u) Q X.xe s2) :
    wpAny (model X.prog X.w) X.A (eval a X.env) (fun v s₁ => wpAny (model X.prog X.w) X.A (eval b X.env) (fun u s₂ => wpAny (model X.prog X.w) X.A (f v u) Q X.xe s₂) X.xe s₁) X.xe s := by
  refine thn (ha pins s σ H _ I h) fun v s1 ⟨x, H1, I1, r1, q1⟩ => ?_
  refine thn (hb pins s1 σ H1 _ I1 q1) fun u s2 ⟨y, H2, I2, r2, q2⟩ => ?_
  exact hf v u s2 x y H2 I2 r1 r2 q2
theorem pe_op {op : Operator} {r : R2} (ho : OpR X (binaryOp op) r) (ha : PE X a ta) (hb : PE X b tb) : PE X (.BinOp a op b pos) (tOp r ta tb) := by
  intro pins s σ H Q I h
  exact wpAny_BinOp (binT ha hb I h fun v u s2 x y H2 I2 rx ry q => ho pins s2 σ H2 x y v u Q I2 rx ry q)
theorem pe_un {op : UnaryOp} {r : V → Hp → VK → Prop} (ho : UnR X (unaryOp op) r) (ha : PE X a ta) : PE X (.UnaryOp op a pos) (tUn r ta) := by
  intro pins s σ H Q I h
  exact UnaryOp_ (thn (ha pins s σ H _ I h) fun v s1 ⟨x, H1, I1, r1, q1⟩ => ho pins s1 σ H1 x v Q I1 r1 q1)
theorem opI {f : Value → Value → Sem Value} {C : Int → Int → Prop} {g : Int → Int → Int}
    (rule : ∀ (i j : Int) (t u : Tok) (s : Shared) (Q : Value → Shared → Prop) (E : Value → Shared → Prop), C i j → Q (.int (g i j) s.toks) { s with toks := s.toks + 1 } → wpAny (model X.prog X.w) X.A (f (.int i t) (.int j u)) Q E s) :
    OpR X f (rI C fun i j => .int (g i j)) := by
  intro pins s σ H x y v u Q I rx ry h
  obtain ⟨i, j, rfl, rfl, hc, q⟩ := h
  obtain ⟨t, rfl⟩ := rx
  obtain ⟨t', rfl⟩ := ry
  exact rule i j t t' s _ _ hc ⟨.int (g i j), H, I.tok _, ⟨_, rfl⟩, q⟩
theorem opI0 {f : Value → Value → Sem Value} {g : Int → Int → Int}
    (rule : ∀ (i j : Int) (t u : Tok) (s : Shared) (Q : Value → Shared → Prop) (E : Value → Shared → Prop), Q (.int (g i j) s.toks) { s with toks := s.toks + 1 } → wpAny (model X.prog X.w) X.A (f (.int i t) (.int j u)) Q E s) :
    OpR X f (rI0 fun i j => .int (g i j)) := by
  intro pins s σ H x y v u Q I rx ry h
  obtain ⟨i, j, rfl, rfl, q⟩ := h
  obtain ⟨t, rfl⟩ := rx
  obtain ⟨t', rfl⟩ := ry
  exact rule i j t t' s _ _ ⟨.int (g i j), H, I.tok _, ⟨_, rfl⟩, q⟩
theorem opB0 {f : Value → Value → Sem Value} {g : Int → Int → Bool}
    (rule : ∀ (i j : Int) (t u : Tok) (s : Shared) (Q : Value → Shared → Prop) (E : Value → Shared → Prop), Q (.bool (g i j)) s → wpAny (model X.prog X.w) X.A (f (.int i t) (.int j u)) Q E s) :
    OpR X f (rI0 fun i j => .bl (g i j)) := by
  intro pins s σ H x y v u Q I rx ry h
  obtain ⟨i, j, rfl, rfl, q⟩ := h
  obtain ⟨t, rfl⟩ := rx
  obtain ⟨t', rfl⟩ := ry
  exact rule i j t t' s _ _ ⟨.bl (g i j), H, I, rfl, q⟩
def CDiv (i j : Int) : Prop := 0 < j ∧ j < 1073741824
def CMul (i j : Int) : Prop := (-(2 ^ 64) < i ∧ i < 2 ^ 64) ∨ (-(2 ^ 64) < j ∧ j < 2 ^ 64)
theorem CMul.ok {i j : Int} (h : CMul i j) : IntMulOk i j := by
  rcases h with ⟨h1, h2⟩ | ⟨h1, h2⟩
  · exact .of_left (intBits_le_64 h1 h2)
  · exact .of_right (intBits_le_64 h1 h2)
theorem op_add : OpR X (binaryOp .Add) (rI0 fun i j => .int (i + j)) := opI0 fun _ _ _ _ _ _ _ q => add_int q
theorem op_sub : OpR X (binaryOp .Sub) (rI0 fun i j => .int (i - j)) := opI0 fun _ _ _ _ _ _ _ q => sub_int q
theorem op_mul : OpR X (binaryOp .Mult) (rI CMul fun i j => .int (i * j)) := opI fun _ _ _ _ _ _ _ hc q => mul_int q hc.ok
theorem op_fdiv : OpR X (binaryOp .FloorDiv) (rI CDiv fun i j => .int (i / j)) := opI fun i j _ _ _ _ _ hc q => by
  have h1 : (0 : Int) < j := hc.1
  have h2 : j < 1073741824 := hc.2
  exact floordiv_int (by omega) (by rw [Int.fdiv_eq_ediv_of_nonneg i (by omega)]; exact q) (.inl (PyProof.noPylong_small (by omega)))
theorem op_mod : OpR X (binaryOp .Mod) (rI (fun _ j => 0 < j) fun i j => .int (i % j)) := opI fun i j _ _ _ _ _ hc q => by
  have h1 : (0 : Int) < j := hc
  exact mod_int' (by omega) (by rw [Int.fmod_eq_emod_of_nonneg i (by omega)]; exact q)
theorem unI {f : Value → Sem Value} {g : Int → Int}
    (rule : ∀ (i : Int) (t : Tok) (s : Shared) (Q : Value → Shared → Prop) (E : Value → Shared → Prop), Q (.int (g i) s.toks) { s with toks := s.toks + 1 } → wpAny (model X.prog X.w) X.A (f (.int i t)) Q E s) :
    UnR X f (rU fun i => .int (g i)) := by
  intro pins s σ H x v Q I rx h
  obtain ⟨i, rfl, q⟩ := h
  obtain ⟨t, rfl⟩ := rx
  exact rule i t s _ _ ⟨.int (g i), H, I.tok _, ⟨_, rfl⟩, q⟩
theorem un_neg : UnR X (unaryOp .USub) (rU fun i => .int (-i)) := unI fun _ _ _ _ _ q => neg_int q
end
def scal : V → V → Bool
  | .non, .non => true | .non, .int _ => true | .int _, .non => true | .non, .bl _ => true | .bl _, .non => true | .non, .str _ => true | .str _, .non => true
  | .int _, .int _ => true | .bl _, .bl _ => true | .str _, .str _ => true | .byt _, .byt _ => true
  | .int _, .str _ => true | .str _, .int _ => true | .bl _, .str _ => true | .str _, .bl _ => true
  | _, _ => false
def rEq : R2 := fun x y H Q => scal x y = true ∧ Q (.bl (decide (x = y))) H
def rNe : R2 := fun x y H Q => scal x y = true ∧ Q (.bl (!decide (x = y))) H
theorem dec_int {i j : Int} : decide (V.int i = V.int j) = (i == j) := by
  rw [Bool.eq_iff_iff]
  simp
theorem dec_bl {i j : Bool} : decide (V.bl i = V.bl j) = (i == j) := by
  rw [Bool.eq_iff_iff]
  simp
theorem dec_str {i j : Str} : decide (V.str i = V.str j) = (i == j) := by
  rw [Bool.eq_iff_iff]
  simp
theorem dec_byt {i j : Array UInt8} : decide (V.byt i = V.byt j) = (i.toList == j.toList) := by
  rw [Bool.eq_iff_iff]
  cases i
  cases j
  simp
section
variable {X : Cx} {a b c : Expr} {ta tb tc : TE} {pos : Pos}
theorem fin_bl {pins : List (Addr × Obj)} {σ : St} {H : Hp} {s : Shared} {Q : VK} {k k' : Bool} (I : Inv X pins σ H s) (q : Q (.bl k) H) (e : k = k') : EP X pins σ Q (.bool k') s := by
  subst e
  exact ⟨.bl k, H, I, rfl, q⟩
theorem op_eq : OpR X (compareOp .Eq) rEq := by
  intro pins s σ H x y v u Q I rx ry h
  obtain ⟨hs, q⟩ := h
  cases x with
  | non =>
    cases rx
    cases y with
    | non => cases ry; exact PySem.EqNone.eq_none_none (fin_bl I q (by simp))
    | bl j => cases ry; exact PySem.EqNone.eq_none_bool (fin_bl I q (by simp))
    | int j => obtain ⟨t', rfl⟩ := ry; exact PySem.EqNone.eq_none_int (fin_bl I q (by simp))
    | str j => obtain ⟨t', rfl⟩ := ry; exact PySem.EqNone.eq_none_str (fin_bl I q (by simp))
    | _ => exact absurd (show false = true from hs) Bool.false_ne_true
  | bl i =>
    cases rx
    cases y with
    | non => cases ry; exact PySem.EqNone.eq_bool_none (fin_bl I q (by simp))
    | bl j => cases ry; exact eq_bool (fin_bl I q dec_bl)
    | str j => obtain ⟨t', rfl⟩ := ry; exact PySem.EqMixed.eq_bool_str (fin_bl I q (by simp))
    | _ => exact absurd (show false = true from hs) Bool.false_ne_true
  | int i =>
    obtain ⟨t, rfl⟩ := rx
    cases y with
    | non => cases ry; exact PySem.EqNone.eq_int_none (fin_bl I q (by simp))
    | int j => obtain ⟨t', rfl⟩ := ry; exact eq_int (fin_bl I q dec_int)
    | str j => obtain ⟨t', rfl⟩ := ry; exact PySem.EqMixed.eq_int_str (fin_bl I q (by simp))
    | _ => exact absurd (show false = true from hs) Bool.false_ne_true
  | str i =>
    obtain ⟨t, rfl⟩ := rx
    cases y with
    | non => cases ry; exact PySem.EqNone.eq_str_none (fin_bl I q (by simp))
    | bl j => cases ry; exact PySem.EqMixed.eq_str_bool (fin_bl I q (by simp))
    | int j => obtain ⟨t', rfl⟩ := ry; exact PySem.EqMixed.eq_str_int (fin_bl I q (by simp))
    | str j => obtain ⟨t', rfl⟩ := ry; exact eq_str (fin_bl I q dec_str)
    | _ => exact absurd (show false = true from hs) Bool.false_ne_true
  | byt i =>
    obtain ⟨t, rfl⟩ := rx
    cases y with
    | byt j => obtain ⟨t', rfl⟩ := ry; exact PySem.W.eq_bytes (fin_bl I q dec_byt)
    | _ => exact absurd (show false = true from hs) Bool.false_ne_true
  | _ => cases y <;> exact absurd (show false = true from hs) Bool.false_ne_true
theorem op_ne : OpR X (compareOp .NotEq) rNe := by
  intro pins s σ H x y v u Q I rx ry h
  obtain ⟨hs, q⟩ := h
  cases x with
  | non =>
    cases rx
    cases y with
    | non => cases ry; exact PySem.EqNone.ne_none_none (fin_bl I q (by simp))
    | bl j => cases ry; exact PySem.EqNone.ne_none_bool (fin_bl I q (by simp))
    | int j => obtain ⟨t', rfl⟩ := ry; exact PySem.EqNone.ne_none_int (fin_bl I q (by simp))
    | str j => obtain ⟨t', rfl⟩ := ry; exact PySem.EqNone.ne_none_str (fin_bl I q (by simp))
    | _ => exact absurd (show false = true from hs) Bool.false_ne_true
  | bl i =>
    cases rx
    cases y with
    | non => cases ry; exact PySem.EqNone.ne_bool_none (fin_bl I q (by simp))
    | bl j => cases ry; exact ne_bool (fin_bl I q (congrArg not dec_bl))
    | str j => obtain ⟨t', rfl⟩ := ry; exact PySem.EqMixed.ne_bool_str (fin_bl I q (by simp))
    | _ => exact absurd (show false = true from hs) Bool.false_ne_true
  | int i =>
    obtain ⟨t, rfl⟩ := rx
    cases y with
    | non => cases ry; exact PySem.EqNone.ne_int_none (fin_bl I q (by simp))
    | int j => obtain ⟨t', rfl⟩ := ry; exact ne_int (fin_bl I q (congrArg not dec_int))
    | str j => obtain ⟨t', rfl⟩ := ry; exact PySem.EqMixed.ne_int_str (fin_bl I q (by simp))
    | _ => exact absurd (show false = true from hs) Bool.false_ne_true
  | str i =>
    obtain ⟨t, rfl⟩ := rx
    cases y with
    | non => cases ry; exact PySem.EqNone.ne_str_none (fin_bl I q (by simp))
    | bl j => cases ry; exact PySem.EqMixed.ne_str_bool (fin_bl I q (by simp))
    | int j => obtain ⟨t', rfl⟩ := ry; exact PySem.EqMixed.ne_str_int (fin_bl I q (by simp))
    | str j => obtain ⟨t', rfl⟩ := ry; exact ne_str (fin_bl I q (congrArg not dec_str))
    | _ => exact absurd (show false = true from hs) Bool.false_ne_true
  | byt i =>
    obtain ⟨t, rfl⟩ := rx
    cases y with
    | byt j => obtain ⟨t', rfl⟩ := ry; exact PySem.W.ne_bytes (fin_bl I q (congrArg not dec_byt))
    | _ => exact absurd (show false = true from hs) Bool.false_ne_true
  | _ => cases y <;> exact absurd (show false = true from hs) Bool.false_ne_true
theorem op_lt : OpR X (compareOp .Lt) (rI0 fun i j => .bl (decide (i < j))) := opB0 fun _ _ _ _ _ _ _ q => lt_int q
theorem op_le : OpR X (compareOp .LtE) (rI0 fun i j => .bl (decide (i ≤ j))) := opB0 fun _ _ _ _ _ _ _ q => le_int q
theorem op_gt : OpR X (compareOp .Gt) (rI0 fun i j => .bl (decide (j < i))) := opB0 fun _ _ _ _ _ _ _ q => gt_int q
theorem nomark (b : Expr) {op : CmpOp} (h : op ≠ .In := by decide) (h2 : op ≠ .NotIn := by decide) : behindInMarks op b = false := by
  have e1 : (op == CmpOp.In) = false := by cases op <;> first | rfl | exact absurd rfl h
  have e2 : (op == CmpOp.NotIn) = false := by cases op <;> first | rfl | exact absurd rfl h2
  cases b <;> simp [behindInMarks, e1, e2]
theorem pe_cmpR {op : CmpOp} {r : R2} (ho : OpR X (compareOp op) r) (ha : PE X a ta) (hb : PE X b tb) (hm : behindInMarks op b = false) : PE X (.Compare a [op] [b] pos) (tOp r ta tb) := by
  intro pins s σ H Q I h
  exact wpAny_Compare1 (binT ha hb I h fun v u s2 x y H2 I2 rx ry q => ho pins s2 σ H2 x y v u Q I2 rx ry q) hm
def tTest (t : TE) : TT := fun σ H Q => t σ H fun x H' => ∃ k, x = .bl k ∧ Q k H'
theorem pt_cmpR {op : CmpOp} {r : R2} (ho : OpR X (compareOp op) r) (ha : PE X a ta) (hb : PE X b tb) (hm : behindInMarks op b = false) : PT X (.Compare a [op] [b] pos) (tTest (tOp r ta tb)) := by
  intro pins s σ H Q I h
  refine wpAny_isTrue_Compare1 (thn (ha pins s σ H _ I h) fun v s1 ⟨x, H1, I1, r1, q1⟩ => thn (hb pins s1 σ H1 _ I1 q1) fun u s2 ⟨y, H2, I2, r2, q2⟩ =>
    thn (ho pins s2 σ H2 x y v u _ I2 r1 r2 q2) fun c s3 ⟨z, H3, I3, r3, k, e, q3⟩ => ?_) hm
  subst e
  cases r3
  exact wpAny_truthy_bool ⟨H3, I3, q3⟩
def tChain (r r' : R2) (ta tb tc : TE) : TE := fun σ H Q => ta σ H fun x H1 => tb σ H1 fun y H2 => r x y H2 fun z H3 => ∃ k, z = .bl k ∧
  (if k = true then tc σ H3 fun w' H4 => r' y w' H4 Q else Q (.bl false) H3)
theorem pe_chain {op op' : CmpOp} {r r' : R2} (ho : OpR X (compareOp op) r) (ho' : OpR X (compareOp op') r') (ha : PE X a ta) (hb : PE X b tb) (hc : PE X c tc)
    (hm : lastMarks [op, op'] [b, c] = false := by with_unfolding_all rfl) : PE X (.Compare a [op, op'] [b, c] pos) (tChain r r' ta tb tc) := by
  intro pins s σ H Q I h
  refine Compare_chain (thn (ha pins s σ H _ I h) fun v s1 ⟨x, H1, I1, r1, q1⟩ => chain_link (thn (hb pins s1 σ H1 _ I1 q1) fun u s2 ⟨y, H2, I2, r2, q2⟩ =>
    thn (ho pins s2 σ H2 x y v u _ I2 r1 r2 q2) fun d s3 ⟨z, H3, I3, r3, k, e, q3⟩ => ?_)) hm
  subst e
  cases r3
  refine wpAny_truthy_bool ?_
  cases k with
  | false => exact ite_ff ⟨.bl false, H3, I3, rfl, q3⟩
  | true => exact ite_tt (chain_last (thn (hc pins s3 σ H3 _ I3 q3) fun w' s4 ⟨z', H4, I4, r4, q4⟩ => ho' pins s4 σ H4 y z' u w' Q I4 r2 r4 q4))
theorem line63 : (sizeLine : Nat) < 2 ^ 63 := by rw [sizeLine_eq]; decide
theorem op_add_str : OpR X (binaryOp .Add) (fun x y H Q => ∃ i j, x = .str i ∧ y = .str j ∧ i.length + j.length ≤ sizeLine ∧ Q (.str (i ++ j)) H) := by
  intro pins s σ H x y v u Q I rx ry h
  obtain ⟨i, j, rfl, rfl, hz, q⟩ := h
  obtain ⟨t, rfl⟩ := rx
  obtain ⟨t', rfl⟩ := ry
  exact with_toks (add_str (fun t' tk ht => ⟨.str (i ++ j), H, I.tok _ ht, ⟨_, rfl⟩, q⟩) hz)
theorem vals1 {x : V} {us : List Value} (r : Vals [x] us) : ∃ u, us = [u] ∧ RelV x u := by
  cases r with
  | cons r1 r2 => cases r2; exact ⟨_, rfl, r1⟩
theorem vals2 {x y : V} {us : List Value} (r : Vals [x, y] us) : ∃ u w', us = [u, w'] ∧ RelV x u ∧ RelV y w' := by
  cases r with
  | cons r1 r2 =>
    cases r2 with
    | cons r3 r4 => cases r4; exact ⟨_, _, rfl, r1, r3⟩
def LenV (K : PySem.W.Frag) (x : V) (H : Hp) (n : Nat) : Prop :=
  match x with
  | .str y => y.length ≤ sizeLine ∧ n = y.length
  | .byt y => y.size ≤ sizeLine ∧ n = y.size
  | .ref p => (∃ xs, SqL K H p xs ∧ n = xs.length) ∨ ∃ xs, SqT K H p xs ∧ n = xs.length
  | _ => False
theorem call_len : CallR X (.builtin "len") (fun xs H Q => ∃ x n, xs = [x] ∧ LenV X.K x H n ∧ Q (.int n) H) := by
  intro pins s σ H xs us Q I r h
  obtain ⟨x, n, rfl, e, q⟩ := h
  obtain ⟨u, rfl, rx⟩ := vals1 r
  have hl := line63
  have hs : sizeLine = 16777216 := sizeLine_eq
  cases x with
  | str y =>
    obtain ⟨t, rfl⟩ := rx
    obtain ⟨hy, e'⟩ : y.length ≤ sizeLine ∧ n = y.length := e
    subst e'
    exact len_str (by omega) ⟨.int _, H, I.tok _, ⟨_, rfl⟩, q⟩
  | byt y =>
    obtain ⟨t, rfl⟩ := rx
    obtain ⟨hy, e'⟩ : y.size ≤ sizeLine ∧ n = y.size := e
    subst e'
    exact PySem.W.len_bytes (by omega) ⟨.int _, H, I.tok _, ⟨_, rfl⟩, q⟩
  | ref p =>
    cases rx
    have e' : (∃ xs, SqL X.K H p xs ∧ n = xs.length) ∨ ∃ xs, SqT X.K H p xs ∧ n = xs.length := e
    rcases e' with ⟨xs, hx, e'⟩ | ⟨xs, hx, e'⟩
    · subst e'
      obtain ⟨its, r', pl, hz⟩ := I.list hx
      have hlen := r'.length
      exact Calls.call_len_list pl.isList (by simp only [List.size_toArray]; omega) ⟨.int xs.length, H, I.tok _, ⟨_, by simp only [List.size_toArray]; rw [hlen]⟩, q⟩
    · subst e'
      obtain ⟨its, r', pl, hz⟩ := I.tuple hx
      have hlen := r'.length
      exact len_tuple pl (by simp only [List.size_toArray]; omega) ⟨.int xs.length, H, I.tok _, ⟨_, by simp only [List.size_toArray]; rw [hlen]⟩, q⟩
  | _ => exact (show False from e).elim
end
end L2
namespace L2
open PySem PySem.Spec PyProof.Rows
structure ObjM (h : Heap) (x dx C : Addr) (mA : Str → Option Value) : Prop where
  obj : h.get? x = some (PySem.W.instObj C dx)
  ns : h.Ns1 dx mA
  ne : dx ≠ x
theorem lookIn_ns {h : Heap} {dx : Addr} {mA : Str → Option Value} (n : h.Ns1 dx mA) : ∃ od, h.get? dx = some od ∧ ∀ name, PySem.W.lookIn name od = some (mA name) := by
  obtain ⟨o, es, ep, ho, hd, hk, _, hm⟩ := n
  refine ⟨o, ho, fun name => ?_⟩
  have e := hm name
  unfold nsFind findBy at e
  rw [← Array.find?_toList] at e
  unfold PySem.W.lookIn
  rw [hd]
  dsimp only
  split
  · rename_i y q
    rw [q] at e
    exact congrArg some e
  · rename_i q
    rw [q] at e
    have a : es.toList.any (·.refKey) = false := by
      rw [List.any_eq_false]
      intro y hy
      obtain ⟨z, t, hkey⟩ := hk y (Array.mem_toList_iff.mp hy)
      simp [DictEntry.refKey, hkey]
    have a' : ¬ es.toList.any (·.refKey) = true := by rw [a]; exact Bool.false_ne_true
    rw [if_neg a']
    exact congrArg some e
theorem ObjM.look {h : Heap} {x dx C : Addr} {mA : Str → Option Value} (I : ObjM h x dx C mA) : ∃ od, PySem.W.InstAt h x (PySem.W.instObj C dx) C (some od) ∧ ∀ name, PySem.W.lookIn name od = some (mA name) :=
  let ⟨od, ho, hl⟩ := lookIn_ns I.ns
  ⟨od, ⟨I.obj, rfl, rfl, ho⟩, hl⟩
section
variable {prog : Program} {w : World} {A : Around} {E : Value → Shared → Prop} {s : Shared} {K : PySem.W.Frag} {x dx C f : Addr} {mA : Str → Option Value} {name : Str} {v : Value}
theorem get_map {expr : Bool} {Q : Value → Shared → Prop} (X : K.In s.heap) (I : ObjM s.heap x dx C mA) (hg : PySem.W.plainGet K C name = true) (hh : PySem.W.hasDictIn K C = true)
    (ha : PySem.W.findIn K (.ref C) name = some none) (hv : mA name = some v) (hv' : PySem.W.handedIn v = true) (h : Q v { s with toks := s.toks + 1 }) :
    wpAny (model prog w) A (getAttr (.ref x) name expr) Q E s := by
  obtain ⟨od, J, hl⟩ := I.look
  exact PySem.W.get_value X J (PySem.W.plainGet_of hg).1 (PySem.W.findObj_own hh ha rfl (by rw [hl, hv])) hv' h
theorem get_meth {pl : Sem Bool} {Q : Value × List Value → Shared → Prop} (X : K.In s.heap) (I : ObjM s.heap x dx C mA) (hg : PySem.W.plainGet K C name = true)
    (hf : PySem.W.findIn K (.ref C) name = some (some (.ref f))) (ht : PySem.W.isFn K (.ref f) = true) (hv : mA name = none) (h : Q (.ref f, [.ref x]) s) :
    wpAny (model prog w) A (getMethod (.ref x) name pl) Q E s := by
  obtain ⟨od, J, hl⟩ := I.look
  exact PySem.W.method_fn X J (PySem.W.plainGet_of hg).1 (PySem.W.plainGet_of hg).2 hf (beq_iff_eq.mp ht) (by show (PySem.W.lookIn name od).map (·.isSome) = some false; rw [hl, hv]; rfl) h
theorem set_map {ns : List Str} {Q : Unit → Shared → Prop} (X : K.In s.heap) (I : ObjM s.heap x dx C mA)
    (hs : PySem.W.findIn K (.ref C) "__setattr__" = some (some (.builtin "object.__setattr__"))) (hp : PySem.W.plainOver K C = true) (ht : PySem.W.takerIn K C name = some none) (hh : PySem.W.hasDictIn K C = true)
    (hw : PySem.Within mA ns) (hsz : ns.length ≤ sizeLine)
    (h : ∀ h', ObjM h' x dx C (fun y => if y = name then some v else mA y) → Heap.SameBut dx s.heap h' → Q () { s with heap := h', toks := s.toks + 2 }) :
    wpAny (model prog w) A (setAttr (.ref x) name v) Q E s := by
  obtain ⟨od, J, hl⟩ := I.look
  refine PySem.W.set_plain X J hs (PySem.W.osa_open (s := { s with toks := s.toks + 1 }) (r := none) X J hp ht fun b => ?_)
  obtain ⟨cd, hc, hd'⟩ := PySem.W.any_some hh
  have hx : s.heap.get? x = some ⟨.ref C, some dx, .plain, #[]⟩ := I.obj
  refine wpAny_bind (wpAny_pure (wpAny_bind (wpAny_bind (wpAny_loadPart hx (wpAny_bind (PySem.W.Looks.here (s := { s with toks := s.toks + 1 }) (PySem.W.looks_clsIn X hc) ?_))))))
  rw [hd']
  refine wpAny_pure (a := some dx) (wpAny_bind (wpAny_pure (wpAny_bind ?_)))
  refine wpAny_nsSet1 (s := { s with toks := s.toks + 1 }) I.ns fun h' hn2 hs2 => ?_
  obtain ⟨oD, esD, epD, hoD, hdD, hcD⟩ := hn2.count (PySem.Within.cons name v hw)
  refine wpAny_bind (wpAny_lookBehind hoD (by rw [hdD]; exact pastItsLine_dict (Nat.le_trans hcD (by rw [List.length_cons]; omega))) ?_)
  exact wpAny_pure (h _ ⟨(hs2.2 _ (Ne.symm I.ne)).trans I.obj, hn2, I.ne⟩ hs2)
theorem make_map {R : Result → Shared → Prop} {vs : List Value} {kw : List (Str × Value)} (X : K.In s.heap) (hm : PySem.W.makesIn K C = true)
    (hi : PySem.W.findIn K (.ref C) "__init__" = some (some (.ref f))) (hf : PySem.W.typeIn K (.ref f) = some (.type "function"))
    (h : codeAny (model prog w) (A.under (.builtin "type.__call__" ⟨.ref C :: vs, kw⟩)) (.call (.ref f) ⟨.ref (s.heap.objs.size + 1) :: vs, kw⟩) (PySem.W.InitBack (s.heap.objs.size + 1) R)
      { s with heap := (s.heap.push PySem.W.emptyDict).push (PySem.W.instObj C s.heap.objs.size) }) :
    codeAny (model prog w) A (.call (.ref C) ⟨vs, kw⟩) R s := by
  obtain ⟨hh, g, d, t, os⟩ := s
  exact PySem.W.make_core (PySem.W.makes_of X hm) (PySem.W.looks_findIn X hi) (fun self => PySem.W.bind_fn X self hf) (.inl rfl) h
end
def putF (f : Str) (v : V) : List (Str × V) → List (Str × V)
  | [] => [(f, v)]
  | (g, x) :: r => if g = f then (g, v) :: r else (g, x) :: putF f v r
theorem lookup_putF (f g : Str) (v : V) : ∀ fs : List (Str × V), (putF f v fs).lookup g = if g = f then some v else fs.lookup g
  | [] => by
    show List.lookup g [(f, v)] = _
    by_cases h : g = f
    · have hb : (g == f) = true := beq_iff_eq.mpr h
      simp only [List.lookup, hb, if_pos h]
    · have hb : (g == f) = false := beq_eq_false_iff_ne.mpr h
      simp only [List.lookup, hb, if_neg h]
  | (k, x) :: r => by
    have ih := lookup_putF f g v r
    rw [show putF f v ((k, x) :: r) = (if k = f then (k, v) :: r else (k, x) :: putF f v r) from rfl]
    by_cases hk : k = f
    · rw [if_pos hk]
      by_cases h : g = k
      · have hb : (g == k) = true := beq_iff_eq.mpr h
        simp only [List.lookup, hb, if_pos (h.trans hk)]
      · have hb : (g == k) = false := beq_eq_false_iff_ne.mpr h
        simp only [List.lookup, hb, if_neg (fun e : g = f => h (e.trans hk.symm))]
    · rw [if_neg hk]
      by_cases h : g = k
      · have hb : (g == k) = true := beq_iff_eq.mpr h
        simp only [List.lookup, hb, if_neg (fun e : g = f => hk (h.symm.trans e))]
      · have hb : (g == k) = false := beq_eq_false_iff_ne.mpr h
        simp only [List.lookup, hb]
        exact ih
theorem keys_putF (f : Str) (v : V) : ∀ fs : List (Str × V), f ∈ (putF f v fs).map (·.1) ∧ ∀ g, g ∈ fs.map (·.1) → g ∈ (putF f v fs).map (·.1)
  | [] => ⟨by simp [putF], fun g h => by simp at h⟩
  | (k, x) :: r => by
    obtain ⟨i1, i2⟩ := keys_putF f v r
    rw [show putF f v ((k, x) :: r) = (if k = f then (k, v) :: r else (k, x) :: putF f v r) from rfl]
    by_cases hk : k = f
    · rw [if_pos hk]
      subst hk
      exact ⟨by simp, fun g h => by simpa using h⟩
    · rw [if_neg hk]
      refine ⟨?_, fun g h => ?_⟩
      · rw [List.map_cons]
        exact List.mem_cons_of_mem _ i1
      · rw [List.map_cons] at h ⊢
        rcases List.mem_cons.mp h with e | e
        · exact List.mem_cons.mpr (.inl e)
        · exact List.mem_cons_of_mem _ (i2 g e)
theorem length_putF (f : Str) (v : V) : ∀ fs : List (Str × V), (putF f v fs).length ≤ fs.length + 1
  | [] => by simp [putF]
  | (k, x) :: r => by
    have ih := length_putF f v r
    rw [show putF f v ((k, x) :: r) = (if k = f then (k, v) :: r else (k, x) :: putF f v r) from rfl]
    by_cases hk : k = f
    · rw [if_pos hk, List.length_cons, List.length_cons]; omega
    · rw [if_neg hk, List.length_cons, List.length_cons]; omega
theorem RelO.some_of {v : V} {o : Option Value} (r : RelO (some v) o) : ∃ u, o = some u ∧ RelV v u := by
  cases o with
  | none => exact (show False from r).elim
  | some u => exact ⟨u, rfl, r⟩
theorem RelO.none_of {o : Option Value} (r : RelO none o) : o = none := by
  cases o with
  | none => rfl
  | some u => exact (show False from r).elim
theorem handed_of {v : V} {u : Value} (r : RelV v u) : PySem.W.handedIn u = true := by
  cases v with
  | non => cases (show u = Value.none from r); rfl
  | bl b => cases (show u = Value.bool b from r); rfl
  | int i => obtain ⟨t, e⟩ := (show ∃ t, u = Value.int i t from r); cases e; rfl
  | str x => obtain ⟨t, e⟩ := (show ∃ t, u = Value.str x t from r); cases e; rfl
  | byt b => obtain ⟨t, e⟩ := (show ∃ t, u = Value.bytes b t from r); cases e; rfl
  | flt b => obtain ⟨t, e⟩ := (show ∃ t, u = Value.float b t from r); cases e; rfl
  | ref a => cases (show u = Value.ref a from r); rfl
  | ty n => cases (show u = Value.type n from r); rfl
section
variable {P : Program} {w : World} {H H' : Hp} {h h' : Heap} {a C dx : Addr} {fs fs' : List (Str × V)}
theorem ins_get (hok : HOk P w H h) (e : H a = some (.ins C dx fs)) : ∃ mA, ObjM h a dx C mA ∧ (∀ f, RelO (fs.lookup f) (mA f)) ∧ PySem.Within mA (fs.map (·.1)) ∧ fs.length ≤ 1000 ∧ H dx = some (.own a) := by
  obtain ⟨d, z, ne, ob, mA, n, r, q⟩ := (show ObjOk P w H h a (.ins C dx fs) from hok a _ e)
  exact ⟨mA, ⟨ob, n, ne⟩, r, q, z, d⟩
end
structure Cls (K : PySem.W.Frag) (C : Addr) : Prop where
  pg : PySem.W.plainGet K C Str.empty = true
  hd : PySem.W.hasDictIn K C = true
  po : PySem.W.plainOver K C = true
  sa : PySem.W.findIn K (.ref C) "__setattr__" = some (some (.builtin "object.__setattr__"))
theorem Cls.get {K : PySem.W.Frag} {C : Addr} (c : Cls K C) (f : Str) : PySem.W.plainGet K C f = true := c.pg
def NoAttr (K : PySem.W.Frag) (C : Addr) (f : Str) : Prop := PySem.W.findIn K (.ref C) f = some none
theorem NoAttr.taker {K : PySem.W.Frag} {C : Addr} {f : Str} (n : NoAttr K C f) : PySem.W.takerIn K C f = some none := by
  unfold PySem.W.takerIn
  rw [show PySem.W.findIn K (.ref C) f = some none from n]
  rfl
structure Con (K : PySem.W.Frag) (C : Addr) (f : Str) (v : V) (u : Value) : Prop where
  at_ : PySem.W.findIn K (.ref C) f = some (some u)
  rel : RelV v u
  get : PySem.W.specialIn K u "__get__" = some none
  cp : PySem.W.copiedNames.contains f = false
structure Meth (K : PySem.W.Frag) (C : Addr) (m : Str) (f : Addr) : Prop where
  at_ : PySem.W.findIn K (.ref C) m = some (some (.ref f))
  fn : PySem.W.isFn K (.ref f) = true
  kp : PySem.W.keepIn K (.ref f) = true
section
variable {X : Cx} {pins : List (Addr × Obj)} {σ : St} {H : Hp} {s : Shared} {a C dx : Addr} {fs : List (Str × V)} {f : Str} {v : V} {A : Around} {E : Value → Shared → Prop}
theorem getattr_ok {b : Bool} {Q : Value → Shared → Prop} (I : Inv X pins σ H s) (e : H a = some (.ins C dx fs)) (c : Cls X.K C) (n : NoAttr X.K C f) (l : fs.lookup f = some v)
    (h : ∀ u s', Inv X pins σ H s' → RelV v u → Q u s') : wpAny (model X.prog X.w) A (getAttr (.ref a) f b) Q E s := by
  obtain ⟨mA, O, r, _, _, _⟩ := ins_get I.hok e
  obtain ⟨u, hu, ru⟩ := RelO.some_of (v := v) (o := mA f) (by rw [← l]; exact r f)
  exact get_map I.kIn O (c.get f) c.hd n hu (handed_of ru) (h u _ (I.tok _) ru)
theorem getmeth_ok {m : Str} {g : Addr} {pl : Sem Bool} {Q : Value × List Value → Shared → Prop} (I : Inv X pins σ H s) (e : H a = some (.ins C dx fs)) (c : Cls X.K C) (k : Meth X.K C m g) (l : fs.lookup m = none)
    (h : Q (.ref g, [.ref a]) s) : wpAny (model X.prog X.w) A (getMethod (.ref a) m pl) Q E s := by
  obtain ⟨mA, O, r, _, _, _⟩ := ins_get I.hok e
  have hn : mA m = none := RelO.none_of (by rw [← l]; exact r m)
  exact get_meth I.kIn O (c.get m) k.at_ k.fn hn h
theorem setattr_ok {y : V} {u : Value} {Q : Unit → Shared → Prop} (I : Inv X pins σ H s) (e : H a = some (.ins C dx fs)) (c : Cls X.K C) (n : NoAttr X.K C f) (hl : fs.length < 1000) (ry : RelV y u)
    (h : ∀ s', Inv X pins σ (upd H a (.ins C dx (putF f y fs))) s' → Q () s') : wpAny (model X.prog X.w) A (setAttr (.ref a) f u) Q E s := by
  obtain ⟨mA, O, r, wi, _, ho⟩ := ins_get I.hok e
  have hz : (fs.map (·.1)).length ≤ sizeLine := by rw [List.length_map, sizeLine_eq]; omega
  refine set_map I.kIn O c.sa c.po n.taker c.hd wi hz fun h' O' sb => h _ ?_
  have hd : ∃ o, h'.get? dx = some o := let ⟨o, _, _, e', _⟩ := O'.ns; ⟨o, e'⟩
  refine I.write (x := a) (e := dx) (by rw [e]; exact True.intro) (.inr ho) (fun b q hb z => (sb.2 b hb).trans z) hd ?_
  refine ⟨by rw [upd_ne O.ne]; exact ho, ?_, O.ne, O'.obj, _, O'.ns, fun g => ?_, fun g hg => ?_⟩
  · have := length_putF f y fs; omega
  · show RelO ((putF f y fs).lookup g) (if g = f then some u else mA g)
    rw [lookup_putF]
    by_cases q : g = f
    · rw [if_pos q, if_pos q]; exact ry
    · rw [if_neg q, if_neg q]; exact r g
  · by_cases q : g = f
    · rw [q]; exact (keys_putF f y fs).1
    · refine (keys_putF f y fs).2 g (wi g fun z => hg ?_)
      show (if g = f then some u else mA g) = none
      rw [if_neg q]; exact z
theorem Inv.made (I : Inv X pins σ H s) : Inv X pins σ (upd (upd H s.heap.objs.size (.own (s.heap.objs.size + 1))) (s.heap.objs.size + 1) (.ins C s.heap.objs.size []))
    { s with heap := (s.heap.push PySem.W.emptyDict).push (PySem.W.instObj C s.heap.objs.size) } := by
  have e1 : (s.heap.push PySem.W.emptyDict).get? s.heap.objs.size = some PySem.W.emptyDict := Heap.get?_push_size s.heap rfl
  have e2 : ((s.heap.push PySem.W.emptyDict).push (PySem.W.instObj C s.heap.objs.size)).get? (s.heap.objs.size + 1) = some (PySem.W.instObj C s.heap.objs.size) := by
    have := Heap.get?_push_size (s.heap.push PySem.W.emptyDict) (o := PySem.W.instObj C s.heap.objs.size) rfl
    rwa [Heap.size_push] at this
  have e3 : (s.heap.push PySem.W.emptyDict).Ns s.heap.objs.size (fun _ => none) := ⟨PySem.W.emptyDict, #[], _, e1, rfl, (fun e he => absurd he (by simp)), fun _ => rfl⟩
  have I1 := I.laid (a := s.heap.objs.size) (o := .own (s.heap.objs.size + 1)) (h' := s.heap.push PySem.W.emptyDict) (t' := s.toks) (fun b u q => Heap.get?_push_of_some _ q) (Nat.le_refl _) ⟨_, e1⟩
  refine I1.laid (a := s.heap.objs.size + 1) (o := .ins C s.heap.objs.size []) (t' := s.toks) (fun b u q => Heap.get?_push_of_some _ q) (Nat.le_of_eq (Heap.size_push _ _)) ?_
  have ne : s.heap.objs.size ≠ s.heap.objs.size + 1 := Nat.ne_of_lt (Nat.lt_succ_self _)
  refine ⟨by rw [upd_ne ne, upd_same], Nat.zero_le _, ne, e2, fun _ => none, (Heap.Ns1.of_empty e3).at fun o q => Heap.get?_push_of_some _ q, fun _ => True.intro, fun y hy => absurd rfl hy⟩
theorem attr_of {prog : Program} {w : World} {env : Env} {e : Expr} {f : Str} {pos : Pos} {s : Shared} {Q : Value → Shared → Prop} (hb : attributeBase e f env (eval e env) = eval e env)
    (h : wpAny (model prog w) A (eval e env) (fun o s₁ => wpAny (model prog w) A (getAttr o f true) Q E s₁) E s) : wpAny (model prog w) A (eval (.Attribute e f pos) env) Q E s :=
  Attribute_any_ h (by rw [arm_eval_Attribute, hb])
end
def tFld (K : PySem.W.Frag) (ta : TE) (f : Str) : TE := fun σ H Q => ta σ H fun x H1 => ∃ a C dx fs v, x = .ref a ∧ H1 a = some (.ins C dx fs) ∧ Cls K C ∧ NoAttr K C f ∧ fs.lookup f = some v ∧ Q v H1
def sFld (K : PySem.W.Frag) (ta tv : TE) (f : Str) : TS := fun D σ H => tv σ H fun y H1 => ta σ H1 fun x H2 => ∃ a C dx fs, x = .ref a ∧ H2 a = some (.ins C dx fs) ∧ Cls K C ∧ NoAttr K C f ∧ fs.length < 1000 ∧
  D.nx σ (upd H2 a (.ins C dx (putF f y fs)))
section
variable {X : Cx} {o e value : Expr} {f : Str} {pos pos' tpos : Pos} {ta tv : TE}
theorem pe_fld (he : PE X e ta) (hb : attributeBase e f X.env (eval e X.env) = eval e X.env) : PE X (.Attribute e f pos) (tFld X.K ta f) := by
  intro pins s σ H Q I h
  refine attr_of hb (thn (he pins s σ H _ I h) fun u s1 ⟨x, H1, I1, rx, a, C, dx, fs, v, ex, ea, c, n, l, q⟩ => ?_)
  subst ex
  obtain rfl : u = Value.ref a := rx
  exact getattr_ok I1 ea c n l fun u' s2 I2 ru => ⟨v, H1, I2, ru, q⟩
theorem ps_fld (ha : PE X o ta) (hv : PE X value tv) (hs : swapsWith value (some (.Attribute o f pos')) pos.line X.env = pure false) : PS X (.Assign [.Attribute o f pos'] value pos) (sFld X.K ta tv f) := by
  intro pins s σ H D I h
  refine plainObj_wpAny_Assign_Attribute (thn (hv pins s σ H _ I h) fun u s1 ⟨y, H1, I1, ry, q⟩ => thn (ha pins s1 σ H1 _ I1 q) fun ov s2 ⟨x, H2, I2, rx, a, C, dx, fs, ex, ea, c, n, l, q2⟩ => ?_) hs
  subst ex
  obtain rfl : ov = Value.ref a := rx
  exact setattr_ok I2 ea c n l ry fun s3 I3 => ⟨σ, _, I3, q2⟩
end
section
variable {X : Cx} {pins : List (Addr × Obj)} {σ : St} {H : Hp} {s : Shared} {A : Around} {E : Value → Shared → Prop} {Q : Value → Shared → Prop} {c : Value} {b : Bool}
inductive TyOf (K : PySem.W.Frag) (H : Hp) : V → Value → Prop where
  | non : TyOf K H .non (.type "NoneType")
  | bl (x : Bool) : TyOf K H (.bl x) (.type "bool")
  | int (i : Int) : TyOf K H (.int i) (.type "int")
  | str (x : Str) : TyOf K H (.str x) (.type "str")
  | flt (x : UInt64) : TyOf K H (.flt x) (.type "float")
  | lst {a : Addr} {xs : List V} (e : H a = some (.lst xs)) : TyOf K H (.ref a) (.type "list")
  | frz {a : Addr} {o : Obj} {xs : List V} (e : H a = some (.frz o (.lst xs))) : TyOf K H (.ref a) (.type "list")
  | tup {a : Addr} {xs : List V} (e : H a = some (.tup xs)) : TyOf K H (.ref a) (.type "tuple")
  | dK {a : Addr} {kvs : List (Key × V)} (e : H a = some (.dK kvs)) : TyOf K H (.ref a) (.type "dict")
  | dT {a : Addr} {kvs : List (List Key × V)} (e : H a = some (.dT kvs)) : TyOf K H (.ref a) (.type "dict")
  | ins {a C dx : Addr} {fs : List (Str × V)} (e : H a = some (.ins C dx fs)) (cl : Cls K C) (ha : PySem.W.findIn K (.ref C) "__class__" = some (some (.builtin "object.__class__")))
      (hn : PySem.W.specialIn K (.builtin "object.__class__") "__get__" = some (some (.builtin "getset_descriptor.__get__"))) (htk : PySem.W.takesIn K (.builtin "object.__class__") = some true)
      (hm : PySem.W.mroIn K C (.type "object") = some true) : TyOf K H (.ref a) (.ref C)
end
end L2
namespace L2
open PySem PySem.Spec PyProof.Rows
structure Room (k : Nat) (A : Around) : Prop where
  hd : A.handled = none
  dp : A.depth + 3 * k + 5 < recursionLimit
  un : A.units + 16 * k + 200 < cLine
theorem Room.mono {j k : Nat} {A : Around} (r : Room k A) (h : j ≤ k) : Room j A := ⟨r.hd, by have := r.dp; omega, by have := r.un; omega⟩
theorem Room.deeper {k : Nat} {A : Around} (r : Room (k + 1) A) (env : Env) : Room k (A.deeper env) :=
  ⟨r.hd, by have := r.dp; show A.depth + 1 + 3 * k + 5 < _; omega, by have := r.un; show A.units + 3 + 16 * k + 200 < _; omega⟩
theorem Room.in1 {k : Nat} {A : Around} (r : Room (k + 1) A) : Room k A.in1 :=
  ⟨r.hd, by have := r.dp; show A.depth + 3 * k + 5 < _; omega, by have := r.un; show A.units + 1 + 16 * k + 200 < _; omega⟩
theorem make_depth {A : Around} {C : Addr} {us : List Value} {kw : List (Str × Value)} : (A.under (.builtin "type.__call__" ⟨.ref C :: us, kw⟩)).depth = A.depth + 1 := by
  first | rfl | simp [Around.under, Code.weight, Code.isCreation, Code.isGuard, Code.isCaller, Code.frames, Code.isFrame, guardIds]
theorem make_units {A : Around} {C : Addr} {us : List Value} {kw : List (Str × Value)} : (A.under (.builtin "type.__call__" ⟨.ref C :: us, kw⟩)).units = A.units + 1 := by
  first | rfl | simp [Around.under, Code.cUnits, Code.frames, Code.isFrame]
theorem Room.make {k : Nat} {A : Around} (r : Room (k + 1) A) (C : Addr) (us : List Value) (kw : List (Str × Value)) : Room k (A.under (.builtin "type.__call__" ⟨.ref C :: us, kw⟩)) :=
  ⟨r.hd, by have := r.dp; rw [make_depth]; omega, by have := r.un; rw [make_units]; omega⟩
theorem Room.depth {k : Nat} {A : Around} (r : Room k A) : A.depth < recursionLimit := by have := r.dp; omega
theorem Room.units {k : Nat} {A : Around} (r : Room k A) : A.units + 64 < cLine := by have := r.un; omega
def tNil : TA := fun _ H Q => Q [] H
def tCons (ta : TE) (tr : TA) : TA := fun σ H Q => ta σ H fun x H1 => tr σ H1 fun xs H2 => Q (x :: xs) H2
section
variable {X : Cx} {e : Expr} {es : List Expr} {te : TE} {t : TA} {pos : Pos}
theorem pa_nil : PA X [] tNil := fun _ _ _ _ H Q I h => Calls.spliced_nil ⟨[], H, I, .nil, h⟩
theorem pa_cons (ha : PE X e te) (hr : PA X es t) (hs : starEach (e :: es) X.env = (false, eval e X.env) :: starEach es X.env := by rfl) : PA X (e :: es) (tCons te t) := by
  intro pos pins s σ H Q I h
  rw [hs]
  show wpAny _ _ (spliced ((false, eval e X.env) :: backTo pos (starEach es X.env))) _ _ s
  refine Calls.spliced_cons (thn (ha pins s σ H _ I h) fun u s1 ⟨x, H1, I1, r1, q1⟩ => ?_)
  exact thn (hr pos pins s1 σ H1 _ I1 q1) fun us s2 ⟨xs, H2, I2, r2, q2⟩ => ⟨x :: xs, H2, I2, .cons r1 r2, q2⟩
def tTup (t : TA) : TE := fun σ H Q => t σ H fun xs H1 => xs.length ≤ sizeLine ∧ ∀ p, H1 p = none → Q (.ref p) (upd H1 p (.tup xs))
def tLst (t : TA) : TE := fun σ H Q => t σ H fun xs H1 => xs.length ≤ sizeLine ∧ ∀ p, H1 p = none → Q (.ref p) (upd H1 p (.lst xs))
theorem pe_tup {x1} (h : PA X es t) : PE X (.Tuple es x1 pos) (tTup t) := by
  intro pins s σ H Q I hq
  refine wpAny_Tuple_spliced (thn (h pos pins s σ H _ I hq) fun us s1 ⟨xs, H1, I1, r, z, q⟩ => ⟨by rw [← r.length]; exact z, ?_⟩)
  have hf : H1 s1.heap.objs.size = none := I1.hok.fresh (Nat.le_refl _)
  refine ⟨.ref s1.heap.objs.size, upd H1 s1.heap.objs.size (.tup xs), I1.laid (t' := s1.toks) (fun b u e => Heap.get?_push_of_some _ e) (Nat.le_refl _) ?_, rfl, q _ hf⟩
  exact ⟨z, us, r, ⟨_, Heap.get?_push_size _ rfl, rfl, _, rfl⟩⟩
theorem pe_lst (h : PA X es t) : PE X (.List es pos) (tLst t) := by
  intro pins s σ H Q I hq
  refine wpAny_List_spliced (thn (h pos pins s σ H _ I hq) fun us s1 ⟨xs, H1, I1, r, z, q⟩ => ⟨by rw [← r.length]; exact z, ?_⟩)
  have hf : H1 s1.heap.objs.size = none := I1.hok.fresh (Nat.le_refl _)
  refine ⟨.ref s1.heap.objs.size, upd H1 s1.heap.objs.size (.lst xs), I1.laid (t' := s1.toks) (fun b u e => Heap.get?_push_of_some _ e) (Nat.le_refl _) ?_, rfl, q _ hf⟩
  exact ⟨z, us, 0, r, Heap.get?_push_size _ rfl⟩
end
abbrev Sp := List V → Hp → VK → XK → Prop
abbrev CXT := List Env → Hp → Shared → XK → Value → Shared → Prop
structure Env0 (P : Program) (w : World) (K : PySem.W.Frag) (mg : Str → Option Value) (base : Heap) (A : Around) (outer : List Env) (s : Shared) (H : Hp) : Prop where
  frames : A.frames = some outer
  mod : Mod K mg base
  bs : ∀ b o, base.get? b = some o → s.heap.get? b = some o ∧ H b = none
  bsz : base.objs.size ≤ s.heap.objs.size
  funs : s.heap.FunFrames base outer
  frf : ∀ b ∈ frs outer, H b = none
  hok : HOk P w H s.heap
  bare : AllBare s.gens
  tok : lowT K ≤ s.toks
def CE (outer : List Env) (P : Program) (w : World) (H : Hp) (s : Shared) (Q : VK) (u : Value) (s' : Shared) : Prop :=
  ∃ v H', s'.os = s.os ∧ AllBare s'.gens ∧ Un (frs outer) [] H H' s.heap s'.heap ∧ HOk P w H' s'.heap ∧ s.toks ≤ s'.toks ∧ RelV v u ∧ Q v H'
def CR (CX : CXT) (outer : List Env) (P : Program) (w : World) (H : Hp) (s : Shared) (Q : VK) (E : XK) (r : Result) (s' : Shared) : Prop :=
  match r with
  | .ok (.ret u) => CE outer P w H s Q u s'
  | .ok _ => False
  | .error e => CX outer H s E e s'
structure FnOk (P : Program) (w : World) (K : PySem.W.Frag) (mg : Str → Option Value) (base : Heap) (CX : CXT) (k : Nat) (f : Addr) (fd : FuncData) (ps : List Str) (sp : Sp) : Prop where
  len : ∀ vs H Q E, sp vs H Q E → vs.length = ps.length
  run : ∀ (A : Around) (outer : List Env) (s : Shared) (H : Hp) (args : Args) (us : List Value) (vs : List V) (Q : VK) (E : XK), Room k A → Env0 P w K mg base A outer s H → BindsTo s fd args (ps.zip us) → Vals vs us → sp vs H Q E →
    codeAny (model P w) A (.call (.ref f) args) (CR CX outer P w H s Q E) s
theorem FnOk.mono {P : Program} {w : World} {K : PySem.W.Frag} {mg : Str → Option Value} {base : Heap} {CX : CXT} {j k : Nat} {f : Addr} {fd : FuncData} {ps : List Str} {sp : Sp} (F : FnOk P w K mg base CX j f fd ps sp) (h : j ≤ k) :
    FnOk P w K mg base CX k f fd ps sp := ⟨F.len, fun A outer s H args us vs Q E hr => F.run A outer s H args us vs Q E (hr.mono h)⟩
theorem Env0.make {P : Program} {w : World} {K : PySem.W.Frag} {mg : Str → Option Value} {base : Heap} {A : Around} {outer : List Env} {s : Shared} {H : Hp} (e : Env0 P w K mg base A outer s H) (C : Addr) (us : List Value) (kw : List (Str × Value)) :
    Env0 P w K mg base (A.under (.builtin "type.__call__" ⟨.ref C :: us, kw⟩)) outer s H := ⟨by first | exact e.frames | (simpa [Around.under, Code.envs, Code.isFrame, pushEnvs] using e.frames), e.mod, e.bs, e.bsz, e.funs, e.frf, e.hok, e.bare, e.tok⟩
theorem Env0.in1 {P : Program} {w : World} {K : PySem.W.Frag} {mg : Str → Option Value} {base : Heap} {A : Around} {outer : List Env} {s : Shared} {H : Hp} (e : Env0 P w K mg base A outer s H) :
    Env0 P w K mg base A.in1 outer s H := ⟨e.frames, e.mod, e.bs, e.bsz, e.funs, e.frf, e.hok, e.bare, e.tok⟩
section
variable {X : Cx} {pins : List (Addr × Obj)} {σ : St} {H : Hp} {s s' : Shared}
theorem Inv.env0 (I : Inv X pins σ H s) : Env0 X.prog X.w X.K X.mg X.base X.A X.stack s H :=
  ⟨I.ok.frames, I.ok.mod, I.bs, Nat.le_trans I.ok.bsz I.sz, I.stack, I.stkFree, I.hok, I.bare, Nat.le_trans I.ok.low I.tk⟩
theorem Inv.after {Q : VK} {u : Value} (I : Inv X pins σ H s) (h : CE X.stack X.prog X.w H s Q u s') : EP X pins σ Q u s' := by
  obtain ⟨v, H', os, bare, un, hok, ht, r, q⟩ := h
  obtain ⟨hh, g, d, t, os'⟩ := s'
  obtain rfl : os' = s.os := os
  exact ⟨v, H', I.call (h' := hh) (g' := g) (d' := d) (t' := t) (ch := []) un hok bare (fun b z => absurd z (by simp)), r, q⟩
end
def tCall (sp : Sp) (dvs : List V) (E : XK) (t : TA) : TE := fun σ H Q => t σ H fun vs H1 => sp (vs ++ dvs) H1 Q E
def tMeth (C : Addr) (m : Str) (sp : Sp) (dvs : List V) (E : XK) (ta : TE) (t : TA) : TE := fun σ H Q => ta σ H fun x H1 => ∃ a dx fs, x = .ref a ∧ H1 a = some (.ins C dx fs) ∧ fs.lookup m = none ∧
  t σ H1 fun vs H2 => sp (x :: (vs ++ dvs)) H2 Q E
def tMake (C : Addr) (sp : Sp) (dvs : List V) (E : XK) (t : TA) : TE := fun σ H Q => t σ H fun vs H1 => ∀ x dx, H1 x = none → H1 dx = none → dx ≠ x →
  sp (.ref x :: (vs ++ dvs)) (upd (upd H1 dx (.own x)) x (.ins C dx [])) (fun v H2 => v = .non ∧ Q (.ref x) H2) E
def Binds (K : PySem.W.Frag) (fd : FuncData) (ps : List Str) (ds : List Value) : Prop :=
  ∀ (s : Shared) (us : List Value), K.In s.heap → (us ++ ds).length = ps.length → BindsTo s fd ⟨us, []⟩ (ps.zip (us ++ ds))
theorem Binds.all {K : PySem.W.Frag} {fd : FuncData} {ps : List Str} (h : ∀ us : List Value, us.length = ps.length → bindArgs fd ⟨us, []⟩ = pure (ps.zip us)) : Binds K fd ps [] := fun s us _ hl => by
  rw [List.append_nil] at hl ⊢
  exact .of_eq (h us hl)
def Passes (CX : CXT) (X : Cx) (E : XK) : Prop := ∀ (pins : List (Addr × Obj)) (σ : St) (H : Hp) (s : Shared) (e : Value) (s' : Shared), Inv X pins σ H s → CX X.stack H s E e s' → X.xe e s'
section
variable {X : Cx} {CX : CXT} {k : Nat} {f C : Addr} {fd : FuncData} {ps : List Str} {sp : Sp} {dvs : List V} {ds : List Value} {E : XK} {x m : Str} {p pos apos : Pos} {e o : Expr} {es : List Expr} {ta : TE} {t : TA}
theorem run_fn {pins : List (Addr × Obj)} {σ : St} {H : Hp} {s : Shared} {Q : VK} {us : List Value} {vs : List V} (F : FnOk X.prog X.w X.K X.mg X.base CX k f fd ps sp) (hr : Room k X.A) (hb : Binds X.K fd ps ds) (hd : Vals dvs ds) (hx : Passes CX X E)
    (I : Inv X pins σ H s) (r : Vals vs us) (h : sp (vs ++ dvs) H Q E) : wpAny (model X.prog X.w) X.A (call (.ref f) us) (EP X pins σ Q) X.xe s := by
  have r2 : Vals (vs ++ dvs) (us ++ ds) := r.append hd
  have hl : (us ++ ds).length = ps.length := by rw [← r2.length]; exact F.len _ _ _ _ h
  refine wpAny_call (codeAny_mono (F.run X.A X.stack s H ⟨us, []⟩ (us ++ ds) (vs ++ dvs) Q E hr I.env0 (hb s us I.kIn hl) r2 h) fun r s' hq => ?_)
  cases r with
  | error e => exact hx pins σ H s e s' I hq
  | ok fl =>
    cases fl with
    | ret u => exact I.after hq
    | next => exact False.elim hq
    | brk => exact False.elim hq
    | cont => exact False.elim hq
theorem pe_call (F : FnOk X.prog X.w X.K X.mg X.base CX k f fd ps sp) (hr : Room k X.A) (hg : Gl X x) (hm : X.mg x = some (.ref f)) (hk : PySem.W.keepIn X.K (.ref f) = true) (hb : Binds X.K fd ps ds) (hd : Vals dvs ds) (hx : Passes CX X E)
    (ha : PA X (e :: es) t) (hdb : (x == ("__debug__" : Str)) = false := by decide) (he : starEach (e :: es) X.env = (false, eval e X.env) :: starEach es X.env := by rfl) (hpl : (backTo pos (starEach es X.env)).any (·.1) = false := by rfl) :
    PE X (.Call (.Name x p) (e :: es) [] pos) (tCall sp dvs E t) := by
  intro pins s σ H Q I h
  refine wpAny_Call_Name_kw (ld_glob I hg hm ?_ hdb)
  refine PySem.W.callWith_K (h₀ := X.base) I.ok.mod.kin hk (thn (ha pos pins s σ H _ I h) fun us s1 ⟨vs, H1, I1, r, q⟩ => ⟨I1.kIn, ?_⟩) he hpl
  exact run_fn F hr hb hd hx I1 r q
theorem pe_meth {pl : Sem Bool} (he : PE X o ta) (c : Cls X.K C) (hm : Meth X.K C m f) (F : FnOk X.prog X.w X.K X.mg X.base CX k f fd ps sp) (hr : Room k X.A) (hb : Binds X.K fd ps ds) (hd : Vals dvs ds) (hx : Passes CX X E) (ha : PA X (e :: es) t)
    (hst : starEach (e :: es) X.env = (false, eval e X.env) :: starEach es X.env := by rfl) (hpl : (backTo pos (starEach es X.env)).any (·.1) = false := by rfl)
    (ht : eval (.Call (.Attribute o m apos) (e :: es) [] pos) X.env = (do
      let ov ← eval o X.env
      standAt apos.atName
      let (f, first) ← holding [ov] (getMethod ov m pl)
      callWith pos f first (backTo pos (starEach (e :: es) X.env)) (backToKw pos (keywordEach [] X.env))) := by rfl) :
    PE X (.Call (.Attribute o m apos) (e :: es) [] pos) (tMeth C m sp dvs E ta t) := by
  intro pins s σ H Q I h
  refine PySem.W.methodCall_KW (pl := pl) (thn (he pins s σ H _ I h) fun u s1 ⟨x, H1, I1, rx, a, dx, fs, ex, ea, l, q⟩ => ?_) ht
  subst ex
  obtain rfl : u = Value.ref a := rx
  refine getmeth_ok I1 ea c hm l ?_
  refine PySem.W.callWith_K (first := [.ref a]) (h₀ := X.base) I.ok.mod.kin hm.kp (thn (ha pos pins s1 σ H1 _ I1 q) fun us s2 ⟨vs, H2, I2, r, q2⟩ => ⟨I2.kIn, ?_⟩) hst hpl
  exact run_fn (us := .ref a :: us) (vs := .ref a :: vs) F hr hb hd hx I2 (.cons rfl r) q2
theorem pe_meth0 {pl : Sem Bool} (he : PE X o ta) (c : Cls X.K C) (hm : Meth X.K C m f) (F : FnOk X.prog X.w X.K X.mg X.base CX k f fd ps sp) (hr : Room k X.A) (hb : Binds X.K fd ps ds) (hd : Vals dvs ds) (hx : Passes CX X E)
    (ht : eval (.Call (.Attribute o m apos) [] [] pos) X.env = (do
      let ov ← eval o X.env
      standAt apos.atName
      let (f, first) ← holding [ov] (getMethod ov m pl)
      callWith pos f first (backTo pos (starEach [] X.env)) (backToKw pos (keywordEach [] X.env))) := by rfl) :
    PE X (.Call (.Attribute o m apos) [] [] pos) (tMeth C m sp dvs E ta tNil) := by
  intro pins s σ H Q I h
  refine PySem.W.methodCall_KW (pl := pl) (thn (he pins s σ H _ I h) fun u s1 ⟨x, H1, I1, rx, a, dx, fs, ex, ea, l, q⟩ => ?_) ht
  subst ex
  obtain rfl : u = Value.ref a := rx
  refine getmeth_ok I1 ea c hm l ?_
  exact PySem.W.callWith_K0 (first := [.ref a]) I1.kIn hm.kp (run_fn (us := [.ref a]) (vs := [.ref a]) F hr hb hd hx I1 (.cons rfl .nil) q)
structure Mk (K : PySem.W.Frag) (C f : Addr) : Prop where
  makes : PySem.W.makesIn K C = true
  init : PySem.W.findIn K (.ref C) "__init__" = some (some (.ref f))
  fn : PySem.W.isFn K (.ref f) = true
  kp : PySem.W.keepIn K (.ref C) = true
theorem run_make {pins : List (Addr × Obj)} {σ : St} {H : Hp} {s : Shared} {Q : VK} {us : List Value} {vs : List V} (M : Mk X.K C f) (F : FnOk X.prog X.w X.K X.mg X.base CX k f fd ps sp) (hr : Room (k + 1) X.A) (hb : Binds X.K fd ps ds) (hd : Vals dvs ds)
    (hx : Passes CX X E) (I : Inv X pins σ H s) (r : Vals vs us)
    (h : ∀ x dx, H x = none → H dx = none → dx ≠ x → sp (.ref x :: (vs ++ dvs)) (upd (upd H dx (.own x)) x (.ins C dx [])) (fun v H2 => v = .non ∧ Q (.ref x) H2) E) :
    wpAny (model X.prog X.w) X.A (call (.ref C) us) (EP X pins σ Q) X.xe s := by
  have hq := h (s.heap.objs.size + 1) s.heap.objs.size (I.hok.fresh (Nat.le_succ _)) (I.hok.fresh (Nat.le_refl _)) (Nat.ne_of_lt (Nat.lt_succ_self _))
  have I2 := Inv.made (C := C) I
  have r2 : Vals (V.ref (s.heap.objs.size + 1) :: (vs ++ dvs)) (Value.ref (s.heap.objs.size + 1) :: (us ++ ds)) := .cons rfl (r.append hd)
  have hl : (Value.ref (s.heap.objs.size + 1) :: us ++ ds).length = ps.length := by
    have e := r2.length
    rw [F.len _ _ _ _ hq] at e
    exact e.symm
  refine wpAny_call (make_map (f := f) I.kIn M.makes M.init (beq_iff_eq.mp M.fn) (codeAny_mono (F.run _ X.stack _ _ ⟨Value.ref (s.heap.objs.size + 1) :: us, []⟩ (Value.ref (s.heap.objs.size + 1) :: (us ++ ds)) _ _ E (hr.make C us [])
    (I2.env0.make C us []) (hb _ (Value.ref (s.heap.objs.size + 1) :: us) I2.kIn hl) r2 hq) fun r s' hq' => ?_))
  cases r with
  | error e => exact hx pins σ _ _ e s' I2 hq'
  | ok fl =>
    cases fl with
    | ret u =>
      obtain ⟨v, H', I3, rv, ev, q3⟩ := I2.after hq'
      subst ev
      exact ⟨rv, ⟨V.ref (s.heap.objs.size + 1), H', I3, rfl, q3⟩⟩
    | next => exact False.elim hq'
    | brk => exact False.elim hq'
    | cont => exact False.elim hq'
theorem pe_make (M : Mk X.K C f) (F : FnOk X.prog X.w X.K X.mg X.base CX k f fd ps sp) (hr : Room (k + 1) X.A) (hg : Gl X x) (hm : X.mg x = some (.ref C)) (hb : Binds X.K fd ps ds) (hd : Vals dvs ds) (hx : Passes CX X E)
    (ha : PA X (e :: es) t) (hdb : (x == ("__debug__" : Str)) = false := by decide) (he : starEach (e :: es) X.env = (false, eval e X.env) :: starEach es X.env := by rfl) (hpl : (backTo pos (starEach es X.env)).any (·.1) = false := by rfl) :
    PE X (.Call (.Name x p) (e :: es) [] pos) (tMake C sp dvs E t) := by
  intro pins s σ H Q I h
  refine wpAny_Call_Name_kw (ld_glob I hg hm ?_ hdb)
  refine PySem.W.callWith_K (h₀ := X.base) I.ok.mod.kin M.kp (thn (ha pos pins s σ H _ I h) fun us s1 ⟨vs, H1, I1, r, q⟩ => ⟨I1.kIn, ?_⟩) he hpl
  exact run_make M F hr hb hd hx I1 r q
end
section
variable {X : Cx} {CX : CXT} {k : Nat} {f C : Addr} {fd : FuncData} {ps ks : List Str} {sp : Sp} {E : XK} {x m : Str} {p pos apos kpos : Pos} {e o : Expr} {es : List Expr} {kws : List Keyword} {te ta : TE} {t tk : TA} {nm : Option Str}
structure KBinds (K : PySem.W.Frag) (fd : FuncData) (ps ks : List Str) (g : List Value → List Value → List Value) (gV : List V → List V → List V) : Prop where
  to : ∀ (s : Shared) (us ws : List Value), K.In s.heap → (g us ws).length = ps.length → BindsTo s fd ⟨us, ks.zip ws⟩ (ps.zip (g us ws))
  rel : ∀ {vs : List V} {us : List Value} {zs : List V} {ws : List Value}, Vals vs us → Vals zs ws → Vals (gV vs zs) (g us ws)
variable {g : List Value → List Value → List Value} {gV : List V → List V → List V}
end
structure FnScope (N P : List Str) (sc : Scope) : Prop where
  kind : sc.kind = .function
  co : sc.isCoroutine = false
  gen : sc.isGenerator = false
  nd : N.Nodup
  pre : N.take P.length = P
  par : ∀ x ∈ P, sc.names.lookup x = some .local ∨ sc.names.lookup x = some .cell
  nofree : ∀ y ∈ sc.names, y.2 ≠ .free
theorem bindL_out {kindOf : Str → Option NameKind} {x : Str} : ∀ {binds : List (Str × Value)} {m : Str → Option Value}, (∀ v, (x, v) ∉ binds) → bindL kindOf binds m x = m x
  | [], _, _ => rfl
  | (n, v) :: r, m, h => by
    unfold bindL
    rw [bindL_out fun w hw => h w (List.mem_cons_of_mem _ hw)]
    split
    · have : x ≠ n := by rintro rfl; exact h v List.mem_cons_self
      simp [this]
    · rfl
theorem bindC_out {kindOf : Str → Option NameKind} {x : Str} : ∀ {binds : List (Str × Value)} {m : Str → Option Value}, (∀ v, (x, v) ∉ binds) → bindC kindOf binds m x = m x
  | [], _, _ => rfl
  | (n, v) :: r, m, h => by
    unfold bindC
    rw [bindC_out fun w hw => h w (List.mem_cons_of_mem _ hw)]
    split
    · rfl
    · have : x ≠ n := by rintro rfl; exact h v List.mem_cons_self
      simp [this]
theorem bindL_get {kindOf : Str → Option NameKind} {x : Str} {v : Value} : ∀ {P : List Str} {vs : List Value} {i : Nat} {m : Str → Option Value}, P.Nodup → P[i]? = some x → vs[i]? = some v → kindOf x = some .local →
    bindL kindOf (P.zip vs) m x = some v
  | [], _, _, _, _, h, _, _ => by simp at h
  | _ :: _, [], _, _, _, _, h, _ => by simp at h
  | p :: P, w :: vs, 0, m, nd, h1, h2, hk => by
    simp at h1 h2; subst h1; subst h2
    show bindL kindOf ((p, w) :: P.zip vs) m p = _
    unfold bindL
    rw [bindL_out fun v hv => (List.nodup_cons.mp nd).1 (List.of_mem_zip hv).1, if_pos hk]
    simp
  | p :: P, w :: vs, i + 1, m, nd, h1, h2, hk => by
    show bindL kindOf ((p, w) :: P.zip vs) m x = _
    unfold bindL
    exact bindL_get (i := i) (List.nodup_cons.mp nd).2 (by simpa using h1) (by simpa using h2) hk
theorem bindC_get {kindOf : Str → Option NameKind} {x : Str} {v : Value} : ∀ {P : List Str} {vs : List Value} {i : Nat} {m : Str → Option Value}, P.Nodup → P[i]? = some x → vs[i]? = some v → kindOf x ≠ some .local →
    bindC kindOf (P.zip vs) m x = some v
  | [], _, _, _, _, h, _, _ => by simp at h
  | _ :: _, [], _, _, _, _, h, _ => by simp at h
  | p :: P, w :: vs, 0, m, nd, h1, h2, hk => by
    simp at h1 h2; subst h1; subst h2
    show bindC kindOf ((p, w) :: P.zip vs) m p = _
    unfold bindC
    rw [bindC_out fun v hv => (List.nodup_cons.mp nd).1 (List.of_mem_zip hv).1, if_neg hk]
    simp
  | p :: P, w :: vs, i + 1, m, nd, h1, h2, hk => by
    show bindC kindOf ((p, w) :: P.zip vs) m x = _
    unfold bindC
    exact bindC_get (i := i) (List.nodup_cons.mp nd).2 (by simpa using h1) (by simpa using h2) hk
def start (N : List Str) (vs : List V) : St := vs.map some ++ List.replicate (N.length - vs.length) none
def cxOf (CX : CXT) (P : Program) (w : World) (K : PySem.W.Frag) (mg : Str → Option Value) (base : Heap) (N : List Str) (qual : Str) (scope : Scope) (f : Addr) (cd : Value) (A : Around) (outer : List Env) (s : Shared) (H : Hp) (E : XK) : Cx where
  prog := P
  w := w
  K := K
  mg := mg
  base := base
  A := A.deeper (envOfC qual scope s.heap.objs.size f cd)
  N := N
  s₀ := s
  H₀ := H
  env := envOfC qual scope s.heap.objs.size f cd
  outer := outer
  stack := envOfC qual scope s.heap.objs.size f cd :: outer
  ex := []
  calm := true
  fn := fun _ => true
  pn := []
  xe := fun e s' => wpAny (model P w) (A.deeper (envOfC qual scope s.heap.objs.size f cd)) (leaving (envOfC qual scope s.heap.objs.size f cd) e) (fun _ s'' => CX outer H s E e s'') (fun e' s'' => CX outer H s E e' s'') s'
theorem cell_has {sc : Scope} {n : Nat} {x : Str} (h : sc.names.lookup x = some .cell) : ∃ c, (cellsFrom n sc.names []).lookup x = some c := by
  have q := PySem.W.cellsFrom_some sc.names n [] (.inl h)
  exact Option.isSome_iff_exists.mp q
theorem inv_start {CX : CXT} {P : Program} {w : World} {K : PySem.W.Frag} {mg : Str → Option Value} {base : Heap} {N ps : List Str} {qual : Str} {scope : Scope} {f : Addr} {cd : Value} {A : Around} {outer : List Env} {s s1 : Shared} {H : Hp} {E : XK} {us : List Value} {vs : List V}
    (S : FnScope N ps scope) (hd : A.handled = none) (e0 : Env0 P w K mg base A outer s H) (hl : vs.length = ps.length) (r : Vals vs us)
    (x : InCallC s s.heap.objs.size (bindL (envOfC qual scope s.heap.objs.size f cd).kindOf (ps.zip us) fun _ => none) (cellsFrom (s.heap.objs.size + 1) scope.names []) (bindC (envOfC qual scope s.heap.objs.size f cd).kindOf (ps.zip us) fun _ => none) s1) (ht : s.toks ≤ s1.toks) :
    Inv (cxOf CX P w K mg base N qual scope f cd A outer s H E) [] (start N vs) H s1 := by
  have hpl : ps.length ≤ N.length := by have := congrArg List.length S.pre; rw [List.length_take] at this; omega
  obtain ⟨h1, tk, rfl, hk⟩ := x.done
  have noA : ∀ b : Addr, b ∉ (cxOf CX P w K mg base N qual scope f cd A outer s H E).ex := fun b z => absurd (show b ∈ ([] : List Addr) from z) (by simp)
  refine ⟨⟨e0.mod, S.kind, rfl, rfl, Nat.le_refl _, fun y z c h1 h2 => ?_, fun y hy => ?_, fun y c _ h => ?_, fun _ => hd, Around.frames_deeper e0.frames, .inr ⟨rfl, rfl⟩, fun b z => absurd z (noA b), e0.bs, e0.bsz, fun b _ _ => noA b, fun b z => absurd z (noA b), e0.funs, e0.frf, e0.tok⟩,
    rfl, e0.bare, Un.kept hk, ⟨_, x.toInCall.ns, fun i y v h1 h2 h3 => ?_⟩, fun y c h => ⟨_, x.cell y c h⟩, e0.hok.fresh (Nat.le_refl _), fun y c h => ?_, fun p hp => absurd (show p ∈ ([] : List (Addr × Obj)) from hp) (by simp), e0.hok.kept hk, ?_, ht⟩
  · exact name_of_addr x.apart (PySem.mem_of_lookup h1) (PySem.mem_of_lookup h2)
  · have hy : scope.names.lookup y = some .cell ∨ scope.names.lookup y = some .free := hy
    rcases hy with hy | hy
    · exact cell_has hy
    · exact absurd rfl (S.nofree _ (PySem.mem_of_lookup hy))
  · exact Nat.le_of_lt (x.above y c (PySem.mem_of_lookup h))
  · have hi : i < vs.length := by
      unfold start at h2
      by_cases hi : i < vs.length
      · exact hi
      · rw [List.getElem?_append_right (by simpa using hi)] at h2
        rw [List.getElem?_replicate] at h2
        split at h2 <;> cases h2
    have ha : vs[i]? = some v := by
      unfold start at h2
      rw [List.getElem?_append_left (by simpa using hi), List.getElem?_map] at h2
      cases e : vs[i]? with
      | none => rw [e] at h2; cases h2
      | some a => rw [e] at h2; cases h2; rfl
    obtain ⟨u, hu, rv⟩ := r.get ha
    have hp : ps[i]? = some y := by
      rw [← S.pre, List.getElem?_take_of_lt (by omega)]; exact h1
    have ndP : ps.Nodup := by rw [← S.pre]; exact S.nd.sublist (List.take_sublist _ _)
    refine ⟨u, rv, ?_⟩
    rcases S.par y (List.mem_of_getElem? hp) with k | k
    · exact .inl ⟨k, bindL_get ndP hp hu k⟩
    · obtain ⟨c, e⟩ := cell_has (n := s.heap.objs.size + 1) k
      refine .inr ⟨.inl k, c, e, ?_⟩
      have q := x.cell y c e
      rw [bindC_get ndP hp hu (by show scope.names.lookup y ≠ _; rw [k]; decide)] at q
      exact q
  · exact e0.hok.fresh (Nat.le_of_lt (x.above y c (PySem.mem_of_lookup h)))
  · unfold start
    show _ = N.length
    rw [List.length_append, List.length_map, List.length_replicate]
    omega
theorem fn_of {CX : CXT} {P : Program} {w : World} {K : PySem.W.Frag} {mg : Str → Option Value} {base : Heap} {k : Nat} {f : Addr} {name qual : Str} {params : Arguments} {body : List Stmt} {scope : Scope} {dV kV doc pm cdv ct oc : Value} {an od : Option Addr}
    {osl : Array (Option Value)} {N ps : List Str} {sp : Sp} (lk : K.lookup f = some ⟨oc, od, .func (PySem.W.fnOf name qual params body scope dV kV doc pm an cdv ct), osl⟩) (hcd : PySem.W.codeIn K cdv qual = true) (S : FnScope N ps scope)
    (len : ∀ vs H Q E, sp vs H Q E → vs.length = ps.length)
    (hbody : ∀ (A : Around) (outer : List Env) (s : Shared) (H : Hp) (vs : List V) (Q : VK) (E : XK), Room k (A.deeper (envOfC qual scope s.heap.objs.size f cdv)) → sp vs H Q E →
      ∃ t, PSs (cxOf CX P w K mg base N qual scope f cdv A outer s H E) body t ∧ t { nx := fun _ H' => Q .non H', rt := Q } (start N vs) H) :
    FnOk P w K mg base CX (k + 1) f (PySem.W.fnOf name qual params body scope dV kV doc pm an cdv ct) ps sp := by
  refine ⟨len, fun A outer s H args us vs Q E hr e0 hb r hsp => ?_⟩
  have hl := len _ _ _ _ hsp
  have KX : K.In s.heap := e0.mod.kin.keeps fun b o e => (e0.bs b o e).1
  have lim : s.heap.NoLimit := e0.mod.nolimit.keeps fun b o e => (e0.bs b o e).1
  have hkind : ∀ y ∈ ps.zip us, scope.names.lookup y.1 = some .local ∨ (scope.names.lookup y.1 = some .cell ∧ ((cellsFrom (s.heap.objs.size + 1) scope.names []).lookup y.1).isSome = true) := fun ⟨n, v⟩ hy => by
    rcases S.par n (List.of_mem_zip hy).1 with q | q
    · exact .inl q
    · exact .inr ⟨q, PySem.W.cellsFrom_some _ _ _ (.inl q)⟩
  refine codeAny_call_function hr.depth (KX _ _ lk) rfl S.co S.gen rfl (PySem.W.codeRec_of KX hcd) (hb _ _ _ _ ?_)
  refine with_toks (wpAny_newFunctionEnv_cells S.kind hkind fun env he s1 x ht1 => ?_)
  subst he
  refine ⟨lim.keeps x.toInCall.keep, codeAny_func ?_⟩
  obtain ⟨t, ht, hq⟩ := hbody A outer s H vs Q E (hr.deeper _) hsp
  have I : Inv (cxOf CX P w K mg base N qual scope f cdv A outer s H E) [] (start N vs) H s1 := inv_start S hr.hd e0 hl r x ht1
  refine wpAny_mono (ht [] s1 (start N vs) H _ I hq) (fun fl s' hs => ?_) fun e s' hs => hs
  have fin : ∀ {σ' : St} {H' : Hp} {v : V} {u : Value}, Inv (cxOf CX P w K mg base N qual scope f cdv A outer s H E) [] σ' H' s' → RelV v u → Q v H' → CE outer P w H s Q u s' :=
    fun {σ' H' v u} J rv q => ⟨v, H', J.os, J.bare, J.base, J.hok, J.tk, rv, q⟩
  cases fl with
  | ret u =>
    obtain ⟨v, σ', H', J, rv, q⟩ := hs
    exact fin J rv q
  | next =>
    obtain ⟨σ', H', J, q⟩ := hs
    exact fin (v := V.non) (u := Value.none) J rfl q
  | brk =>
    obtain ⟨_, _, _, q⟩ := hs
    exact False.elim q
  | cont =>
    obtain ⟨_, _, _, q⟩ := hs
    exact False.elim q
end L2
namespace L2
open PySem PySem.Spec PyProof.Rows
section
variable {X : Cx} {x : Str} {p pos : Pos} {e : Expr} {es : List Expr} {t : TA} {id T : String} {r : List V → Hp → VK → Prop}
def tCB (r : List V → Hp → VK → Prop) (t : TA) : TE := fun σ H Q => t σ H fun vs H1 => r vs H1 Q
theorem pe_callB (hc : CallR X (.builtin id) r) (hg : Gl X x) (hm : X.mg x = none) (hv : bootBuiltins x = some (.builtin id)) (ha : PA X (e :: es) t) (hn : x ≠ "__name__" := by decide) (hdb : (x == ("__debug__" : Str)) = false := by decide)
    (he : starEach (e :: es) X.env = (false, eval e X.env) :: starEach es X.env := by rfl) (hpl : (backTo pos (starEach es X.env)).any (·.1) = false := by rfl) : PE X (.Call (.Name x p) (e :: es) [] pos) (tCB r t) := by
  intro pins s σ H Q I h
  refine wpAny_Call_Name_kw (ld_blt I hg hm hv ?_ hn hdb)
  exact PyProof.Rows.callWith_builtin1 (thn (ha pos pins s σ H _ I h) fun us s1 ⟨vs, H1, I1, r1, q1⟩ => hc pins s1 σ H1 vs us Q I1 r1 q1) he hpl
theorem pe_callTy (hc : CallR X (.type T) r) (hg : Gl X x) (hm : X.mg x = none) (hv : bootBuiltins x = some (.type T)) (ha : PA X (e :: es) t) (hn : x ≠ "__name__" := by decide) (hdb : (x == ("__debug__" : Str)) = false := by decide)
    (he : starEach (e :: es) X.env = (false, eval e X.env) :: starEach es X.env := by rfl) (hpl : (backTo pos (starEach es X.env)).any (·.1) = false := by rfl) : PE X (.Call (.Name x p) (e :: es) [] pos) (tCB r t) := by
  intro pins s σ H Q I h
  refine wpAny_Call_Name_kw (ld_blt I hg hm hv ?_ hn hdb)
  exact PyProof.Rows.callWith_type1 (thn (ha pos pins s σ H _ I h) fun us s1 ⟨vs, H1, I1, r1, q1⟩ => hc pins s1 σ H1 vs us Q I1 r1 q1) he hpl
end
end L2
namespace L2
open PySem PySem.Spec PyProof.Rows
section
variable {κ : Type} [DecidableEq κ]
def valV (kvs : List (κ × V)) (k : κ) : Option V := (kvs.find? fun kv => decide (kv.1 = k)).map (·.2)
def putK (kvs : List (κ × V)) (k : κ) (v : V) : List (κ × V) :=
  if (kvs.any fun kv => decide (kv.1 = k)) = true then kvs.map (fun kv => if kv.1 = k then (kv.1, v) else kv) else kvs ++ [(k, v)]
def dropK (kvs : List (κ × V)) (k : κ) : List (κ × V) := kvs.filter fun kv => decide (kv.1 ≠ k)
theorem valV_pos {p : κ × V} {r : List (κ × V)} {k : κ} (e : p.1 = k) : valV (p :: r) k = some p.2 := by simp [valV, List.find?_cons, e]
theorem valV_neg {p : κ × V} {r : List (κ × V)} {k : κ} (e : ¬ p.1 = k) : valV (p :: r) k = valV r k := by simp [valV, List.find?_cons, e]
theorem valV_any (k : κ) : ∀ kvs : List (κ × V), (kvs.any fun kv => decide (kv.1 = k)) = (valV kvs k).isSome
  | [] => rfl
  | p :: r => by
    rw [List.any_cons]
    by_cases e : p.1 = k
    · simp only [valV_pos e, decide_eq_true e, Bool.true_or, Option.isSome_some]
    · rw [valV_neg e, decide_eq_false e, Bool.false_or]; exact valV_any k r
theorem valV_map (k j : κ) (y : V) : ∀ kvs : List (κ × V), valV (kvs.map fun kv => if kv.1 = k then (kv.1, y) else kv) j = (valV kvs j).map fun x => if j = k then y else x
  | [] => rfl
  | p :: r => by
    have ih := valV_map k j y r
    rw [List.map_cons]
    by_cases h : p.1 = k
    · rw [if_pos h]
      by_cases e : p.1 = j
      · rw [valV_pos (p := (p.1, y)) e, valV_pos e, Option.map_some, if_pos (e.symm.trans h)]
      · rw [valV_neg (p := (p.1, y)) e, valV_neg e, ih]
    · rw [if_neg h]
      by_cases e : p.1 = j
      · rw [valV_pos (p := p) e, valV_pos e, Option.map_some, if_neg (fun z => h (e.trans z))]
      · rw [valV_neg (p := p) e, valV_neg e, ih]
theorem valV_snoc (k j : κ) (y : V) : ∀ kvs : List (κ × V), valV kvs k = none → valV (kvs ++ [(k, y)]) j = if j = k then some y else valV kvs j
  | [], _ => by
    by_cases e : k = j
    · rw [if_pos e.symm]; exact valV_pos (p := (k, y)) e
    · rw [if_neg (fun z => e z.symm)]; exact valV_neg (p := (k, y)) e
  | p :: r, hn => by
    rw [List.cons_append]
    have hk : ¬ p.1 = k := fun z => by rw [valV_pos z] at hn; cases hn
    rw [valV_neg hk] at hn
    have ih := valV_snoc k j y r hn
    by_cases e : p.1 = j
    · rw [valV_pos e, valV_pos e, if_neg (fun z => hk (e.trans z))]
    · rw [valV_neg e, valV_neg e, ih]
theorem valV_put (kvs : List (κ × V)) (k j : κ) (y : V) : valV (putK kvs k y) j = if j = k then some y else valV kvs j := by
  unfold putK
  by_cases a : (kvs.any fun kv => decide (kv.1 = k)) = true
  · rw [if_pos a, valV_map]
    rw [valV_any] at a
    by_cases e : j = k
    · obtain ⟨x, hx⟩ := Option.isSome_iff_exists.mp a
      rw [if_pos e, e, hx, Option.map_some, if_pos rfl]
    · rw [if_neg e]
      cases valV kvs j with
      | none => rfl
      | some x => rw [Option.map_some, if_neg e]
  · rw [if_neg a]
    refine valV_snoc k j y kvs ?_
    rw [valV_any] at a
    cases q : valV kvs k with
    | none => rfl
    | some x => rw [q] at a; exact (a rfl).elim
theorem length_putK (kvs : List (κ × V)) (k : κ) (v : V) : (putK kvs k v).length ≤ kvs.length + 1 := by
  unfold putK
  split
  · rw [List.length_map]; omega
  · rw [List.length_append, List.length_cons, List.length_nil]; omega
theorem putK_new {kvs : List (κ × V)} {k : κ} (v : V) (h : valV kvs k = none) : putK kvs k v = kvs ++ [(k, v)] := by
  unfold putK
  rw [valV_any, h]
  exact if_neg (by decide)
theorem RelO.isSome_eq {o : Option V} {u : Option Value} (r : RelO o u) : o.isSome = u.isSome := by
  cases o with
  | none => cases u with
    | none => rfl
    | some _ => exact (show False from r).elim
  | some _ => cases u with
    | none => exact (show False from r).elim
    | some _ => rfl
theorem RelO.getD {o : Option V} {u : Option Value} {d : V} {d' : Value} (r : RelO o u) (rd : RelV d d') : RelV (o.getD d) (u.getD d') := by
  cases o with
  | none => cases u with
    | none => exact rd
    | some _ => exact (show False from r).elim
  | some _ => cases u with
    | none => exact (show False from r).elim
    | some _ => exact r
theorem KV.val {kvs : List (κ × V)} {vs : List (κ × Value)} (r : KV kvs vs) (k : κ) : RelO (valV kvs k) (valueAt vs k) := by
  unfold KV at r
  induction r with
  | nil => exact True.intro
  | @cons p q ps qs h t ih =>
    obtain ⟨h1, h2⟩ := h
    by_cases e : p.1 = k
    · have e' : q.1 = k := h1.symm.trans e
      have b : valueAt (q :: qs) k = some q.2 := by simp [valueAt, List.find?_cons, e']
      rw [valV_pos e, b]; exact h2
    · have e' : ¬ q.1 = k := fun z => e (h1.trans z)
      have b : valueAt (q :: qs) k = valueAt qs k := by simp [valueAt, List.find?_cons, e']
      rw [valV_neg e, b]; exact ih
theorem KV.any {kvs : List (κ × V)} {vs : List (κ × Value)} (r : KV kvs vs) (k : κ) : (kvs.any fun kv => decide (kv.1 = k)) = vs.any fun kv => decide (kv.1 = k) := by
  unfold KV at r
  induction r with
  | nil => rfl
  | cons h t ih => rw [List.any_cons, List.any_cons, ih, h.1]
theorem KV.repl {kvs : List (κ × V)} {vs : List (κ × Value)} (r : KV kvs vs) (k : κ) {y : V} {u : Value} (ry : RelV y u) :
    KV (kvs.map fun kv => if kv.1 = k then (kv.1, y) else kv) (vs.map fun kv => if kv.1 = k then (kv.1, u) else kv) := by
  unfold KV at r ⊢
  induction r with
  | nil => exact .nil
  | @cons p q ps qs h t ih =>
    rw [List.map_cons, List.map_cons]
    refine .cons ?_ ih
    obtain ⟨h1, h2⟩ := h
    by_cases e : p.1 = k
    · rw [if_pos e, if_pos (h1.symm.trans e)]; exact ⟨h1, ry⟩
    · rw [if_neg e, if_neg (fun z => e (h1.trans z))]; exact ⟨h1, h2⟩
theorem KV.put {kvs : List (κ × V)} {vs : List (κ × Value)} (r : KV kvs vs) (k : κ) {y : V} {u : Value} (ry : RelV y u) : KV (putK kvs k y) (stored vs k u) := by
  unfold putK stored
  rw [r.any k]
  by_cases e : (vs.any fun kv => decide (kv.1 = k)) = true
  · rw [if_pos e, if_pos e]; exact r.repl k ry
  · rw [if_neg e, if_neg e]; exact Paired.snoc r ⟨rfl, ry⟩
theorem KV.drop {kvs : List (κ × V)} {vs : List (κ × Value)} (r : KV kvs vs) (k : κ) : KV (dropK kvs k) (without vs k) := by
  unfold KV at r ⊢
  unfold dropK without
  induction r with
  | nil => exact .nil
  | @cons p q ps qs h t ih =>
    obtain ⟨h1, h2⟩ := h
    rw [List.filter_cons, List.filter_cons]
    by_cases e : p.1 = k
    · have a : ¬ decide (p.1 ≠ k) = true := by simp [e]
      have b : ¬ decide (q.1 ≠ k) = true := by simp [h1.symm.trans e]
      rw [if_neg a, if_neg b]; exact ih
    · have e' : ¬ q.1 = k := fun z => e (h1.trans z)
      have a : decide (p.1 ≠ k) = true := by simp [e]
      have b : decide (q.1 ≠ k) = true := by simp [e']
      rw [if_pos a, if_pos b]; exact .cons ⟨h1, h2⟩ ih
theorem KV.keys {kvs : List (κ × V)} {vs : List (κ × Value)} (r : KV kvs vs) : kvs.map (·.1) = vs.map (·.1) := by
  unfold KV at r
  induction r with
  | nil => rfl
  | cons h t ih => rw [List.map_cons, List.map_cons, ih, h.1]
theorem KV.length {kvs : List (κ × V)} {vs : List (κ × Value)} (r : KV kvs vs) : kvs.length = vs.length := Paired.length r
end
theorem kV_is {P : Program} {w : World} {k : Key} {u : Value} (r : RelV (kV k) u) : (mixKind P w).is k u = true := by
  cases k with
  | inl i => obtain ⟨t, e⟩ := (show ∃ t, u = Value.int i t from r); subst e; exact mixKind_int P w i t
  | inr x => obtain ⟨t, e⟩ := (show ∃ t, u = Value.str x t from r); subst e; exact mixKind_str P w x t
theorem items_are {P : Program} {w : World} : ∀ {ks : List Key} {us : List Value}, Vals (ks.map kV) us → ItemsAre (mixKind P w) ks us
  | [], _, r => by rw [List.map_nil] at r; cases r; exact .nil
  | k :: ks, _, r => by
    rw [List.map_cons] at r
    cases r with
    | cons h t => exact .cons (kV_is h) (items_are t)
abbrev KT (H : Hp) : List (List Key × V) → List (List Key × Addr × Value) → Prop := Paired fun p q => p.1 = q.1 ∧ H q.2.1 = some (.tup (p.1.map kV)) ∧ RelV p.2 q.2.2
theorem KT.val {H : Hp} {kvs : List (List Key × V)} {xs : List (List Key × Addr × Value)} (r : KT H kvs xs) (k : List Key) : RelO (valV kvs k) ((atKey xs k).map (·.2)) := by
  induction r with
  | nil => exact True.intro
  | @cons p q ps qs h t ih =>
    obtain ⟨h1, _, h2⟩ := h
    by_cases e : p.1 = k
    · have e' : q.1 = k := h1.symm.trans e
      have b : atKey (q :: qs) k = some q.2 := by simp [atKey, List.find?_cons, e']
      rw [valV_pos e, b]; exact h2
    · have e' : ¬ q.1 = k := fun z => e (h1.trans z)
      have b : atKey (q :: qs) k = atKey qs k := by simp [atKey, List.find?_cons, e']
      rw [valV_neg e, b]; exact ih
theorem KT.repl {H : Hp} {kvs : List (List Key × V)} {xs : List (List Key × Addr × Value)} (r : KT H kvs xs) (k : List Key) {y : V} {u : Value} (ry : RelV y u) :
    KT H (kvs.map fun kv => if kv.1 = k then (kv.1, y) else kv) (xs.map (putAt k u)) := by
  induction r with
  | nil => exact .nil
  | @cons p q ps qs h t ih =>
    rw [List.map_cons, List.map_cons]
    refine .cons ?_ ih
    obtain ⟨h1, h2, h3⟩ := h
    unfold putAt
    by_cases e : p.1 = k
    · rw [if_pos e, if_pos (h1.symm.trans e)]; exact ⟨h1, h2, ry⟩
    · rw [if_neg e, if_neg (fun z => e (h1.trans z))]; exact ⟨h1, h2, h3⟩
theorem KT.put {H : Hp} {kvs : List (List Key × V)} {xs : List (List Key × Addr × Value)} (r : KT H kvs xs) (k : List Key) {b : Addr} {y : V} {u : Value} (hb : H b = some (.tup (k.map kV))) (ry : RelV y u) :
    KT H (putK kvs k y) (storedH xs k b u) := by
  have e : (kvs.any fun kv => decide (kv.1 = k)) = (atKey xs k).isSome := by
    rw [valV_any, (r.val k).isSome_eq, Option.isSome_map]
  unfold putK storedH
  rw [e]
  by_cases q : (atKey xs k).isSome = true
  · rw [if_pos q, if_pos q]; exact r.repl k ry
  · rw [if_neg q, if_neg q]; exact Paired.snoc r ⟨rfl, hb, ry⟩
theorem KT.keeps {H H' : Hp} {kvs : List (List Key × V)} {xs : List (List Key × Addr × Value)} (r : KT H kvs xs) (ht : ∀ b ys, H b = some (.tup ys) → H' b = some (.tup ys)) : KT H' kvs xs :=
  Paired.mapP r fun _ _ z => ⟨z.1, ht _ _ z.2.1, z.2.2⟩
section
variable {P : Program} {w : World} {H : Hp} {h : Heap} {a : Addr}
theorem rd_of {u : HO} (ok : HOk P w H h) (e : Rd H a u) : ObjOk P w H h a u := e.ok ok
theorem dk_rd {kvs : List (Key × V)} (ok : HOk P w H h) (e : Rd H a (.dK kvs)) : kvs.length ≤ sizeLine ∧ (a == sysModules) = false ∧ ∃ vs, KV kvs vs ∧ h.DictOf (mixKind P w) a vs :=
  show ObjOk P w H h a (.dK kvs) from rd_of ok e
theorem dk_of {kvs : List (Key × V)} (ok : HOk P w H h) (e : H a = some (.dK kvs)) : kvs.length ≤ sizeLine ∧ (a == sysModules) = false ∧ ∃ vs, KV kvs vs ∧ h.DictOf (mixKind P w) a vs := dk_rd ok (.inl e)
theorem key_of {ks : List Key} (ok : HOk P w H h) (e : H a = some (.tup (ks.map kV))) : (tupleKind (mixKind P w)).is h ks a := by
  obtain ⟨_, its, r, o, h1, h2, n, h3⟩ := (show ObjOk P w H h a (.tup (ks.map kV)) from ok a _ e)
  exact ⟨o, its.toArray, n, h1, h2, h3, by simpa using items_are r⟩
theorem dt_rd {kvs : List (List Key × V)} (ok : HOk P w H h) (e : Rd H a (.dT kvs)) : kvs.length ≤ sizeLine ∧ (a == sysModules) = false ∧
    ∃ xs, KT H kvs xs ∧ h.DictOfH (tupleKind (mixKind P w)) a xs := by
  obtain ⟨z, y, xs, r, o, es, ep, h1, h2, h3, h4, h5⟩ := (show ObjOk P w H h a (.dT kvs) from rd_of ok e)
  refine ⟨z, y, xs, r, o, es, ep, h1, h2, h3, h4, fun x hx => ?_, h5⟩
  have all : ∀ {l : List (List Key × V)} {m : List (List Key × Addr × Value)}, KT H l m → ∀ x ∈ m, (tupleKind (mixKind P w)).is h x.1 x.2.1 := by
    intro l m q
    induction q with
    | nil => intro x hx; exact nomatch hx
    | @cons p q ps qs hq t ih =>
      intro x hx
      rcases List.mem_cons.mp hx with e | hx
      · subst e
        exact key_of ok (by rw [← hq.1]; exact hq.2.1)
      · exact ih x hx
  exact all r x hx
theorem dt_of {kvs : List (List Key × V)} (ok : HOk P w H h) (e : H a = some (.dT kvs)) : kvs.length ≤ sizeLine ∧ (a == sysModules) = false ∧
    ∃ xs, KT H kvs xs ∧ h.DictOfH (tupleKind (mixKind P w)) a xs := dt_rd ok (.inl e)
end
def DGet (H : Hp) (a : Addr) (y : V) (r : Option V) : Prop :=
  (∃ kvs k, Rd H a (.dK kvs) ∧ y = kV k ∧ r = valV kvs k) ∨ ∃ kvs k b, Rd H a (.dT kvs) ∧ y = .ref b ∧ H b = some (.tup (k.map kV)) ∧ r = valV kvs k
def DPut (H : Hp) (a : Addr) (y v : V) (H' : Hp) : Prop :=
  (∃ kvs k, H a = some (.dK kvs) ∧ y = kV k ∧ kvs.length < sizeLine ∧ H' = upd H a (.dK (putK kvs k v))) ∨
  ∃ kvs k b, H a = some (.dT kvs) ∧ y = .ref b ∧ H b = some (.tup (k.map kV)) ∧ kvs.length < sizeLine ∧ H' = upd H a (.dT (putK kvs k v))
theorem DGet.k {H : Hp} {a : Addr} {kvs : List (Key × V)} {k : Key} (e : H a = some (.dK kvs)) : DGet H a (kV k) (valV kvs k) := .inl ⟨kvs, k, .inl e, rfl, rfl⟩
theorem DGet.t {H : Hp} {a b : Addr} {kvs : List (List Key × V)} {k : List Key} (e : H a = some (.dT kvs)) (eb : H b = some (.tup (k.map kV))) : DGet H a (.ref b) (valV kvs k) := .inr ⟨kvs, k, b, .inl e, rfl, eb, rfl⟩
theorem DPut.k {H : Hp} {a : Addr} {kvs : List (Key × V)} {k : Key} {v : V} (e : H a = some (.dK kvs)) (hl : kvs.length < sizeLine) : DPut H a (kV k) v (upd H a (.dK (putK kvs k v))) := .inl ⟨kvs, k, e, rfl, hl, rfl⟩
theorem DPut.t {H : Hp} {a b : Addr} {kvs : List (List Key × V)} {k : List Key} {v : V} (e : H a = some (.dT kvs)) (eb : H b = some (.tup (k.map kV))) (hl : kvs.length < sizeLine) :
    DPut H a (.ref b) v (upd H a (.dT (putK kvs k v))) := .inr ⟨kvs, k, b, e, rfl, eb, hl, rfl⟩
section
variable {X : Cx} {pins : List (Addr × Obj)} {σ : St} {H : Hp} {s : Shared} {a : Addr} {y v : V} {u r : Value} {o : Option V} {A : Around} {E : Value → Shared → Prop}
theorem Inv.big (I : Inv X pins σ H s) : sysModules < s.heap.objs.size := by
  have h : mainGlobals < s.heap.objs.size := (I.mod.glob.keeps I.bk).lt
  exact Nat.lt_trans (by decide) h
theorem d_getItem {Q : Value → Shared → Prop} (hu : A.units + 1 < cLine) (I : Inv X pins σ H s) (g : DGet H a y (some v)) (ry : RelV y u) (h : ∀ w' s', Inv X pins σ H s' → RelV v w' → Q w' s') :
    wpAny (model X.prog X.w) A (getItem (.ref a) u) Q E s := by
  rcases g with ⟨kvs, k, e, ey, l⟩ | ⟨kvs, k, b, e, ey, eb, l⟩
  · subst ey
    obtain ⟨z, hd, vs, rel, dd⟩ := dk_rd I.hok e
    obtain ⟨w', hw, rw'⟩ := RelO.some_of (v := v) (o := valueAt vs k) (by rw [l]; exact rel.val k)
    exact wpAny_getItem_of (kV_is ry) dd.mapOf hw (h w' _ (I.tok _) rw')
  · subst ey
    cases (show u = Value.ref b from ry)
    obtain ⟨z, hd, xs, rel, dd⟩ := dt_rd I.hok e
    obtain ⟨w', hw, rw'⟩ := RelO.some_of (v := v) (o := (atKey xs k).map (·.2)) (by rw [l]; exact rel.val k)
    obtain ⟨p, hp, hp2⟩ := Option.map_eq_some_iff.mp hw
    refine wpAny_getItem_heap (tupleKind_room_in1 hu) (key_of I.hok eb) dd hp ?_
    rw [hp2]
    exact h w' _ (I.tok _) rw'
theorem d_notIn {Q : Value → Shared → Prop} (hu : A.units + 1 < cLine) (I : Inv X pins σ H s) (g : DGet H a y o) (ry : RelV y u) (h : ∀ s', Inv X pins σ H s' → Q (.bool (!o.isSome)) s') :
    wpAny (model X.prog X.w) A (compareOp .NotIn u (.ref a)) Q E s := by
  rcases g with ⟨kvs, k, e, ey, l⟩ | ⟨kvs, k, b, e, ey, eb, l⟩
  · subst ey
    obtain ⟨z, hd, vs, rel, dd⟩ := dk_rd I.hok e
    refine wpAny_notIn_of (kV_is ry) hd dd.mapOf ?_
    rw [← (rel.val k).isSome_eq, ← l]
    exact h _ (I.tok _)
  · subst ey
    cases (show u = Value.ref b from ry)
    obtain ⟨z, hd, xs, rel, dd⟩ := dt_rd I.hok e
    refine wpAny_notIn_heap (tupleKind_room_in1 hu) (key_of I.hok eb) hd dd ?_
    have q := (rel.val k).isSome_eq
    rw [Option.isSome_map] at q
    rw [← q, ← l]
    exact h _ (I.tok _)
theorem d_write {h' : Heap} {t' : Nat} {ob : HO} (I : Inv X pins σ H s) (mu : Mut (H a)) (hs : Heap.SameBut a s.heap h') (he : ∃ q, h'.get? a = some q) (new : ObjOk X.prog X.w (upd H a ob) h' a ob) (ht : s.toks ≤ t' := by first | exact Nat.le_refl _ | exact Nat.le_succ _ | assumption | omega) :
    Inv X pins σ (upd H a ob) { s with heap := h', toks := t' } :=
  I.write (x := a) (e := a) mu (.inl rfl) (fun b q hb z => (hs.2 b hb).trans z) he new
theorem dk_new {P : Program} {w : World} {H' : Hp} {h' : Heap} {kvs : List (Key × V)} {vs : List (Key × Value)} (z : kvs.length ≤ sizeLine) (hd : (a == sysModules) = false) (rel : KV kvs vs) (dd : h'.DictOf (mixKind P w) a vs) :
    ObjOk P w H' h' a (.dK kvs) := ⟨z, hd, vs, rel, dd⟩
theorem d_setItem {H' : Hp} {Q : Unit → Shared → Prop} (hu : A.units + 1 < cLine) (I : Inv X pins σ H s) (g : DPut H a y v H') (ry : RelV y u) (rv : RelV v r) (h : ∀ s', Inv X pins σ H' s' → Q () s') :
    wpAny (model X.prog X.w) A (setItem (.ref a) u r) Q E s := by
  rcases g with ⟨kvs, k, e, ey, l, eH⟩ | ⟨kvs, k, b, e, ey, eb, l, eH⟩
  · subst ey eH
    obtain ⟨z, hd, vs, rel, dd⟩ := dk_of I.hok e
    have hz : vs.length ≤ sizeLine := by rw [← rel.length]; exact z
    have hl : (putK kvs k v).length ≤ sizeLine := by have := length_putK kvs k v; omega
    refine wpAny_setItem_pairs (hsz := hz) (kV_is ry) dd fun h' dd' hs => h _ ?_
    have he : ∃ q, h'.get? a = some q := let ⟨q, _, _, hq, _⟩ := dd'; ⟨q, hq⟩
    exact d_write I (by rw [e]; exact True.intro) hs he (dk_new hl hd (rel.put k rv) dd')
  · subst ey eH
    cases (show u = Value.ref b from ry)
    obtain ⟨z, hd, xs, rel, dd⟩ := dt_of I.hok e
    have hz : xs.length ≤ sizeLine := by rw [← Paired.length rel]; exact z
    have hl : (putK kvs k v).length ≤ sizeLine := by have := length_putK kvs k v; omega
    refine wpAny_setItem_heap (hsz := hz) (tupleKind_room_in1 hu) (key_of I.hok eb) dd fun h' dd' hs => h _ ?_
    obtain ⟨q, es, ep, hq, h2, h3, h4, _, h5⟩ := dd'
    refine d_write I (by rw [e]; exact True.intro) hs ⟨q, hq⟩ ⟨hl, hd, _, (rel.put k eb rv).keeps fun c ys ec => ?_, q, es, ep, hq, h2, h3, h4, h5⟩
    rw [upd_ne (ne_of ec e (fun z => nomatch z))]
    exact ec
end
section
variable {X : Cx} {pins : List (Addr × Obj)} {σ : St} {H : Hp} {s : Shared} {a : Addr} {kvs : List (Key × V)} {k : Key} {u : Value} {A : Around} {E : Value → Shared → Prop}
end
def NoSl (i : Expr) : Prop := ∀ ov iv, subscripted i false ov iv = operate [ov, iv] (getItem ov iv)
theorem subD_of {prog : Program} {w : World} {A : Around} {E : Value → Shared → Prop} {s : Shared} {env : Env} {value slice : Expr} {pos : Pos} {T id : String} {Q : Value → Shared → Prop}
    (hl : typeLookup (.type T) "__getitem__" = pure (some (.builtin id))) (hs : NoSl slice)
    (h : wpAny (model prog w) A (eval value env) (fun o s₁ => wpAny (model prog w) A (eval slice env) (fun i s₂ => s₂.TypeIs o T ∧ wpAny (model prog w) A (getItem o i) Q E s₂) E s₁) E s) :
    wpAny (model prog w) A (eval (.Subscript value slice pos) env) Q E s := by
  refine Subscript_ (wpAny_mono h (fun o s₁ h₁ => wpAny_mono h₁ (fun i s₂ h₂ => ?_) fun _ _ x => x) fun _ _ x => x)
  obtain ⟨hT, h₂⟩ := h₂
  unfold subscriptTail
  refine wpAny_bind ?_
  rw [getitemInPython_of_ne hT.not_modules]
  refine wpAny_bind (wpAny_specialOf hT hl ?_)
  have fin : wpAny (model prog w) A (subscripted slice false o i) (fun r s₃ => wpAny (model prog w) A (letTemporaryGo value o r >>= fun _ => pure r) Q E s₃) E s₂ := by
    rw [hs o i]
    exact wpAny_operating (wpAny_mono h₂ (fun r s₃ h₃ => wpAny_bind (wpAny_letTemporaryGo (wpAny_pure h₃))) fun _ _ x => x)
  first
    | exact wpAny_pure (wpAny_bind fin)
    | exact wpAny_bind (wpAny_pure (wpAny_bind fin))
    | exact wpAny_bind fin
theorem dict_typeIs {X : Cx} {pins : List (Addr × Obj)} {σ : St} {H : Hp} {s : Shared} {a : Addr} {y : V} {o : Option V} (I : Inv X pins σ H s) (g : DGet H a y o) : s.TypeIs (.ref a) "dict" := by
  rcases g with ⟨kvs, k, e, _, _⟩ | ⟨kvs, k, b, e, _, _, _⟩
  · obtain ⟨_, _, vs, _, dd⟩ := dk_rd I.hok e
    exact dd.typeIs
  · obtain ⟨_, _, xs, _, dd⟩ := dt_rd I.hok e
    exact dd.typeIs
def tDGet (td ty : TE) : TE := fun σ H Q => td σ H fun x H1 => ty σ H1 fun y H2 => ∃ a v, x = .ref a ∧ DGet H2 a y (some v) ∧ Q v H2
def tDNotIn (ty td : TE) : TE := fun σ H Q => ty σ H fun y H1 => td σ H1 fun x H2 => ∃ a o, x = .ref a ∧ DGet H2 a y o ∧ Q (.bl (!o.isSome)) H2
def sDPut (td ty tv : TE) : TS := fun D σ H => tv σ H fun v H1 => td σ H1 fun x H2 => ty σ H2 fun y H3 => ∃ a H4, x = .ref a ∧ DPut H3 a y v H4 ∧ D.nx σ H4
section
variable {X : Cx} {o i e value : Expr} {pos pos' tpos : Pos} {td ty tv : TE}
theorem pe_dget (hu : X.A.units + 1 < cLine) (ho : PE X o td) (hi : PE X i ty) (hs : NoSl i) : PE X (.Subscript o i pos) (tDGet td ty) := by
  intro pins s σ H Q I h
  refine subD_of PySem.F.slot_dict_getitem.lookup hs (thn (ho pins s σ H _ I h) fun u s1 ⟨x, H1, I1, rx, q1⟩ => thn (hi pins s1 σ H1 _ I1 q1) fun iv s2 ⟨y, H2, I2, ry, a, v, ex, g, q2⟩ => ?_)
  subst ex
  obtain rfl : u = Value.ref a := rx
  exact ⟨dict_typeIs I2 g, d_getItem hu I2 g ry fun w' s3 I3 rw' => ⟨v, H2, I3, rw', q2⟩⟩
theorem pc_dnotin (hu : X.A.units + 1 < cLine) (hi : PE X i ty) (ho : PE X o td) : PC X .NotIn i o (tDNotIn ty td) := by
  intro pins s σ H Q I h
  refine thn (hi pins s σ H _ I h) fun iv s1 ⟨y, H1, I1, ry, q1⟩ => thn (ho pins s1 σ H1 _ I1 q1) fun u s2 ⟨x, H2, I2, rx, a, ov, ex, g, q2⟩ => ?_
  subst ex
  obtain rfl : u = Value.ref a := rx
  exact d_notIn hu I2 g ry fun s3 I3 => ⟨.bl (!ov.isSome), H2, I3, rfl, q2⟩
theorem ps_dput (hu : X.A.units + 1 < cLine) (ho : PE X o td) (hi : PE X i ty) (hv : PE X value tv) (hs : swapsWith value (some (.Subscript o i pos')) pos.line X.env = pure false) :
    PS X (.Assign [.Subscript o i pos'] value pos) (sDPut td ty tv) := by
  intro pins s σ H D I h
  refine wpAny_Assign_Subscript (thn (hv pins s σ H _ I h) fun r s1 ⟨v, H1, I1, rv, q1⟩ => thn (ho pins s1 σ H1 _ I1 q1) fun u s2 ⟨x, H2, I2, rx, q2⟩ => thn (hi pins s2 σ H2 _ I2 q2) fun iv s3 ⟨y, H3, I3, ry, a, H4, ex, g, q3⟩ => ?_) hs
  subst ex
  obtain rfl : u = Value.ref a := rx
  exact d_setItem hu I3 g ry rv fun s4 I4 => ⟨σ, H4, I4, q3⟩
end
theorem dt_empty {P : Program} {w : World} {H : Hp} (h : Heap) (hb : sysModules < h.objs.size) : ObjOk P w H (h.push { cls := .type "dict", data := .dict #[] }) h.objs.size (.dT []) :=
  ⟨Nat.zero_le _, beq_eq_false_iff_ne.mpr (Ne.symm (Nat.ne_of_lt hb)), [], .nil, _, #[], 0, Heap.get?_push_size _ rfl, ⟨rfl, rfl, rfl⟩, rfl, rfl, List.nodup_nil⟩
def tDNewT : TE := fun _ H Q => ∀ p, H p = none → Q (.ref p) (upd H p (.dT []))
section
variable {X : Cx} {pos : Pos}
theorem pe_dnewT : PE X (.Dict [] [] pos) tDNewT := fun pins s σ H Q I h =>
  wpAny_Dict_empty ⟨.ref s.heap.objs.size, _, I.laid (a := s.heap.objs.size) (o := .dT []) (t' := s.toks) (fun _ _ q => Heap.get?_push_of_some _ q) (Nat.le_refl _) (dt_empty s.heap I.big), rfl, h _ (I.hok.fresh (Nat.le_refl _))⟩
end
def mergeK (kvs more : List (Key × V)) : List (Key × V) := more.foldl (fun acc kv => putK acc kv.1 kv.2) kvs
theorem KV.merge : ∀ {more : List (Key × V)} {rs : List (Key × Value)} {kvs : List (Key × V)} {vs : List (Key × Value)}, KV more rs → KV kvs vs → KV (mergeK kvs more) (merged vs rs) := by
  intro more rs kvs vs r
  unfold KV at r
  induction r generalizing kvs vs with
  | nil => intro q; exact q
  | @cons p q ps qs h t ih =>
    intro r0
    have e : KV (putK kvs p.1 p.2) (stored vs q.1 q.2) := by
      have := r0.put p.1 h.2
      rw [← h.1]; exact this
    exact ih e
structure M1 (X : Cx) (o : Expr) (m : Str) (apos : Pos) (e : Expr) (cpos : Pos) : Prop where
  base : attributeBase o m X.env (eval o X.env) = eval o X.env
  few : ((backTo cpos (starEach [e] X.env)).all (fun x => !x.1) && (backToKw cpos (keywordEach [] X.env)).all (fun x => x.1.isSome)
    && decide (([e] : List Expr).length + ([] : List Keyword).length + (if ([] : List Keyword).isEmpty then 0 else 1) < 30)) = true
  line : (apos.endLine == cpos.line) = true
  trees : backTo cpos (starEach [e] X.env) = [(false, eval e X.env)]
structure M2 (X : Cx) (o : Expr) (m : Str) (apos : Pos) (e f : Expr) (cpos : Pos) : Prop where
  base : attributeBase o m X.env (eval o X.env) = eval o X.env
  few : ((backTo cpos (starEach [e, f] X.env)).all (fun x => !x.1) && (backToKw cpos (keywordEach [] X.env)).all (fun x => x.1.isSome)
    && decide (([e, f] : List Expr).length + ([] : List Keyword).length + (if ([] : List Keyword).isEmpty then 0 else 1) < 30)) = true
  line : (apos.endLine == cpos.line) = true
  trees : backTo cpos (starEach [e, f] X.env) = [(false, eval e X.env), (false, eval f X.env)]
section
variable {X : Cx} {pins : List (Addr × Obj)} {σ : St} {H : Hp} {s : Shared} {a : Addr} {y d : V} {u r : Value} {o : Option V} {A : Around} {E : Value → Shared → Prop}
end
section
variable {X : Cx} {o e f : Expr} {apos cpos : Pos} {td ty tx : TE}
end
section
variable {X : Cx} {pins : List (Addr × Obj)} {σ : St} {H : Hp} {s : Shared} {a : Addr} {kvs : List (Key × V)} {A : Around} {E : Value → Shared → Prop}
end
section
variable {X : Cx} {pins : List (Addr × Obj)} {σ : St} {H : Hp} {s : Shared} {a : Addr} {y : V} {u : Value} {A : Around} {E : Value → Shared → Prop}
end
end L2
namespace HT
open PySem PyProof.Rows
section
open PySem.SeqAt
open PySem.AutoSeq1 (wpAny_loadPart')
open PySem.MeetsSeq PySem.MeetsSeq2 PySem.MeetsSeq3
end
section
variable {prog : Program} {w : World} {A : Around} {E : Value → Shared → Prop} {s : Shared}
def sIx (n d : Nat) : Option Int → Nat
  | none => d
  | some v => if v < 0 then (v + (n : Int)).toNat else min v.toNat n
theorem sIx_none (n d : Nat) : sIx n d none = d := rfl
theorem sIx_nat (n d k : Nat) : sIx n d (some (k : Int)) = min k n := by
  show (if (k : Int) < 0 then ((k : Int) + (n : Int)).toNat else min (k : Int).toNat n) = min k n
  rw [if_neg (by omega), Int.toNat_natCast]
end
end HT
namespace L2
open PySem PySem.Spec PyProof.Rows
abbrev TO := St → Hp → (Option Int → Hp → Prop) → Prop
def PO (X : Cx) (e : Option Expr) (t : TO) : Prop :=
  ∀ (pins : List (Addr × Obj)) (s : Shared) (σ : St) (H : Hp) (Q : Option Int → Hp → Prop), Inv X pins σ H s → t σ H Q →
    wpAny (model X.prog X.w) X.A (evalPart e X.env) (fun u s' => ∃ o H', Inv X pins σ H' s' ∧ IsPart u o ∧ Q o H') X.xe s
def tNoPart : TO := fun _ H Q => Q none H
def tPart (t : TE) : TO := fun σ H Q => t σ H fun x H1 => ∃ i, x = .int i ∧ Q (some i) H1
section
variable {X : Cx} {e : Expr} {te : TE} {lo hi : Option Expr} {tl th : TO} {pos p2 : Pos}
theorem po_none : PO X none tNoPart := by
  intro pins s σ H Q I h
  rw [evalPart_none]
  exact wpAny_pure ⟨none, H, I, .none, h⟩
theorem po_some (h : PE X e te) : PO X (some e) (tPart te) := by
  intro pins s σ H Q I hw
  rw [evalPart_some]
  refine thn (h pins s σ H _ I hw) fun u s1 ⟨x, H1, I1, r1, q1⟩ => ?_
  obtain ⟨i, rfl, q⟩ := q1
  obtain ⟨t, rfl⟩ := r1
  exact ⟨some i, H1, I1, .int i t, q⟩
def SlR (X : Cx) (r : V → Option Int → Option Int → Hp → VK → Prop) : Prop :=
  ∀ (pins : List (Addr × Obj)) (s : Shared) (σ : St) (H : Hp) (x : V) (v vl vu : Value) (lo hi : Option Int) (sl : Addr) (Q : VK), Inv X pins σ H s → RelV x v → s.heap.IsSliceOf sl vl vu .none → IsPart vl lo → IsPart vu hi → r x lo hi H Q →
    ∃ T id, typeLookup (.type T) "__getitem__" = pure (some (.builtin id)) ∧ s.TypeIs v T ∧ wpAny (model X.prog X.w) X.A (getItem v (.ref sl)) (EP X pins σ Q) X.xe s
def tSl (r : V → Option Int → Option Int → Hp → VK → Prop) (te : TE) (tl th : TO) : TE := fun σ H Q => te σ H fun x H1 => tl σ H1 fun l H2 => th σ H2 fun u H3 => r x l u H3 Q
theorem pe_slice {r : V → Option Int → Option Int → Hp → VK → Prop} (hr : SlR X r) (he : PE X e te) (hl : PO X lo tl) (hu : PO X hi th) : PE X (.Subscript e (.Slice lo hi none p2) pos) (tSl r te tl th) := by
  intro pins s σ H Q I h
  refine Subscript_ (thn (he pins s σ H _ I h) fun v s1 ⟨x, H1, I1, r1, q1⟩ => ?_)
  refine wpAny_Slice (thn (hl pins s1 σ H1 _ I1 q1) fun vl s2 ⟨l, H2, I2, pl, q2⟩ => thn (hu pins s2 σ H2 _ I2 q2) fun vu s3 ⟨u, H3, I3, pu, q3⟩ => ?_)
  rw [evalPart_none]
  refine wpAny_pure ?_
  have I4 : Inv X pins σ H3 { s3 with heap := s3.heap.push { cls := .type "slice", data := .fields #[vl, vu, .none] } } := I3.kept (t' := s3.toks) fun b ob q => Heap.get?_push_of_some _ q
  obtain ⟨T, id, hT, ht, hg⟩ := hr pins { s3 with heap := s3.heap.push { cls := .type "slice", data := .fields #[vl, vu, .none] } } σ H3 x v vl vu l u s3.heap.objs.size Q I4 r1 (Heap.IsSliceOf.new ..) pl pu q3
  show wpAny (model X.prog X.w) X.A (subscriptTail e (.Slice lo hi none p2) v (.ref s3.heap.objs.size)) (EP X pins σ Q) X.xe { s3 with heap := s3.heap.push { cls := .type "slice", data := .fields #[vl, vu, .none] } }
  exact tail_any (ops := [.ref s3.heap.objs.size, v]) ht hT hg (by with_unfolding_all rfl)
def cutV (xs : List V) (lo hi : Option Int) : List V := (xs.drop (HT.sIx xs.length 0 lo)).take (HT.sIx xs.length xs.length hi - HT.sIx xs.length 0 lo)
theorem cutV_length (xs : List V) (lo hi : Option Int) : (cutV xs lo hi).length ≤ xs.length := by
  unfold cutV
  rw [List.length_take, List.length_drop]
  omega
end
end L2
namespace L2
open PySem PySem.Spec PyProof.Rows
def ixN (n : Nat) (i : Int) : Option Nat := if 0 ≤ i then (if i < n then some i.toNat else none) else if -(n : Int) ≤ i then some (i + n).toNat else none
def atI {α : Type} (xs : List α) (i : Int) : Option α := (ixN xs.length i).bind fun j => xs[j]?
theorem ixN_seq {n : Nat} {i : Int} {j : Nat} (h : ixN n i = some j) : seqIndex? i n = some j ∧ j < n ∧ -(n : Int) ≤ i ∧ i < n := by
  unfold ixN at h
  by_cases h0 : 0 ≤ i
  · rw [if_pos h0] at h
    by_cases h1 : i < n
    · rw [if_pos h1] at h
      have e : i.toNat = j := Option.some.inj h
      exact ⟨by rw [seqIndex_of h0 h1, e], by omega, by omega, h1⟩
    · rw [if_neg h1] at h; cases h
  · rw [if_neg h0] at h
    by_cases h1 : -(n : Int) ≤ i
    · rw [if_pos h1] at h
      have e : (i + n).toNat = j := Option.some.inj h
      exact ⟨by rw [seqIndex_neg (by omega) h1, e], by omega, h1, by omega⟩
    · rw [if_neg h1] at h; cases h
theorem atI_get {α : Type} {xs : List α} {i : Int} {v : α} (h : atI xs i = some v) : ∃ j, seqIndex? i xs.length = some j ∧ xs[j]? = some v ∧ j < xs.length ∧ -(xs.length : Int) ≤ i ∧ i < xs.length := by
  unfold atI at h
  cases e : ixN xs.length i with
  | none => rw [e] at h; cases h
  | some j =>
    rw [e] at h
    obtain ⟨h1, h2, h3, h4⟩ := ixN_seq e
    exact ⟨j, h1, h, h2, h3, h4⟩
theorem atI_nat {α : Type} {xs : List α} {j : Nat} {v : α} (h : xs[j]? = some v) : atI xs (j : Int) = some v := by
  have hj : j < xs.length := (List.getElem?_eq_some_iff.mp h).1
  have e : ixN xs.length (j : Int) = some j := by
    unfold ixN
    rw [if_pos (by omega), if_pos (by omega)]; simp
  unfold atI; rw [e]; exact h
def PlainIx (b : Expr) : Prop := ∀ o i, subscripted b false o i = operate [o, i] (getItem o i)
def IxR (X : Cx) (r : R2) : Prop :=
  ∀ (value slice : Expr) (pins : List (Addr × Obj)) (s : Shared) (σ : St) (H : Hp) (x y : V) (v u : Value) (Q : VK), Inv X pins σ H s → RelV x v → RelV y u → r x y H Q →
    subscripted slice false v u = operate [v, u] (getItem v u) → wpAny (model X.prog X.w) X.A (subscriptTail value slice v u) (EP X pins σ Q) X.xe s
def MtR (X : Cx) (id : String) (r : V → List V → Hp → VK → Prop) : Prop :=
  ∀ (pins : List (Addr × Obj)) (s : Shared) (σ : St) (H : Hp) (x : V) (xs : List V) (v : Value) (us : List Value) (Q : VK), Inv X pins σ H s → RelV x v → Vals xs us → r x xs H Q →
    wpAny (model X.prog X.w) X.A (call (.builtin id) (v :: us)) (EP X pins σ Q) X.xe s
section
variable {X : Cx} {a b : Expr} {ta tb : TE} {pos : Pos}
theorem pe_ix {r : R2} (hr : IxR X r) (ha : PE X a ta) (hb : PE X b tb) (hs : PlainIx b) : PE X (.Subscript a b pos) (tOp r ta tb) := by
  intro pins s σ H Q I h
  exact Subscript_ (binT ha hb I h fun v u s2 x y H2 I2 rx ry q => hr a b pins s2 σ H2 x y v u Q I2 rx ry q (hs _ _))
def rIxL (K : PySem.W.Frag) : R2 := fun x y H Q => ∃ p xs i v, x = .ref p ∧ y = .int i ∧ SqL K H p xs ∧ atI xs i = some v ∧ Q v H
def rIxT (K : PySem.W.Frag) : R2 := fun x y H Q => ∃ p xs i v, x = .ref p ∧ y = .int i ∧ SqT K H p xs ∧ atI xs i = some v ∧ Q v H
def rIxS : R2 := fun x y H Q => ∃ z i c, x = .str z ∧ y = .int i ∧ z.length ≤ sizeLine ∧ atI z.cps.toList i = some c ∧ Q (.str ⟨#[c]⟩) H
theorem ix_list : IxR X (rIxL X.K) := by
  intro value slice pins s σ H x y v u Q I rx ry h hs
  obtain ⟨p, xs, i, z, rfl, rfl, hq, he, q⟩ := h
  cases rx
  obtain ⟨t, rfl⟩ := ry
  obtain ⟨its, r, pl, hz⟩ := I.list hq
  obtain ⟨j, h1, h2, h3, h4, h5⟩ := atI_get he
  obtain ⟨w, ew, rw'⟩ := r.get h2
  have hl := r.length
  have hn := line63
  have fin : EP X pins σ Q w s := ⟨z, H, I, rw', q⟩
  by_cases h0 : 0 ≤ i
  · have hj : i.toNat = j := by
      rw [seqIndex_of h0 h5] at h1
      exact Option.some.inj h1
    exact item_listR pl.isList h0 (by omega) (by rw [hj]; simpa using ew) fin hs
  · have hj : (i + (its.toArray.size : Int)).toNat = j := by
      rw [seqIndex_neg (by omega) h4] at h1
      rw [List.size_toArray, ← hl]
      exact Option.some.inj h1
    exact subscriptTail_builtinR (x := w) pl.isList.typeIs slot_list_getitem.lookup
      (wpAny_getItem_list_neg (Q := fun r s' => r = w ∧ EP X pins σ Q r s') pl.isList (by omega) (by rw [List.size_toArray] <;> omega) (by omega) (by rw [hj]; simpa using ew) ⟨rfl, fin⟩) hs
theorem ix_tup : IxR X (rIxT X.K) := by
  intro value slice pins s σ H x y v u Q I rx ry h hs
  obtain ⟨p, xs, i, z, rfl, rfl, hq, he, q⟩ := h
  cases rx
  obtain ⟨t, rfl⟩ := ry
  obtain ⟨its, r, pl, hz⟩ := I.tuple hq
  obtain ⟨j, h1, h2, h3, h4, h5⟩ := atI_get he
  obtain ⟨w, ew, rw'⟩ := r.get h2
  have hl := r.length
  have hn := line63
  have fin : EP X pins σ Q w s := ⟨z, H, I, rw', q⟩
  exact subscriptTail_builtinR (x := w) pl.typeIs slot_tuple_getitem.lookup
    (getItem_tuple (j := j) (Q := fun r s' => r = w ∧ EP X pins σ Q r s') pl (by omega) (by omega) (by rw [List.size_toArray, ← hl]; exact h1) (by simpa using ew) ⟨rfl, fin⟩) hs
theorem ix_str : IxR X rIxS := by
  intro value slice pins s σ H x y v u Q I rx ry h hs
  obtain ⟨z, i, c, rfl, rfl, hz, he, q⟩ := h
  obtain ⟨t, rfl⟩ := rx
  obtain ⟨t', rfl⟩ := ry
  obtain ⟨j, h1, h2, h3, h4, h5⟩ := atI_get he
  have hl : z.cps.toList.length = z.length := by simp [Str.length]
  rw [hl] at h1 h4 h5
  have hn := line63
  exact tail_any (typeIs_str s z t) slot_str_getitem.lookup (getItem_str (c := c) (by
    have e1 : decide (i < -(2 ^ 63 : Int)) = false := decide_eq_false (by omega)
    have e2 : decide (i ≥ 2 ^ 63) = false := decide_eq_false (by omega)
    rw [e1, e2, Bool.or_false]) (by rw [h1]; simpa using h2) ⟨.str ⟨#[c]⟩, H, I.tok _, ⟨_, rfl⟩, q⟩) hs
theorem mapSeq_set (its : List Value) (n j : Nat) (u : Value) : Obj.mapSeq (·.setIfInBounds j u) { cls := .type "list", data := .seq its.toArray n } = { cls := .type "list", data := .seq (its.set j u).toArray n } := by
  simp [Obj.mapSeq]
theorem Inv.lst {pins : List (Addr × Obj)} {σ : St} {H : Hp} {s : Shared} {p : Addr} {xs : List V} (I : Inv X pins σ H s) (h : H p = some (.lst xs)) :
    ∃ (its : List Value) (n : Nat), Vals xs its ∧ s.heap.get? p = some { cls := .type "list", data := .seq its.toArray n } ∧ xs.length ≤ sizeLine := by
  obtain ⟨z, its, n, r, e⟩ := I.hok p _ h
  exact ⟨its, n, r, e, z⟩
theorem Inv.lstUpd {pins : List (Addr × Obj)} {σ : St} {H : Hp} {s : Shared} {p : Addr} {xs ys : List V} {its its' : List Value} {n n' : Nat} {f : Obj → Obj} (I : Inv X pins σ H s) (h : H p = some (.lst xs))
    (ho : s.heap.get? p = some { cls := .type "list", data := .seq its.toArray n }) (hf : f { cls := .type "list", data := .seq its.toArray n } = { cls := .type "list", data := .seq its'.toArray n' }) (r : Vals ys its') (hz : ys.length ≤ sizeLine) (t : Nat) (ht : s.toks ≤ t := by first | exact Nat.le_refl _ | exact Nat.le_succ _ | assumption | omega) :
    Inv X pins σ (upd H p (.lst ys)) { s with heap := s.heap.update p f, toks := t } := by
  have e : (s.heap.update p f).get? p = some { cls := .type "list", data := .seq its'.toArray n' } := by
    rw [Heap.get?_update_self f ho (by rw [hf] <;> rfl), hf]
  refine I.write (x := p) (e := p) (by rw [h]; trivial) (.inl rfl) (fun b u hb q => (Heap.get?_update_other _ _ (Ne.symm hb)).trans q) ⟨_, e⟩ ?_
  exact ⟨hz, its', n', r, e⟩
def rSetL : V → V → V → Hp → (Hp → Prop) → Prop := fun o i v H Q => ∃ p xs k j, o = .ref p ∧ i = .int k ∧ H p = some (.lst xs) ∧ ixN xs.length k = some j ∧ Q (upd H p (.lst (xs.set j v)))
theorem set_list : PSet X rSetL := by
  intro pins s σ H o i v ov iv u Q I ro ri rv h
  obtain ⟨p, xs, k, j, rfl, rfl, hp, hj, q⟩ := h
  cases ro
  obtain ⟨t, rfl⟩ := ri
  obtain ⟨its, n, r, ho, hz⟩ := I.lst hp
  obtain ⟨h1, h2, h3, h4⟩ := ixN_seq hj
  have hl := r.length
  have hn := line63
  have I' : Inv X pins σ (upd H p (.lst (xs.set j v))) { s with heap := s.heap.update p (Obj.mapSeq (·.setIfInBounds j u)) } :=
    I.lstUpd hp ho (mapSeq_set its n j u) (r.set rv j) (by rw [List.length_set]; exact hz) s.toks
  by_cases h0 : 0 ≤ k
  · have hk : k.toNat = j := by
      rw [seqIndex_of h0 h4] at h1
      exact Option.some.inj h1
    exact PySem.W.ki_setAt ho h0 (by omega) (by rw [List.size_toArray, ← hl]; exact h4) (by rw [hk]; exact ⟨_, I', q⟩)
  · have hk : (k + (its.toArray.size : Int)).toNat = j := by
      rw [seqIndex_neg (by omega) h3] at h1
      rw [List.size_toArray, ← hl]
      exact Option.some.inj h1
    exact PySem.W.ki_setBack ho (by omega) (by rw [List.size_toArray, ← hl]; exact h3) (by omega) (by rw [hk]; exact ⟨_, I', q⟩)
theorem slice_bounds (lo hi : Option Int) (n : Nat) : (sliceBounds lo hi none n).1 = ((HT.sIx n 0 lo : Nat) : Int) ∧ (sliceBounds lo hi none n).2.1 = ((HT.sIx n n hi : Nat) : Int) ∧ (sliceBounds lo hi none n).2.2 = 1 := by
  refine ⟨?_, ?_, rfl⟩
  · cases lo with
    | none => simp [sliceBounds, HT.sIx]
    | some i =>
      simp only [sliceBounds, HT.sIx, Option.getD_none, show (1 : Int) > 0 by decide, if_true]
      by_cases h : i < 0
      · simp only [h, if_true] <;> omega
      · simp only [h, if_false] <;> omega
  · cases hi with
    | none => simp [sliceBounds, HT.sIx]
    | some i =>
      simp only [sliceBounds, HT.sIx, Option.getD_none, show (1 : Int) > 0 by decide, if_true]
      by_cases h : i < 0
      · simp only [h, if_true] <;> omega
      · simp only [h, if_false] <;> omega
theorem slicePick_cut (its : List Value) (lo hi : Option Int) : slicePick its.toArray lo hi none = ((its.drop (HT.sIx its.length 0 lo)).take (HT.sIx its.length its.length hi - HT.sIx its.length 0 lo)).toArray := by
  obtain ⟨h1, h2, h3⟩ := slice_bounds lo hi its.toArray.size
  unfold slicePick
  rw [h1, h2, h3]
  simp only [sliceRange_one, pick_run, List.size_toArray] <;> rfl
def rSlL (K : PySem.W.Frag) : V → Option Int → Option Int → Hp → VK → Prop := fun x lo hi H Q => ∃ a xs, x = .ref a ∧ SqL K H a xs ∧ ∀ p, H p = none → Q (.ref p) (upd H p (.lst (cutV xs lo hi)))
theorem sl_list : SlR X (rSlL X.K) := by
  intro pins s σ H x v vl vu lo hi sl Q I rx hs pl pu h
  obtain ⟨a, xs, rfl, hx, q⟩ := h
  cases rx
  obtain ⟨its, r, ht, hz⟩ := I.list hx
  have hlen := r.length
  refine ⟨"list", _, slot_list_getitem.lookup, ht.isList.typeIs, ?_⟩
  refine wpAny_getItem_list_slice ht.isList hs pl pu .none (by simp) ?_ (by rw [List.size_toArray] <;> omega)
  rw [slicePick_cut, ← hlen]
  refine ⟨.ref s.heap.objs.size, _, I.laid (t' := s.toks) (o := .lst (cutV xs lo hi)) (fun b ob q => Heap.get?_push_of_some _ q) (Nat.le_refl _) ?_, rfl, q _ (I.hok.fresh (Nat.le_refl _))⟩
  exact ⟨Nat.le_trans (cutV_length xs lo hi) hz, _, 0, (r.drop (HT.sIx xs.length 0 lo)).take (HT.sIx xs.length xs.length hi - HT.sIx xs.length 0 lo), Heap.get?_push_size _ rfl⟩
def flatV : V → Bool
  | .non => true
  | .bl _ => true
  | .int _ => true
  | .str _ => true
  | _ => false
def eqV : V → V → Bool
  | .non, .non => true
  | .bl a, .bl b => a == b
  | .bl a, .int b => (if a then 1 else 0) == b
  | .int a, .bl b => a == (if b then 1 else 0)
  | .int a, .int b => a == b
  | .str a, .str b => a == b
  | _, _ => false
theorem eqAt_V {A : Around} {s : Shared} {y x : V} {u v : Value} (ry : RelV y u) (rx : RelV x v) (fy : flatV y = true) (fx : flatV x = true) : SeqAt.EqAt A s u v (eqV y x) := by
  cases y with
  | non =>
    cases ry
    cases x with
    | non => cases rx; exact SeqAt.EqAt.same _
    | bl b => cases rx; exact SeqAt.EqAt.none_bool b
    | int b => obtain ⟨t, rfl⟩ := rx; exact SeqAt.EqAt.none_int b t
    | str b => obtain ⟨t, rfl⟩ := rx; exact SeqAt.EqAt.none_str b t
    | _ => exact absurd (show false = true from fx) Bool.false_ne_true
  | bl a =>
    cases ry
    cases x with
    | non => cases rx; exact SeqAt.EqAt.bool_none a
    | bl b => cases rx; exact SeqAt.EqAt.bool_bool a b
    | int b => obtain ⟨t, rfl⟩ := rx; exact SeqAt.EqAt.bool_int a b t
    | str b => obtain ⟨t, rfl⟩ := rx; exact SeqAt.EqAt.bool_str a b t
    | _ => exact absurd (show false = true from fx) Bool.false_ne_true
  | int a =>
    obtain ⟨t', rfl⟩ := ry
    cases x with
    | non => cases rx; exact SeqAt.EqAt.int_none a t'
    | bl b => cases rx; exact SeqAt.EqAt.int_bool a t' b
    | int b => obtain ⟨t, rfl⟩ := rx; exact SeqAt.EqAt.int_int a t' b t
    | str b => obtain ⟨t, rfl⟩ := rx; exact SeqAt.EqAt.int_str a t' b t
    | _ => exact absurd (show false = true from fx) Bool.false_ne_true
  | str a =>
    obtain ⟨t', rfl⟩ := ry
    cases x with
    | non => cases rx; exact SeqAt.EqAt.str_none a t'
    | bl b => cases rx; exact SeqAt.EqAt.str_bool a t' b
    | int b => obtain ⟨t, rfl⟩ := rx; exact SeqAt.EqAt.str_int a t' b t
    | str b => obtain ⟨t, rfl⟩ := rx; exact SeqAt.EqAt.str_str a t' b t
    | _ => exact absurd (show false = true from fx) Bool.false_ne_true
  | _ => exact absurd (show false = true from fy) Bool.false_ne_true
def eqU (x : V) (u : Value) : Bool := match u with
  | .none => eqV .non x
  | .bool b => eqV (.bl b) x
  | .int i _ => eqV (.int i) x
  | .str z _ => eqV (.str z) x
  | _ => false
theorem eqU_of {x y : V} {u : Value} (r : RelV y u) (f : flatV y = true) : eqU x u = eqV y x := by
  cases y with
  | non => cases r; rfl
  | bl b => cases r; rfl
  | int i => obtain ⟨t, rfl⟩ := r; rfl
  | str z => obtain ⟨t, rfl⟩ := r; rfl
  | _ => exact absurd (show false = true from f) Bool.false_ne_true
theorem any_eqU {x : V} : ∀ {xs : List V} {us : List Value}, Vals xs us → xs.all flatV = true → us.any (eqU x) = xs.any fun y => eqV y x
  | _, _, .nil, _ => rfl
  | y :: xs, u :: us, .cons r t, f => by
    rw [List.all_cons, Bool.and_eq_true] at f
    rw [List.any_cons, List.any_cons, eqU_of r f.1, any_eqU t f.2]
theorem mem_eqAt {A : Around} {s : Shared} {x : V} {v : Value} (rx : RelV x v) (fx : flatV x = true) : ∀ {xs : List V} {us : List Value}, Vals xs us → xs.all flatV = true → ∀ u ∈ us, SeqAt.EqAt A s u v (eqU x u)
  | _, _, .nil, _ => fun u hu => by cases hu
  | y :: xs, u :: us, .cons r t, f => fun u' hu => by
    rw [List.all_cons, Bool.and_eq_true] at f
    rcases List.mem_cons.mp hu with rfl | hu
    · rw [eqU_of r f.1]; exact eqAt_V r rx f.1 fx
    · exact mem_eqAt rx fx t f.2 u' hu
def inV (x : V) (xs : List V) : Bool := xs.any fun y => eqV y x
def rIn (K : PySem.W.Frag) (neg : Bool) : R2 := fun x y H Q => ∃ p xs, y = .ref p ∧ (SqL K H p xs ∨ SqT K H p xs) ∧ flatV x = true ∧ xs.all flatV = true ∧ Q (.bl (if neg then !inV x xs else inV x xs)) H
theorem op_notIn_seq : OpR X (compareOp .NotIn) (rIn X.K true) := by
  intro pins s σ H x y v u Q I rx ry h
  obtain ⟨p, xs, rfl, hq, fx, fs, q⟩ := h
  cases ry
  rcases hq with hq | hq
  · obtain ⟨its, r, pl, hz⟩ := I.list hq
    refine SeqAt.notIn_listAt (eqU x) pl.isList (fun w hw => mem_eqAt rx fx r fs w (by simpa using hw)) ⟨.bl _, H, I, rfl, ?_⟩
    rw [show its.toArray.any (eqU x) = its.any (eqU x) by simp, any_eqU r fs]
    exact q
  · obtain ⟨its, r, pl, hz⟩ := I.tuple hq
    refine SeqAt.notIn_tupleAt (eqU x) pl (fun w hw => mem_eqAt rx fx r fs w (by simpa using hw)) ⟨.bl _, H, I, rfl, ?_⟩
    rw [show its.toArray.any (eqU x) = its.any (eqU x) by simp, any_eqU r fs]
    exact q
theorem call_len_seq : CallR X (.builtin "len") (fun xs H Q => ∃ p ys, xs = [.ref p] ∧ (SqL X.K H p ys ∨ SqT X.K H p ys) ∧ Q (.int ys.length) H) := by
  intro pins s σ H xs us Q I r h
  obtain ⟨p, ys, rfl, hq, q⟩ := h
  obtain ⟨u, rfl, rx⟩ := vals1 r
  cases rx
  have hn := line63
  rcases hq with hq | hq
  · obtain ⟨its, r', pl, hz⟩ := I.list hq
    have hlen := r'.length
    exact Calls.call_len_list pl.isList (by simp only [List.size_toArray] <;> omega) ⟨.int ys.length, H, I.tok _, ⟨s.toks + 1, by rw [List.size_toArray, hlen]⟩, q⟩
  · obtain ⟨its, r', pl, hz⟩ := I.tuple hq
    have hlen := r'.length
    exact len_tuple pl (by simp only [List.size_toArray] <;> omega) ⟨.int ys.length, H, I.tok _, ⟨s.toks + 1, by rw [List.size_toArray, hlen]⟩, q⟩
def tyV (K : PySem.W.Frag) (T : String) (x : V) (H : Hp) : Prop := match x with
  | .str _ => T = "str"
  | .int _ => T = "int"
  | .ref p => (T = "list" ∧ ∃ xs, SqL K H p xs) ∨ (T = "tuple" ∧ ∃ o, K.lookup p = some o ∧ o.cls = .type "tuple" ∧ o.dict = none) ∨
      (T = "dict" ∧ ((∃ kvs, H p = some (.dK kvs)) ∨ ∃ kvs, H p = some (.dT kvs))) ∨ (T = "set" ∧ ∃ S n, H p = some (.set S n))
  | _ => False
theorem tyV_is {pins : List (Addr × Obj)} {σ : St} {H : Hp} {s : Shared} {T : String} {x : V} {v : Value} (I : Inv X pins σ H s) (r : RelV x v) (ty : tyV X.K T x H) :
    s.TypeIs v T ∧ ∀ a, v = .ref a → ∃ ob, s.heap.get? a = some ob ∧ ob.dict = none := by
  cases x with
  | str z =>
    obtain ⟨t, rfl⟩ := r
    cases (show T = "str" from ty)
    exact ⟨typeIs_str s z t, fun _ e => nomatch e⟩
  | int i =>
    obtain ⟨t, rfl⟩ := r
    cases (show T = "int" from ty)
    exact ⟨typeIs_int s i t, fun _ e => nomatch e⟩
  | ref p =>
    cases r
    rcases ty with ⟨rfl, xs, hq⟩ | ⟨rfl, o, hk, hc, hd⟩ | ⟨rfl, hk⟩ | ⟨rfl, S, n, hk⟩
    · obtain ⟨its, _, pl, _⟩ := I.list hq
      refine ⟨pl.isList.typeIs, fun a e => ?_⟩
      cases e
      obtain ⟨o, n, e, c, hd, _⟩ := pl
      exact ⟨o, e, hd⟩
    · refine ⟨⟨o, I.kIn p o hk, hc⟩, fun a e => ?_⟩
      cases e
      exact ⟨o, I.kIn _ o hk, hd⟩
    · have z : ∃ o, s.heap.get? p = some o ∧ o.ExactDict := by
        rcases hk with ⟨kvs, hk⟩ | ⟨kvs, hk⟩
        · obtain ⟨_, _, _, _, o, _, _, e, ex, _⟩ := I.hok p _ hk
          exact ⟨o, e, ex⟩
        · obtain ⟨_, _, _, _, o, _, _, e, ex, _⟩ := I.hok p _ hk
          exact ⟨o, e, ex⟩
      obtain ⟨o, e, ex⟩ := z
      refine ⟨⟨o, e, ex.1⟩, fun a e2 => ?_⟩
      cases e2
      exact ⟨o, e, ex.2.1⟩
    · obtain ⟨o, _, _, _, e, ex, _⟩ := I.hok p _ hk
      refine ⟨⟨o, e, ex.1⟩, fun a e2 => ?_⟩
      cases e2
      exact ⟨o, e, ex.2.1⟩
  | _ => exact False.elim ty
def tBM (K : PySem.W.Frag) (T : String) (r : V → List V → Hp → VK → Prop) (to : TE) (t : TA) : TE := fun σ H Q => to σ H fun x H1 => tyV K T x H1 ∧ t σ H1 fun xs H2 => r x xs H2 Q
variable {o e : Expr} {es : List Expr} {to : TE} {t : TA} {name : Str} {apos cpos : Pos} {T id : String} {r : V → List V → Hp → VK → Prop}
theorem pe_bm (pa : PlainAttrs T) (slot : Slot T name id) (hty : typeOf (.builtin id) = pure (.type "method_descriptor")) (hm : MtR X id r) (ho : PE X o to) (ha : PA X (e :: es) t)
    (hbase : attributeBase o name X.env (eval o X.env) = eval o X.env := by rfl)
    (hfew : ((backTo cpos (starEach (e :: es) X.env)).all (fun x => !x.1) && (backToKw cpos (keywordEach [] X.env)).all (fun x => x.1.isSome)
      && decide ((e :: es).length + ([] : List Keyword).length + (if ([] : List Keyword).isEmpty then 0 else 1) < 30)) = true := by rfl)
    (hline : (apos.endLine == cpos.line) = true := by rfl) (hs : starEach (e :: es) X.env = (false, eval e X.env) :: starEach es X.env := by rfl) (hplain : (backTo cpos (starEach es X.env)).any (·.1) = false := by rfl) :
    PE X (.Call (.Attribute o name apos) (e :: es) [] cpos) (tBM X.K T r to t) := by
  intro pins s σ H Q I h
  refine wpAny_Call_method_late hbase hfew hline rfl (thn (ho pins s σ H _ I h) fun v s1 ⟨x, H1, I1, r1, ty, q1⟩ => ?_)
  obtain ⟨h1, h2⟩ := tyV_is I1 r1 ty
  refine ⟨T, id, pa, slot, hty, h1, h2, ?_⟩
  have hA := ha cpos pins s1 σ H1 _ I1 q1
  rw [hs] at hA ⊢
  refine Calls.callWith_builtin (by show (false || (backTo cpos (starEach es X.env)).any (·.1)) = false; rw [hplain] <;> rfl) (Calls.evalArgs_plain ?_)
  exact thn hA fun us s2 ⟨vs, H2, I2, r2, q2⟩ => hm pins s2 σ H2 x vs v us Q I2 r1 r2 q2
end
end L2
namespace L2
open PySem PySem.Spec PyProof.Rows
def MtM (X : Cx) (id : String) (r : V → List V → Hp → VK → Prop) : Prop :=
  ∀ (pins : List (Addr × Obj)) (s : Shared) (σ : St) (H : Hp) (x : V) (xs : List V) (v : Value) (us : List Value) (Q : VK), Inv X pins σ H s → RelV x v → Vals xs us → r x xs H Q →
    wpAny (model X.prog X.w) X.A (call (.builtin id) (v :: us)) (EP X pins σ Q) X.xe s
theorem Vals.one : ∀ {x : V} {us : List Value}, Vals [x] us → ∃ u, us = [u] ∧ RelV x u
  | _, _, .cons r .nil => ⟨_, rfl, r⟩
theorem Vals.two : ∀ {x y : V} {us : List Value}, Vals [x, y] us → ∃ u v, us = [u, v] ∧ RelV x u ∧ RelV y v
  | _, _, _, .cons r (.cons q .nil) => ⟨_, _, rfl, r, q⟩
theorem Vals.zero : ∀ {us : List Value}, Vals [] us → us = []
  | _, .nil => rfl
section
variable {X : Cx} {pins : List (Addr × Obj)} {σ : St} {H : Hp} {s : Shared} {l b : Addr} {xs ys zs : List V}
theorem Inv.lset {its its' : List Value} {n : Nat} {f : Array Value → Array Value} {t' : Nat} (I : Inv X pins σ H s) (hH : H l = some (.lst xs))
    (e : s.heap.get? l = some { cls := .type "list", data := .seq its.toArray n }) (hf : f its.toArray = its'.toArray) (hv : Vals ys its') (hz : ys.length ≤ sizeLine) (ht : s.toks ≤ t' := by first | exact Nat.le_refl _ | exact Nat.le_succ _ | assumption | omega) :
    Inv X pins σ (upd H l (.lst ys)) { s with heap := s.heap.update l (Obj.mapSeq f), toks := t' } := by
  have q := PySem.IsL.update e f
  rw [hf] at q
  refine I.write (x := l) (e := l) (by rw [hH]; exact trivial) (.inl rfl) (fun b' u hb hu => (Heap.get?_update_other s.heap (Obj.mapSeq f) (Ne.symm hb)).trans hu) ⟨_, q⟩ ?_
  exact ⟨hz, its', _, hv, q⟩
theorem Inv.lnew {its : List Value} {t' : Nat} (I : Inv X pins σ H s) (hv : Vals ys its) (hz : ys.length ≤ sizeLine) (ht : s.toks ≤ t' := by first | exact Nat.le_refl _ | exact Nat.le_succ _ | assumption | omega) :
    Inv X pins σ (upd H s.heap.objs.size (.lst ys)) { s with heap := s.heap.push { cls := .type "list", data := .seq its.toArray }, toks := t' } :=
  I.laid (fun _ _ q => Heap.get?_push_of_some _ q) (Nat.le_refl _) ⟨hz, its, 0, hv, Heap.get?_push_size _ rfl⟩
theorem Inv.fresh (I : Inv X pins σ H s) : H s.heap.objs.size = none := I.hok.fresh (Nat.le_refl _)
theorem Inv.lstM (I : Inv X pins σ H s) (hH : H l = some (.lst xs)) : xs.length ≤ sizeLine ∧ ∃ (its : List Value) (n : Nat), Vals xs its ∧ xs.length = its.length ∧ s.heap.get? l = some { cls := .type "list", data := .seq its.toArray n } := by
  obtain ⟨z, its, n, r, e⟩ := I.hok l _ hH
  exact ⟨z, its, n, r, r.length, e⟩
end
section
variable {X : Cx}
def rAppend : V → List V → Hp → VK → Prop := fun x vs H Q => ∃ l xs y, x = .ref l ∧ vs = [y] ∧ H l = some (.lst xs) ∧ xs.length < sizeLine ∧ Q .non (upd H l (.lst (xs ++ [y])))
theorem mt_append : MtM X "list.append" rAppend := by
  intro pins s σ H x vs v us Q I rx rv h
  obtain ⟨l, xs, y, rfl, rfl, hH, hz, q⟩ := h
  cases rx
  obtain ⟨u, rfl, ru⟩ := rv.one
  obtain ⟨z, its, n, r, hl, e⟩ := I.lstM hH
  refine call_meets F.slot_list_append ⟨_, e, rfl⟩ F.entry_list_append (F.args_list_append_2 _ _) (PySem.list_append l its.toArray n u (by rw [List.size_toArray]; omega)) ⟨e, ?_⟩
  refine ⟨.non, _, I.lset (its' := its ++ [u]) hH e (by simp) (r.append (.cons ru .nil)) ?_, rfl, q⟩
  rw [List.length_append, List.length_singleton]
  omega
def rCat : R2 := fun x y H Q => ∃ l b xs zs, x = .ref l ∧ y = .ref b ∧ H l = some (.lst xs) ∧ H b = some (.lst zs) ∧ xs.length + zs.length ≤ sizeLine ∧ ∀ p, H p = none → Q (.ref p) (upd H p (.lst (xs ++ zs)))
theorem op_cat : OpR X (binaryOp .Add) rCat := by
  intro pins s σ H x y v u Q I rx ry h
  obtain ⟨l, b, xs, zs, rfl, rfl, hH, hB, hz, q⟩ := h
  cases rx
  cases ry
  obtain ⟨z, its, n, r, hl, e⟩ := I.lstM hH
  obtain ⟨z2, its2, n2, r2, hl2, e2⟩ := I.lstM hB
  refine PySem.P.add_list e e2 ?_ (by rw [List.size_toArray, List.size_toArray]; omega)
  have ea : its.toArray ++ its2.toArray = (its ++ its2).toArray := by simp
  rw [ea]
  exact ⟨.ref _, _, I.lnew (t' := s.toks) (r.append r2) (by rw [List.length_append]; omega), rfl, q _ I.fresh⟩
theorem len_rep {α : Type} (xs : List α) (k : Nat) : (List.replicate k xs).flatten.length = k * xs.length := by
  induction k with
  | zero => simp
  | succ k ih => rw [List.replicate_succ, List.flatten_cons, List.length_append, ih, Nat.succ_mul, Nat.add_comm]
end
section
variable {prog : Program} {w : World} {A : Around} {E : Value → Shared → Prop} {s : Shared}
end
section
variable {X : Cx}
end
end L2
namespace Att
open PySem PySem.W PySem.Calls PyProof.Rows
theorem ints_of_wellAll {P : Params} {h : Heap} : ∀ (ns : List Int) (vs : List Value), WellAll P h vs (ns.map WData.int) → IntsAre vs ns := by
  intro ns
  induction ns with
  | nil =>
    intro vs w
    rw [List.map_nil] at w
    cases w
    exact .nil
  | cons n ns ih =>
    intro vs w
    rw [List.map_cons] at w
    cases w with
    | cons a b =>
      cases a
      exact .cons _ _ (ih _ b)
theorem script_of {l : OpenLaw} {n : Nat} (hn : l.most = some n) {P : Params} {h : Heap} {args : List WData} {vals : List Value}
    (hpre : l.row.toRowW.claim.pre args = true) (hwl : WellAll P h vals args) :
    ∃ a vs ns, vals = [Value.ref a] ∧ args = [WData.list (ns.map WData.int)] ∧ h.get? a = some { cls := .type "list", data := .seq vs.toArray } ∧ IntsAre vs ns ∧ ns.length ≤ n := by
  have hsh : WShape.hasAll [] args [.list .int] = true := (pre_splitW hpre).1
  have hc : l.pre.holds [] { args := args } = true := (pre_splitW hpre).2
  obtain ⟨d, r, rfl, h1, h2⟩ := hasAllW_cons hsh
  obtain rfl := hasAllW_nil h2
  obtain ⟨xs, rfl, h3⟩ := hasW_list h1
  obtain ⟨ns, rfl⟩ := items_int h3
  have hlen : ns.length ≤ n := by
    unfold OpenLaw.pre at hc
    have h4 : (WTm.not (.lt (.lit (.int (n : Int))) (.len (.arg 0)))).holds [] { args := [.list (ns.map .int)] } = true := by
      have h4 := (holds_andW hc).1
      rw [hn] at h4
      exact h4
    have h5 := condW_of h4 (w_not (w_lt w_lit (w_len_list (w_arg rfl))))
    rw [List.length_map] at h5
    refine Nat.le_of_not_lt fun q => ?_
    have q' : (n : Int) < ((ns.length : Nat) : Int) := by omega
    first
      | (rw [decide_eq_true q'] at h5; exact absurd h5 (by decide))
      | (simp at h5; omega)
  cases hwl with
  | cons w1 w2 =>
    cases w2
    cases w1 with
    | list ho hall => exact ⟨_, _, ns, rfl, rfl, ho, ints_of_wellAll ns _ hall, hlen⟩
theorem post_true (l : OpenLaw) (args : List WData) : l.row.toRowW.claim.post args (.bool true) args = true :=
  postW_of (r := l.row.toRowW) (X := (true == true))
    (show WShape.has [] (.bool true) .bool = true by first | rfl | decide | simp [WShape.has, WShape.arms, WShape.armsAll])
    (show (WTm.eq .res (.lit (.bool true))).value [] { args := args, res := some (.bool true), after := args } = some (.bool (true == true)) from w_eq_bool (w_res rfl) w_lit) rfl
section
variable {prog : Program} {w : World} {A : Around} {E : Value → Shared → Prop} {s : Shared} {K : Frag}
end
end Att
namespace L2
open PySem PySem.Spec PyProof.Rows
theorem vals_ints : ∀ {vs : List Value} {ns : List Int}, IntsAre vs ns → Vals (ns.map V.int) vs
  | _, _, .nil => .nil
  | _, _, .cons n t h => .cons ⟨t, rfl⟩ (vals_ints h)
def Only (H : Hp) : Prop := ∀ b, H b = none ∨ ∃ o xs, H b = some (.frz o (.lst xs))
theorem law_call {P : Program} {w : World} {K : PySem.W.Frag} {mg mb : Str → Option Value} {CX : CXT} {k : Nat} {fa a : Addr} {fd : FuncData} {x : Str} {sp : Sp} {s₁ : Shared} {vs : List Value} {ns : List Int}
    (KX : K.In s₁.heap) (hns : s₁.heap.Ns mainGlobals mg) (hb : s₁.heap.Ns builtinsNs mb) (hbb : ∀ x : Str, x ≠ "__name__" → mb x = bootBuiltins x) (hlim : s₁.heap.NoLimit) (hg : s₁.gens = #[]) (htk : lowT K ≤ s₁.toks)
    (ha : s₁.heap.get? a = some { cls := .type "list", data := .seq vs.toArray }) (hi : IntsAre vs ns) (hl : ns.length ≤ sizeLine) (hr : Room k callerA)
    (F : ∀ base : Heap, K.In base → base.Ns mainGlobals mg → FnOk P w K mg base CX k fa fd [x] sp) (hbind : ∀ (s : Shared) (u : Value), BindsTo s fd ⟨[u], []⟩ [(x, u)])
    (hsp : ∀ H : Hp, Only H → SqL K H a (ns.map V.int) → sp [.ref a] H (fun v _ => v = .bl true) fun _ _ _ => False)
    (hCX : ∀ H e s', CX [] H s₁ (fun _ _ _ => False) e s' → False) :
    codeAny (model P w) callerA (.call (.ref fa) ⟨[.ref a], []⟩) (fun r s' => r = .ok (.ret (.bool true)) ∧ OldK s₁.heap s'.heap ∧ s'.os = s₁.os ∧ AllBare s'.gens) s₁ := by
  have rv := vals_ints hi
  have lenV := hi.length
  have core : ∀ H : Hp, Only H → SqL K H a (ns.map V.int) → HOk P w H s₁.heap → (∀ b, H b ≠ none → b = a) → (H a ≠ none → K.lookup a = none) →
      codeAny (model P w) callerA (.call (.ref fa) ⟨[.ref a], []⟩) (fun r s' => r = .ok (.ret (.bool true)) ∧ OldK s₁.heap s'.heap ∧ s'.os = s₁.os ∧ AllBare s'.gens) s₁ := by
    intro H hO hS hok hA hK
    have base_of : ∀ {b : Addr} {o : Obj}, s₁.heap.get? b = some o → H b = none → (hidT s₁.heap H).get? b = some o := fun e n => hidT_get e n
    have noA : ∀ {b : Addr} {o : Obj} {es : Array DictEntry} {ep : Nat}, s₁.heap.get? b = some o → o.data = .dict es ep → H b = none := fun {b o es ep} e d => by
      cases q : H b with
      | none => rfl
      | some u =>
        have e' : b = a := hA b (by rw [q]; simp)
        subst e'
        rw [ha] at e; cases e
        have d' : Data.seq vs.toArray _ = Data.dict es ep := d
        cases d'
    have nsK : ∀ {b : Addr} {m : Str → Option Value}, s₁.heap.Ns b m → (hidT s₁.heap H).Ns b m := fun {b m} ⟨o, es, ep, e, d, r⟩ => ⟨o, es, ep, base_of e (noA e d), d, r⟩
    have hKb : K.In (hidT s₁.heap H) := fun b o e => base_of (KX b o e) (by
      cases q : H b with
      | none => rfl
      | some u =>
        have e' : b = a := hA b (by rw [q]; simp)
        subst e'
        rw [hK (by rw [q]; simp)] at e; cases e)
    have hM : Mod K mg (hidT s₁.heap H) := ⟨hKb, nsK hns, ⟨mb, nsK hb, hbb⟩, let ⟨mc, h1, h2⟩ := hlim; ⟨mc, nsK h1, h2⟩⟩
    have e0 : Env0 P w K mg (hidT s₁.heap H) callerA [] s₁ H := ⟨rfl, hM, fun b o e => of_hidT e, Nat.le_of_eq (hidT_size _ _), trivial, fun b hb => absurd (show b ∈ ([] : List Addr) from hb) (by simp), hok, .of_eq hg, htk⟩
    refine codeAny_mono ((F _ hKb (nsK hns)).run callerA [] s₁ H ⟨[.ref a], []⟩ [.ref a] [.ref a] _ _ hr e0 (hbind s₁ (.ref a)) (.cons rfl .nil) (hsp H hO hS)) fun r s' h => ?_
    cases r with
    | error e => exact (hCX H e s' h).elim
    | ok fl =>
      cases fl with
      | next => exact False.elim h
      | brk => exact False.elim h
      | cont => exact False.elim h
      | ret u =>
        obtain ⟨v, H', os, bare, un, hok', _, r', q⟩ := h
        have q' : v = .bl true := q
        subst q'
        obtain rfl : u = Value.bool true := r'
        refine ⟨rfl, OldK.of_keep fun b o e => ?_, os, bare⟩
        cases q : H b with
        | none => exact un.keep b o e q (by intro z; exact absurd (show b ∈ ([] : List Addr) from z) (by simp)) (by simp)
        | some u =>
          rcases hO b with z | ⟨ob, xs, z⟩
          · rw [q] at z; cases z
          · have z2 := un.frzs b ob _ z
            obtain ⟨e1, _⟩ := hok b _ z
            obtain ⟨e2, _⟩ := hok' b _ z2
            rw [e] at e1; cases e1
            exact e2
  cases hk : K.lookup a with
  | some o =>
    have e := KX a o hk
    rw [ha] at e
    cases e
    refine core (fun _ => none) (fun _ => .inl rfl) (.inr ⟨_, vs.toArray, _, hk, rfl, rfl, rfl, by rw [List.size_toArray, lenV]; exact hl, by simpa using rv⟩) (fun b u z => by have z' : (none : Option HO) = some u := z; cases z') (fun b z => absurd rfl z) fun z => absurd rfl z
  | none =>
    refine core (fun b => if b = a then some (.frz { cls := .type "list", data := .seq vs.toArray } (.lst (ns.map V.int))) else none) (fun b => ?_) (.inl (.inr ⟨{ cls := .type "list", data := .seq vs.toArray }, if_pos rfl⟩)) (fun b u z => ?_) (fun b z => ?_) fun _ => hk
    · by_cases hb : b = a
      · exact .inr ⟨_, _, if_pos hb⟩
      · exact .inl (if_neg hb)
    · by_cases hb : b = a
      · have z' := (if_pos hb).symm.trans z
        cases z'
        subst hb
        exact ⟨ha, by rw [List.length_map]; exact hl, vs, _, rv, ha⟩
      · have z' := (if_neg hb).symm.trans z
        cases z'
    · by_cases hb : b = a
      · exact hb
      · exact absurd (if_neg hb) z
end L2
namespace L2
open PySem PySem.Spec PyProof.Rows
end L2
namespace L2
open PySem PySem.Spec PyProof.Rows
def inClass (s : Stmt) (j : Nat) : Stmt := match s with
  | .ClassDef _ _ _ body _ _ _ _ _ _ _ => body.getD j (.Pass ⟨0, 0, 0, 0⟩)
  | _ => .Pass ⟨0, 0, 0, 0⟩
def defArgs (s : Stmt) : Arguments := match s with
  | .FunctionDef _ a _ _ _ _ _ _ _ _ => a
  | _ => { posonlyargs := [], args := [], vararg := none, kwonlyargs := [], kw_defaults := [], kwarg := none, defaults := [] }
def defBody (s : Stmt) : List Stmt := match s with
  | .FunctionDef _ _ b _ _ _ _ _ _ _ => b
  | _ => []
def defScope (s : Stmt) : Scope := match s with
  | .FunctionDef _ _ _ _ _ _ sc _ _ _ => sc
  | _ => { kind := .function, names := [], isGenerator := false, isCoroutine := false }
abbrev CX0 : CXT := fun _ _ _ _ _ _ => False
abbrev E0 : XK := fun _ _ _ => False
theorem pass0 {X : Cx} : Passes CX0 X E0 := fun _ _ _ _ _ _ _ h => h.elim
structure Fun (K : PySem.W.Frag) (x qual : Str) (st : Stmt) (f : Addr) (fd : FuncData) : Prop where
  ex : ∃ (oc : Value) (od : Option Addr) (kV doc pm : Value) (an : Option Addr) (cdv ct : Value) (osl : Array (Option Value)),
    fd = PySem.W.fnOf x qual (defArgs st) (defBody st) (defScope st) .none kV doc pm an cdv ct ∧ K.lookup f = some ⟨oc, od, .func fd, osl⟩ ∧ PySem.W.codeIn K cdv qual = true
  kp : PySem.W.keepIn K (.ref f) = true
section
variable {P : Program} {w : World} {K : PySem.W.Frag} {mg : Str → Option Value} {base : Heap}
theorem Fun.ok {x qual : Str} {st : Stmt} {f : Addr} {fd : FuncData} {N ps : List Str} {k : Nat} {sp : Sp} (F : Fun K x qual st f fd) (S : FnScope N ps (defScope st)) (len : ∀ vs H Q E, sp vs H Q E → vs.length = ps.length)
    (hbody : ∀ (cdv : Value) (A : Around) (outer : List Env) (s : Shared) (H : Hp) (vs : List V) (Q : VK) (E : XK), Room k (A.deeper (envOfC qual (defScope st) s.heap.objs.size f cdv)) → sp vs H Q E →
      ∃ t, PSs (cxOf CX0 P w K mg base N qual (defScope st) f cdv A outer s H E).nox (defBody st) t ∧ t { nx := fun _ H' => Q .non H', rt := Q } (start N vs) H) : FnOk P w K mg base CX0 (k + 1) f fd ps sp := by
  obtain ⟨oc, od, kV, doc, pm, an, cdv, ct, osl, rfl, lk, hcd⟩ := F.ex
  refine fn_of lk hcd S len fun A outer s H vs Q E hr hsp => ?_
  obtain ⟨t, h, q⟩ := hbody cdv A outer s H vs Q E hr hsp
  exact ⟨t, h.nox, q⟩
theorem Fun.binds {x qual : Str} {st : Stmt} {f : Addr} {fd : FuncData} {ps : List Str} (F : Fun K x qual st f fd)
    (h : ∀ (kV doc pm : Value) (an : Option Addr) (cdv ct : Value) (us : List Value), us.length = ps.length → bindArgs (PySem.W.fnOf x qual (defArgs st) (defBody st) (defScope st) .none kV doc pm an cdv ct) ⟨us, []⟩ = pure (ps.zip us)) : Binds K fd ps [] := by
  obtain ⟨oc, od, kV, doc, pm, an, cdv, ct, osl, rfl, lk, hcd⟩ := F.ex
  exact .all (h kV doc pm an cdv ct)
theorem fun_mk {x qual : Str} {st : Stmt} {f : Addr} {oc : Value} {od an : Option Addr} {osl : Array (Option Value)} {kV doc pm cdv ct : Value} (l : K.lookup f = some ⟨oc, od, .func (PySem.W.fnOf x qual (defArgs st) (defBody st) (defScope st) .none kV doc pm an cdv ct), osl⟩)
    (c : PySem.W.codeIn K cdv qual = true) (k : PySem.W.keepIn K (.ref f) = true) : Fun K x qual st f (PySem.W.fnOf x qual (defArgs st) (defBody st) (defScope st) .none kV doc pm an cdv ct) := ⟨⟨oc, od, kV, doc, pm, an, cdv, ct, osl, rfl, l, c⟩, k⟩
end
theorem hu_of {A : Around} {k : Nat} (hr : Room k A) : A.units + 1 < cLine := Nat.lt_of_le_of_lt (Nat.add_le_add_left (by decide : 1 ≤ 64) _) hr.units
theorem small1000 {n : Nat} (h : n ≤ 1000) : n < sizeLine := Nat.lt_of_le_of_lt h (by decide)
section
variable {X : Cx}
theorem pv (i : Nat) {x : Str} {pos : Pos} (hN : X.N[i]? = some x := by rfl) (hv : Vis X.env.scope x := by first | exact Or.inl rfl | exact Or.inr (Or.inl rfl) | exact Or.inr (Or.inr rfl)) (hd : (x == ("__debug__" : Str)) = false := by decide)
    (hcd : (x == ("__classdict__" : Str)) = false := by decide) : PE X (.Name x pos) (tVar i) := pe_var hN hv hd hcd
end
theorem iteF {A B : Prop} (h : B) : if false = true then A else B := by
  rw [if_neg Bool.false_ne_true]
  exact h
theorem iteT {A B : Prop} (h : A) : if true = true then A else B := by
  rw [if_pos rfl]
  exact h
theorem ite2 {c A B : Prop} [Decidable c] (h1 : c → A) (h2 : ¬ c → B) : if c then A else B := by
  by_cases h : c
  · rw [if_pos h]
    exact h1 h
  · rw [if_neg h]
    exact h2 h
theorem iteNS {c A B : Prop} [Decidable c] (hc : c) (h : B) : if (!decide c) = true then A else B := by
  rw [decide_eq_true hc]
  exact iteF h
def Same (H H' : Hp) : Prop := ∀ b o, H b = some o → H' b = some o
theorem Same.refl (H : Hp) : Same H H := fun _ _ h => h
theorem Same.trans {H H1 H2 : Hp} (a : Same H H1) (b : Same H1 H2) : Same H H2 := fun c o h => b c o (a c o h)
theorem Same.free {H H' : Hp} (e : Same H H') {l : Addr} (h : H' l = Option.none) : H l = Option.none := by
  cases q : H l with
  | none => rfl
  | some o =>
    rw [e l o q] at h
    cases h
theorem Same.seq {K : PySem.W.Frag} {H H' : Hp} {a : Addr} {xs : List V} (e : Same H H') (h : SqL K H a xs) : SqL K H' a xs := by
  rcases h with (h | ⟨o, h⟩) | h
  · exact .inl (.inl (e _ _ h))
  · exact .inl (.inr ⟨o, e _ _ h⟩)
  · exact .inr h
end L2
namespace L2
open PySem PySem.Spec PyProof.Rows
section
variable {X : Cx}
end
section
variable {κ : Type} [DecidableEq κ]
end
end L2
namespace L2
open PySem PySem.Spec PyProof.Rows
def cxComp (X : Cx) (N : List Str) (scope : Scope) (cl : List (Str × Addr)) (C : Addr) (s : Shared) (H : Hp) (fp : List Addr) : Cx where
  prog := X.prog
  w := X.w
  K := X.K
  mg := X.mg
  base := X.base
  A := X.A
  N := N
  s₀ := s
  H₀ := H
  env := compEnvC scope cl C X.env
  outer := X.stack
  stack := X.stack
  ex := fp
  fn := fun _ => false
  calm := X.calm
  pn := []
  xe := fun _ _ => False
def FvOk (X : Cx) (scope : Scope) : List (Str × Nat) → Prop
  | [] => True
  | p :: r => (X.N[p.2]? = some p.1 ∧ X.env.kindOf p.1 = some .cell ∧ (relabel scope X.env).names.lookup p.1 = some .cell) ∧ FvOk X scope r
theorem FvOk.mem {X : Cx} {scope : Scope} : ∀ {l : List (Str × Nat)}, FvOk X scope l → ∀ p ∈ l, X.N[p.2]? = some p.1 ∧ X.env.kindOf p.1 = some .cell ∧ (relabel scope X.env).names.lookup p.1 = some .cell
  | [], _, _, h => by cases h
  | q :: r, h, p, hp => by
    rcases List.mem_cons.mp hp with e | hp
    · subst e; exact h.1
    · exact FvOk.mem h.2 p hp
def ClOk (X : Cx) : List (Str × Addr) → Prop
  | [] => True
  | p :: r => X.env.cells.lookup p.1 = some p.2 ∧ ClOk X r
theorem ClOk.look {X : Cx} : ∀ {l : List (Str × Addr)}, ClOk X l → ∀ y c, l.lookup y = some c → X.env.cells.lookup y = some c
  | [], _, _, _, h => by cases h
  | (n, d) :: r, h, y, c, e => by
    rw [List.lookup_cons] at e
    cases q : y == n with
    | true =>
      rw [q] at e
      have e' : d = c := Option.some.inj e
      subst e'
      have : y = n := beq_iff_eq.mp q
      subst this
      exact h.1
    | false => rw [q] at e; exact ClOk.look h.2 y c e
def compσ (σ : St) (fvs : List (Str × Nat)) : St := none :: fvs.map fun p => (σ[p.2]?).getD none
section
variable {X : Cx} {pins : List (Addr × Obj)} {σ : St} {H : Hp} {s : Shared} {x : Str} {fvs : List (Str × Nat)} {scope : Scope} {cl : List (Str × Addr)} {fp : List Addr}
theorem comp_ok {C : Addr} (I : Inv X pins σ H s) (hf : ∀ b ∈ fp, FpOk X pins H b) (ho : ∀ b ∈ fp, ∃ o, s.heap.get? b = some o) (hC : s.heap.objs.size ≤ C)
    (hkind : scope.kind = .function) (hcl : ∀ y c, cl.lookup y = some c → X.env.cells.lookup y = some c)
    (hhas : ∀ y, ((relabel scope X.env).names.lookup y = some .cell ∨ (relabel scope X.env).names.lookup y = some .free) → ∃ c, cl.lookup y = some c) :
    (cxComp X (x :: fvs.map (·.1)) scope cl C s H fp).Ok where
  mod := I.ok.mod
  kind := hkind
  glob := I.ok.glob
  blt := I.ok.blt
  above := hC
  inj := fun y z c h1 h2 => I.ok.inj y z c (hcl y c h1) (hcl z c h2)
  has := fun y hy => hhas y hy
  cab := fun y c h => nomatch h
  hd := I.ok.hd
  frames := I.ok.frames
  stk := .inl rfl
  exf := fun b hb => by
    obtain ⟨o, e⟩ := ho b hb
    refine ⟨fun z => ?_, fun y c h => (hf b hb).2.2.2.2.1 y c (hcl y c h)⟩
    exact absurd (Nat.lt_of_lt_of_le (Heap.lt_size e) hC) (by rw [show b = C from z]; exact Nat.lt_irrefl _)
  bs := I.bs
  bsz := Nat.le_trans I.ok.bsz I.sz
  noex := fun b o e hb => by
    rcases (hf b hb).2.2.2.1 with z | z
    · exact I.ok.noex b o e z
    · exact absurd (Nat.lt_of_lt_of_le (Heap.lt_size (I.ok.bs b o e).1) z) (Nat.lt_irrefl _)
  exfs := fun b hb z => by
    rcases List.mem_cons.mp (I.stkSub b z) with e | e
    · exact (hf b hb).2.1 e
    · exact (hf b hb).2.2.1 e
  funs := I.stack
  frf := I.stkFree
  low := Nat.le_trans I.ok.low I.tk
theorem comp_start {C : Addr} {h₁ : Heap} {tk : Nat} (I : Inv X pins σ H s) (hf : ∀ b ∈ fp, FpOk X pins H b) (ho : ∀ b ∈ fp, ∃ o, s.heap.get? b = some o) (hC : s.heap.objs.size < C)
    (hkind : scope.kind = .function) (hcl : ∀ y c, cl.lookup y = some c → X.env.cells.lookup y = some c)
    (hhas : ∀ y, ((relabel scope X.env).names.lookup y = some .cell ∨ (relabel scope X.env).names.lookup y = some .free) → ∃ c, cl.lookup y = some c)
    (hfv : FvOk X scope fvs) (old : ∀ b o, s.heap.get? b = some o → h₁.get? b = some o) (hD : h₁.get? s.heap.objs.size = some { cls := .type "list", data := .seq #[] 0 })
    (hN : h₁.Ns C fun _ => none) (htk : s.toks ≤ tk := by first | exact Nat.le_refl _ | exact Nat.le_succ _ | assumption | omega) :
    Inv (cxComp X (x :: fvs.map (·.1)) scope cl C s H fp) [] (compσ σ fvs) (upd H s.heap.objs.size (.lst [])) { s with heap := h₁, toks := tk } where
  ok := comp_ok I hf ho (Nat.le_of_lt hC) hkind hcl hhas
  tk := htk
  os := rfl
  bare := I.bare
  base := Un.laid old (Nat.le_refl _) (I.hok.fresh (Nat.le_refl _))
  loc := by
    refine ⟨_, hN, fun i y v h1 h2 _ => ?_⟩
    cases i with
    | zero => cases h2
    | succ i =>
      have h1' : (fvs.map (·.1))[i]? = some y := h1
      have h2' : (fvs.map fun p => (σ[p.2]?).getD none)[i]? = some (some v) := h2
      rw [List.getElem?_map] at h1' h2'
      cases q : fvs[i]? with
      | none => rw [q] at h1'; cases h1'
      | some p =>
        rw [q] at h1' h2'
        have e1 : p.1 = y := Option.some.inj h1'
        have e2 : (σ[p.2]?).getD none = some v := Option.some.inj h2'
        subst e1
        obtain ⟨f1, f2, f3⟩ := hfv.mem p (List.mem_of_getElem? q)
        have e3 : σ[p.2]? = some (some v) := by
          cases z : σ[p.2]? with
          | none => rw [z] at e2; cases e2
          | some o => rw [z] at e2; exact congrArg some e2
        obtain ⟨m, hn, hl⟩ := I.loc
        obtain ⟨u, ru, lk⟩ := hl p.2 p.1 v f1 e3 (.inr (.inl f2))
        refine ⟨u, ru, ?_⟩
        rcases lk with ⟨k, _⟩ | ⟨k, c, ec, o, e, d⟩
        · rw [f2] at k; cases k
        · obtain ⟨c', e'⟩ := hhas p.1 (.inl f3)
          have q : c' = c := Option.some.inj ((hcl _ _ e').symm.trans ec)
          subst q
          exact .inr ⟨.inl f3, c', e', o, old c' o e, d⟩
  cell := fun y c h => by
    obtain ⟨v, o, e, d⟩ := I.cell y c (hcl y c h)
    exact ⟨v, o, old c o e, d⟩
  free := by
    show upd H s.heap.objs.size (.lst []) C = none
    rw [upd_ne (Nat.ne_of_gt hC)]
    exact I.hok.fresh (Nat.le_of_lt hC)
  freeC := fun y c h => by
    obtain ⟨v, q⟩ := I.cell y c (hcl y c h)
    rw [upd_ne (Nat.ne_of_lt q.lt)]
    exact I.freeC y c (hcl y c h)
  pin := fun p hp => absurd (show p ∈ ([] : List (Addr × Obj)) from hp) (by simp)
  hok := I.hok.laid old (Nat.le_refl _) ⟨Nat.zero_le _, [], 0, .nil, hD⟩
  len := by show (compσ σ fvs).length = (x :: fvs.map (·.1)).length; simp [compσ]
def tComp (wi : TI) (fvs : List (Str × Nat)) (te : TE) : TE := fun σ H Q => wi σ H fun J H1 => ∀ D, H1 D = none → ∃ W : Nat → Nat → List V → Hp → Prop, (∃ m, W 0 m [] (upd H1 D (.lst []))) ∧ ∀ i m ys H2, W i m ys H2 →
  H2 D = some (.lst ys) ∧ ((J.stop i H2 ∧ Q (.ref D) H2) ∨ (J.go i H2 ∧ ys.length < sizeLine ∧ ∀ x H3, J.yld i H2 x H3 → te ((compσ σ fvs).set 0 (some x)) H3 fun v H4 => H4 D = some (.lst ys) ∧ ∃ m', m' < m ∧ W (i + 1) m' (ys ++ [v]) (upd H4 D (.lst (ys ++ [v])))))
theorem then_pure {α β : Type} {M : Model} {A : Around} {a : α} {P : α → Shared → Prop} {E E' : Value → Shared → Prop} {t : Sem β} {Q : β → Shared → Prop} (h : wpAny M A (pure a) P E s) (k : P a s → wpAny M A t Q E' s) : wpAny M A t Q E' s :=
  fun Γ p hΓ => k (h Γ p hΓ) Γ p hΓ
theorem pe_comp {px : Pos} {iter elt : Expr} {pos : Pos} {wi : TI} {te : TE} (hc : X.calm = true) (hclos : closureFor scope X.env = pure cl) (hkind : scope.kind = .function)
    (hcell : ∀ y ∈ scope.names, y.2 ≠ .cell) (hnames : ∀ y ∈ scope.names, y.2 = .local → scope.names.lookup y.1 = some .local) (hx : scope.names.lookup x = some .local)
    (hcl : ClOk X cl) (hhas : ((relabel scope X.env).names.all fun p => (p.2 != .cell && p.2 != .free) || (cl.lookup p.1).isSome) = true) (hfv : FvOk X scope fvs)
    (hnd : (x :: fvs.map (·.1)).Nodup)
    (hi : PI X (.Name x px) iter wi) (he : ∀ (C : Addr) (s : Shared) (H : Hp) (fp : List Addr), PE (cxComp X (x :: fvs.map (·.1)) scope cl C s H fp) elt te)
    (hs : ∀ v, foldedSetIterable iter X.env v = pure v := by intro _; rfl) : PE X (.ListComp elt [⟨.Name x px, iter, [], 0⟩] scope pos) (tComp wi fvs te) := by
  intro pins s σ H Q I h
  have hcl' := hcl.look
  have hhas' : ∀ y, ((relabel scope X.env).names.lookup y = some .cell ∨ (relabel scope X.env).names.lookup y = some .free) → ∃ c, cl.lookup y = some c := fun y hy => by
    have aux : ∀ k, (k = NameKind.cell ∨ k = .free) → (relabel scope X.env).names.lookup y = some k → ∃ c, cl.lookup y = some c := fun k hk e => by
      have hm := List.all_eq_true.mp hhas _ (PySem.mem_of_lookup e)
      have : (cl.lookup y).isSome = true := by
        rcases hk with rfl | rfl <;> simpa using hm
      exact Option.isSome_iff_exists.mp this
    rcases hy with e | e
    · exact aux _ (.inl rfl) e
    · exact aux _ (.inr rfl) e
  rw [eval_ListComp]
  refine wpAny_comprehension_free (use := none) rfl hs hclos hkind hnames (wpAny_mono (hi pins s σ H _ I h) (fun v s1 h1 => wpAny_mono h1 (fun itv s2 h2 => ?_) fun _ _ e => e) fun _ _ e => e)
  obtain ⟨it, fp, tn, J, H2, e, I2, T, st2, f2, h2⟩ := h2
  subst e
  refine wpAny_newObj_type (wpAny_newFunctionEnv hcell (by intro y hy; simp at hy) (fun h₁ hns hsb => ?_) hkind)
  dsimp only at hns hsb ⊢
  generalize hH2 : s2.heap.push { cls := .type "list", dict := none, data := .seq ([] : List Value).toArray } = Hp2 at hns hsb ⊢
  have hCsz : Hp2.objs.size = s2.heap.objs.size + 1 := by rw [← hH2, Heap.size_push]
  have hlt : s2.heap.objs.size < Hp2.objs.size := by rw [hCsz]; exact Nat.lt_succ_self _
  have old : ∀ b o, s2.heap.get? b = some o → h₁.get? b = some o := fun b o e =>
    hsb.extBut b o (Nat.ne_of_lt (Nat.lt_trans (Heap.lt_size e) hlt)) (Heap.get?_push_of_some _ (hH2 ▸ Heap.get?_push_of_some _ e))
  have hD : h₁.get? s2.heap.objs.size = some { cls := .type "list", data := .seq #[] 0 } :=
    hsb.extBut _ _ (Nat.ne_of_lt hlt) (Heap.get?_push_of_some _ (hH2 ▸ Heap.get?_push_size _ rfl))
  have hfp : ∀ b ∈ fp, ∃ o, s2.heap.get? b = some o := fun b hb => let ⟨o, e, _⟩ := T.obj 0 _ st2 b hb; ⟨o, e⟩
  have st1 : tn 0 h₁ := T.keep 0 _ _ st2 fun b _ o e => old b o e
  have J0 := comp_start (x := x) (tk := s2.toks + ([] : List (Str × Value)).length) I2 f2 hfp hlt hkind hcl' hhas' hfv old hD (by simpa using hns)
  have freshD : H2 s2.heap.objs.size = none := I2.hok.fresh (Nat.le_refl _)
  obtain ⟨W, ⟨m0, w0⟩, turn⟩ := h2 s2.heap.objs.size freshD
  generalize hXC : cxComp X (x :: fvs.map (·.1)) scope cl Hp2.objs.size s2 H2 fp = XC at J0
  have fpC : ∀ {H' : Hp}, (∀ b ∈ fp, H' b = none) → ∀ b ∈ fp, FpOk XC [] H' b := fun {H'} hn b hb => by
    subst hXC
    obtain ⟨o, eo⟩ := hfp b hb
    refine ⟨hn b hb, Nat.ne_of_lt (Nat.lt_trans (Heap.lt_size eo) hlt), fun z => ?_, .inl hb, fun y c e => (f2 b hb).2.2.2.2.1 y c (hcl' y c e), fun p hp => absurd (show p ∈ ([] : List (Addr × Obj)) from hp) (by simp)⟩
    rcases List.mem_cons.mp (I2.stkSub b z) with e | e
    · exact (f2 b hb).2.1 e
    · exact (f2 b hb).2.2.1 e
  have fpU : ∀ b ∈ fp, upd H2 s2.heap.objs.size (.lst []) b = none := fun b hb => by
    obtain ⟨o, eo⟩ := hfp b hb
    rw [upd_ne (Nat.ne_of_lt (Heap.lt_size eo))]
    exact (f2 b hb).1
  have loop : codeAny (model X.prog X.w) X.A (.compLoop (.ListComp elt [⟨.Name x px, iter, [], 0⟩] scope pos) 0 (.ref it) (.ref s2.heap.objs.size) (compEnvC scope cl Hp2.objs.size X.env))
      (compPost (model X.prog X.w) X.A X.xe none (EP X pins σ Q) (.ref s2.heap.objs.size) Hp2.objs.size) { s2 with heap := h₁, toks := s2.toks + ([] : List (Str × Value)).length } := by
    refine codeAny_compLoop_list (fun n s' => ∃ i ys H', Inv XC [] (compσ σ fvs) H' s' ∧ tn i s'.heap ∧ (∀ b ∈ fp, H' b = none) ∧ W i n ys H') ?_ m0 ⟨0, [], _, J0, st1, fpU, w0⟩
    rintro n s3 ⟨i, ys, H3, I3, st3, fr3, w3⟩
    obtain ⟨hD3, alt⟩ := turn i n ys H3 w3
    have hprog : XC.prog = X.prog := by subst hXC; rfl
    have hw : XC.w = X.w := by subst hXC; rfl
    have hK : XC.K = X.K := by subst hXC; rfl
    have hA : XC.A = X.A := by subst hXC; rfl
    have hcalm : XC.calm = true := by subst hXC; exact hc
    have hN : XC.N = x :: fvs.map (·.1) := by subst hXC; rfl
    have henv : XC.env = compEnvC scope cl Hp2.objs.size X.env := by subst hXC; rfl
    have hxl : (relabel scope X.env).names.lookup x = some .local := lookup_relabel_local hx
    rcases alt with ⟨stop, q⟩ | ⟨go, hlen, step⟩
    · have q1 := T.done XC hprog hw hK hcalm i [] s3 _ H3 (fun _ _ => False) I3 (fpC fr3) st3 stop
      rw [hA] at q1
      refine wpAny_mono q1 (fun r s4 ⟨hr, I4⟩ => ?_) fun _ _ z => z.elim
      subst hr
      show compPost _ _ _ none _ _ _ (.ok .next) s4
      obtain ⟨m, hm, _⟩ := I4.loc
      rw [henv] at hm
      refine ⟨m, hm, fun h' hs' => ?_⟩
      refine ⟨.ref s2.heap.objs.size, H3, ?_, rfl, q⟩
      have ub := I4.base
      have e1 : XC.fs = frs X.stack := by subst hXC; rfl
      have e2 : XC.ex = fp := by subst hXC; rfl
      have e3 : XC.H₀ = H2 := by subst hXC; rfl
      have e4 : XC.s₀ = s2 := by subst hXC; rfl
      have tk4 : s2.toks ≤ s4.toks := by have z := I4.tk; rw [e4] at z; exact z
      have fC : H3 Hp2.objs.size = none := by have := I4.free; rw [henv] at this; exact this
      rw [e1, e2, e3, e4] at ub
      have ne : ∀ b o, s2.heap.get? b = some o → b ≠ Hp2.objs.size := fun b o e => Nat.ne_of_lt (Nat.lt_trans (Heap.lt_size e) hlt)
      have hok4 : HOk X.prog X.w H3 s4.heap := by have := I4.hok; rw [hprog, hw] at this; exact this
      refine I2.call' (s' := { s4 with heap := h' }) (ch := fp) (by show s4.os = s2.os; have := I4.os; rw [e4] at this; exact this) ?_ ?_ I4.bare fun b hb => ⟨(f2 b hb).2.2.2.1, (f2 b hb).2.1, (f2 b hb).2.2.2.2.1, (f2 b hb).2.2.2.2.2⟩
      · exact ⟨fun b o e n h1 h2 => (hs'.2 b (ne b o e)).trans (ub.keep b o e n h1 h2), fun b o e n h1 h2 => let ⟨sl, z⟩ := ub.slot b o e n h1 h2; ⟨sl, (hs'.2 b (ne b o e)).trans z⟩, ub.free,
          fun b o e h1 => let ⟨o', z⟩ := ub.there b o e h1; ⟨o', (hs'.2 b (ne b o e)).trans z⟩, ub.tups, ub.frzs, ub.tbls⟩
      · exact fun a o e => (hok4 a o e).stay (fun b u hb q => (hs'.2 b (fun z => by
          subst z
          rcases hb with rfl | hb
          · rw [fC] at e; cases e
          · rw [fC] at hb; cases hb)).trans q) (fun _ q => q) fun _ _ q => q
    · have q1 := T.item XC hprog hw hK hcalm i [] s3 _ H3 (fun _ _ => False) I3 (fpC fr3) st3 go
      rw [hA] at q1
      refine wpAny_mono q1 (fun r s4 ⟨u, hr, h4⟩ => ?_) fun _ _ z => z.elim
      subst hr
      dsimp only
      refine then_pure (a := ()) h4 fun ⟨y, H5, I5, r5, y5, st5, fr5⟩ => ?_
      have I5' := I5.pinned (fpC fr5) (T.obj _ _ st5)
      have q2 := pg_name (X := XC) (i := 0) (x := x) (pos := px) (by rw [hN]; exact hnd) (by rw [hN]; rfl) (.inl (by rw [henv]; exact hxl)) (.inr (by rw [henv]; exact hxl)) _ s4 _ H5 y u (fun σ6 H6 => σ6 = (compσ σ fvs).set 0 (some y) ∧ te σ6 H6 fun v H4 => H4 s2.heap.objs.size = some (.lst ys) ∧ ∃ m', m' < n ∧ W (i + 1) m' (ys ++ [v]) (upd H4 s2.heap.objs.size (.lst (ys ++ [v])))) I5' r5 ⟨rfl, step y H5 y5⟩
      rw [hprog, hw, hA, henv] at q2
      refine wpAny_mono q2 (fun _ s6 ⟨σ6, H6, I6, q6σ, q6⟩ => ?_) fun _ _ z => (by subst hXC; exact z.elim)
      have q3 := he Hp2.objs.size s2 H2 fp
      rw [hXC] at q3
      have q4 := q3 _ s6 σ6 H6 _ I6 q6
      rw [hprog, hw, hA, henv] at q4
      refine wpAny_mono q4 (fun v s7 ⟨y7, H7, I7, r7, d7, m', hm', w7⟩ => ?_) fun _ _ z => (by subst hXC; exact z.elim)
      have q5 := mt_append (X := XC) _ s7 σ6 H7 (.ref s2.heap.objs.size) [y7] (.ref s2.heap.objs.size) [v] (fun _ H8 => H8 = upd H7 s2.heap.objs.size (.lst (ys ++ [y7]))) I7 rfl (.cons r7 .nil) ⟨_, ys, y7, rfl, rfl, d7, hlen, rfl⟩
      rw [hprog, hw, hA] at q5
      refine wpAny_mono q5 (fun _ s8 ⟨_, H8, I8, _, e8⟩ => ?_) fun _ _ z => (by subst hXC; exact z.elim)
      subst e8
      refine ⟨m', hm', i + 1, ys ++ [y7], _, ?_, T.keep _ _ _ st5 fun b hb o e => (I8.pin (b, o) (List.mem_append_right _ (List.mem_append_right _ (mem_pinsAt hb e)))).1, fun b hb => ?_, w7⟩
      · refine I8.unpinned.weak ?_ fun j v' ej => ?_
        · rw [q6σ, List.length_set]
        · rw [q6σ]
          cases j with
          | zero => cases ej
          | succ j => rw [List.getElem?_set_ne (by omega)]; exact ej
      · obtain ⟨o, e, d⟩ := T.obj _ _ st5 b hb
        exact (I8.pin (b, o) (List.mem_append_right _ (List.mem_append_right _ (mem_pinsAt hb e)))).2.1
  refine codeAny_compStart_list loop (T.self X.A 0 _ _ _ st1 loop)
end
end L2
namespace L2
open PySem PySem.Spec PyProof.Rows
section
variable {X : Cx}
end
mutual
inductive RdV (H : Hp) : V → PyData → Prop
  | bl (b : Bool) : RdV H (.bl b) (.bool b)
  | int (i : Int) : RdV H (.int i) (.int i)
  | str (x : Str) : RdV H (.str x) (.str x)
  | tup {a : Addr} {xs : List V} {ds : List PyData} : H a = some (.tup xs) → RdVs H xs ds → RdV H (.ref a) (.tuple ds)
  | lst {a : Addr} {xs : List V} {ds : List PyData} : H a = some (.lst xs) → RdVs H xs ds → RdV H (.ref a) (.list ds)
inductive RdVs (H : Hp) : List V → List PyData → Prop
  | nil : RdVs H [] []
  | cons {x : V} {d : PyData} {xs : List V} {ds : List PyData} : RdV H x d → RdVs H xs ds → RdVs H (x :: xs) (d :: ds)
end
section
variable {X : Cx} {pins : List (Addr × Obj)} {σ : St} {H : Hp} {s : Shared}
mutual
theorem RdV.reads (I : Inv X pins σ H s) : ∀ {x : V} {d : PyData} {u : Value}, RdV H x d → RelV x u → ∃ as, Reads s.heap u d as
  | _, _, _, .bl b, r => by cases r; exact ⟨_, .bool b⟩
  | _, _, _, .int i, r => by obtain ⟨t, rfl⟩ := r; exact ⟨_, .int i t⟩
  | _, _, _, .str x, r => by obtain ⟨t, rfl⟩ := r; exact ⟨_, .str x t⟩
  | _, _, _, .tup e q, r => by
    cases r
    obtain ⟨_, its, rv, o, e1, e2, n, e3⟩ := I.hok _ _ e
    obtain ⟨as, z⟩ := RdVs.reads I q rv
    exact ⟨as, .tuple e1 e2 e3 (by simpa using z)⟩
  | _, _, _, .lst e q, r => by
    cases r
    obtain ⟨_, its, n, rv, e1⟩ := I.hok _ _ e
    obtain ⟨as, z⟩ := RdVs.reads I q rv
    exact ⟨_, .list e1 rfl rfl (by simpa using z)⟩
theorem RdVs.reads (I : Inv X pins σ H s) : ∀ {xs : List V} {ds : List PyData} {us : List Value}, RdVs H xs ds → Vals xs us → ∃ as, ReadsAll s.heap us ds as
  | _, _, _, .nil, r => by cases r; exact ⟨_, .nil⟩
  | _, _, _, .cons q t, r => by
    cases r with
    | cons rx rt =>
      obtain ⟨as, z⟩ := RdV.reads I q rx
      obtain ⟨bs, y⟩ := RdVs.reads I t rt
      exact ⟨_, .cons z y⟩
end
end
section
variable {X : Cx}
end
section
variable {prog : Program} {w : World} {κ : Type} [DecidableEq κ] {knd : HeapKind prog w κ} {A : Around} {E : Value → Shared → Prop} {s : Shared}
theorem setHashedH {d a : Addr} {xs : List (κ × Addr × Value)} {k : κ} {v : Value} {Q : Unit → Shared → Prop} (hu : knd.room A) (hkey : knd.is s.heap k a) (hm : s.heap.DictOfH knd d xs)
    (hQ : ∀ h', h'.DictOfH knd d (storedH xs k a v) → Heap.SameBut d s.heap h' → Q () { s with heap := h' }) (hsz : xs.length ≤ sizeLine) :
    wpAny (model prog w) A (dictSetHashed d (.ref a) (knd.hash k) v) Q E s := by
  obtain ⟨o, es, ep, ho, hc, hd, he, his, hn⟩ := hm
  have hes : es.size ≤ sizeLine := by rw [size_of_entries he]; exact hsz
  unfold dictSetHashed
  try with_reducible refine wpAny_holding ?_
  refine wpAny_bind (wpAny_dictFind_heap hu hkey ho hd he his hn (fun hno => ?_) fun j p hj => ?_)
  · have hnk : k ∉ xs.map (·.1) := not_mem_keys_of_get hno
    have e0 : storedH xs k a v = xs ++ [(k, a, v)] := storedH_new (atKey_none_of_get hno) a v
    refine wpAny_bind (wpAny_rule (wpAny_updateDictKeys (hz := hes) ho hd (hQ _ ?_ (Heap.SameBut.update ..))))
    rw [e0]
    refine ⟨_, _, ep + 1, Heap.get?_update_self _ ho (Obj.isFreed_of_dict (Obj.data_mapDictKeys hd _)), hc.mapDictKeys _, Obj.data_mapDictKeys hd _, by simp [he, entryOfKey], fun x hx => ?_, ?_⟩
    · rcases List.mem_append.mp hx with hx | hx
      · exact knd.keeps (his x hx) ho hd (Heap.SameBut.update ..)
      · cases List.mem_singleton.mp hx
        exact knd.keeps hkey ho hd (Heap.SameBut.update ..)
    · rw [List.map_append]
      refine List.nodup_append.mpr ⟨hn, by simp, fun x hx y hy e => hnk ?_⟩
      have hy' : y = k := by simpa using hy
      rw [← hy', ← e]
      exact hx
  · have e0 : storedH xs k a v = xs.map (putAt k v) := storedH_old (atKey_of_get hn hj) a v
    refine wpAny_bind (wpAny_rule (wpAny_bind (wpAny_updateDict ho hd (wpAny_point (hQ _ ?_ (Heap.SameBut.update ..))))))
    rw [e0]
    refine ⟨_, _, ep, Heap.get?_update_self _ ho (Obj.isFreed_of_dict (Obj.data_mapDict hd _)), hc.mapDict _, Obj.data_mapDict hd _, ?_, fun x hx => ?_, by rw [keys_map_putAt]; exact hn⟩
    · have q := modify_map_putAt (entryOfKey knd) (fun e : DictEntry => { e with val := v }) k v (fun _ _ => rfl) hn hj
      rw [← he] at q
      obtain ⟨l⟩ := es
      simpa using q
    · obtain ⟨y, hy, rfl⟩ := List.mem_map.mp hx
      have z := his y hy
      unfold putAt
      split
      · exact knd.keeps z ho hd (Heap.SameBut.update ..)
      · exact knd.keeps z ho hd (Heap.SameBut.update ..)
def mergedH (xs more : List (κ × Addr × Value)) : List (κ × Addr × Value) := more.foldl (fun acc x => storedH acc x.1 x.2.1 x.2.2) xs
theorem mergedH_snoc (xs more : List (κ × Addr × Value)) (i : Nat) (y : κ × Addr × Value) (h : more[i]? = some y) : mergedH xs (more.take (i + 1)) = storedH (mergedH xs (more.take i)) y.1 y.2.1 y.2.2 := by
  unfold mergedH
  rw [List.take_add_one, h, Option.toList_some, List.foldl_append]
  rfl
theorem storedH_len (xs : List (κ × Addr × Value)) (k : κ) (a : Addr) (v : Value) : (storedH xs k a v).length ≤ xs.length + 1 := by
  unfold storedH
  split
  · rw [List.length_map]; omega
  · rw [List.length_append, List.length_singleton]; exact Nat.le_refl _
theorem mergedH_len : ∀ (more xs : List (κ × Addr × Value)), (mergedH xs more).length ≤ xs.length + more.length
  | [], xs => Nat.le_refl _
  | y :: r, xs => by
    have h1 := mergedH_len r (storedH xs y.1 y.2.1 y.2.2)
    have h2 := storedH_len xs y.1 y.2.1 y.2.2
    show (mergedH (storedH xs y.1 y.2.1 y.2.2) r).length ≤ xs.length + (r.length + 1)
    omega
theorem mergeH {nm : String} {d o : Addr} {xs more : List (κ × Addr × Value)} {Q : Unit → Shared → Prop} (hu : knd.room A) (hdo : d ≠ o) (hoS : (o == sysModules) = false)
    (hd : s.heap.DictOfH knd d xs) (ho : s.heap.DictOfH knd o more) (hemp : xs = [] → more = [])
    (hQ : ∀ h', h'.DictOfH knd d (mergedH xs more) → Heap.SameBut d s.heap h' → Q () { s with heap := h' }) (hsz : xs.length + more.length ≤ sizeLine) :
    wpAny (model prog w) A (Builtin.Dict.mergeDict nm d o) Q E s := by
  obtain ⟨od, esd, epd, hod, hcd, hdd, hed, hisd, hnd⟩ := id hd
  obtain ⟨oo, eso, epo, hoo, hco, hdo', heo, hiso, hno⟩ := id ho
  have hlen : eso.size = more.length := size_of_entries heo
  have hlend : esd.size = xs.length := size_of_entries hed
  unfold Builtin.Dict.mergeDict
  rw [if_neg (by simpa using hdo)]
  unfold Builtin.Dict.showsAll
  rw [if_neg (by rw [hoS]; exact Bool.false_ne_true)]
  refine wpAny_bind (wpAny_pure ?_)
  refine wpAny_bind (wpAny_dictEntries hoo hdo' ?_)
  dsimp only
  split
  refine wpAny_bind (wpAny_dictEntries hod hdd ?_)
  split
  · rename_i hz
    have h0 : esd = #[] := Array.isEmpty_iff.mp hz
    have hx0 : xs = [] := List.length_eq_zero_iff.mp (by rw [← hlend, h0]; rfl)
    have hm0 := hemp hx0
    subst hx0 hm0
    have he0 : eso = #[] := Array.eq_empty_of_size_eq_zero (by rw [hlen]; rfl)
    subst he0
    refine wpAny_bind (wpAny_entriesForEmpty (knd := intKind prog w) hoo hdo' (fun e he => by simp at he) ?_)
    exact wpAny_pure (hQ _ hd (Heap.SameBut.refl _ _))
  all_goals
    refine wpAny_bind (wpAny_dictEpoch hoo hdo' (wpAny_bind (wpAny_dictEntries hoo hdo' (wpAny_bind ?_))))
    rw [Std.Legacy.Range.forIn_eq_forIn_range']; simp only [Std.Legacy.Range.size, Nat.sub_zero, Nat.add_sub_cancel, Nat.div_one]
    refine wpAny_forIn_list _ (fun rest _ s' => ∃ h' i, s' = { s with heap := h' } ∧ rest = List.range' i (eso.size - i) ∧ i ≤ eso.size ∧ h'.DictOfH knd d (mergedH xs (more.take i)) ∧ Heap.SameBut d s.heap h') _ ?_ ?_ _ _
      ⟨s.heap, 0, rfl, by simp, Nat.zero_le _, by simpa [mergedH] using hd, Heap.SameBut.refl _ _⟩
    · rintro x rest b s' ⟨h', i, rfl, hr, hi, hd', hs'⟩
      have hlt : i < eso.size := by
        rcases Nat.lt_or_ge i eso.size with h | h
        · exact h
        · rw [Nat.sub_eq_zero_of_le h] at hr; cases hr
      obtain ⟨rfl, hrest⟩ : x = i ∧ rest = List.range' (i + 1) (eso.size - (i + 1)) := by
        rw [show eso.size - i = (eso.size - (i + 1)) + 1 by omega, List.range'_succ] at hr
        injection hr with h1 h2
        exact ⟨h1, h2⟩
      have hoo' : h'.get? o = some oo := (hs'.2 o (Ne.symm hdo)).trans hoo
      obtain ⟨y, hy⟩ : ∃ y, more[x]? = some y := ⟨more[x]'(by rw [← hlen]; exact hlt), List.getElem?_eq_getElem _⟩
      obtain ⟨k, a, v⟩ := y
      have hex : eso[x]? = some ⟨knd.hash k, .ref a, v⟩ := by rw [entry_at heo x, hy]; rfl
      have hka : knd.is h' k a := knd.keeps (hiso _ (List.mem_of_getElem? hy)) hod hdd hs'
      refine wpAny_bind (wpAny_dictEntries (s := { s with heap := h' }) hoo' hdo' ?_)
      rw [hex]
      have hmx : (mergedH xs (more.take x)).length ≤ sizeLine := by
        have e1 := mergedH_len (more.take x) xs
        have e2 : (more.take x).length ≤ more.length := by rw [List.length_take]; omega
        omega
      refine wpAny_bind (wpAny_holding (setHashedH (s := { s with heap := h' }) hu hka hd' (fun h'' hd'' hs'' => ?_) hmx))
      have hoo'' : h''.get? o = some oo := (hs''.2 o (Ne.symm hdo)).trans hoo'
      refine wpAny_bind (wpAny_dictEpoch (s := { s with heap := h'' }) hoo'' hdo' ?_)
      rw [if_neg (by simp)]
      exact wpAny_pure ⟨h'', x + 1, rfl, hrest, hlt, by rw [mergedH_snoc xs more x (k, a, v) hy]; exact hd'', hs'.trans hs''⟩
    · rintro b s' ⟨h', i, rfl, hr, hi, hd', hs'⟩
      have hin : i = eso.size := by
        rcases Nat.lt_or_ge i eso.size with h | h
        · rw [show eso.size - i = (eso.size - (i + 1)) + 1 by omega, List.range'_succ] at hr; cases hr
        · exact Nat.le_antisymm hi h
      refine wpAny_pure (hQ h' ?_ hs')
      rw [hin, hlen, List.take_length] at hd'
      exact hd'
theorem meets_updateH (knd : HeapKind prog w κ) (d o : Addr) (hdo : d ≠ o) (hoS : (o == sysModules) = false) :
    MeetsIn prog w (Builtin.«dict.update» ⟨[.ref d, .ref o], []⟩) (fun A R s => ∃ xs more, knd.room A.in1 ∧ s.heap.DictOfH knd d xs ∧ s.heap.DictOfH knd o more ∧ (xs = [] → more = []) ∧ xs.length + more.length ≤ sizeLine ∧
      ∀ h', h'.DictOfH knd d (mergedH xs more) → Heap.SameBut d s.heap h' → R (.ok (.ret .none)) { s with heap := h' }) :=
  .of_wp fun A R s ⟨xs, more, hu, hd, ho, hemp, hsz, h⟩ => by
    unfold Builtin.«dict.update»
    refine wpAny_bind ?_
    unfold Builtin.Dict.selfAndRest
    refine wpAny_bind (wpAny_notOrdered_dict hd.typeIs (wpAny_pure ?_))
    show wpAny _ _ (Builtin.Dict.updateFrom "dict.update" d (.ref o) [] .none) _ _ s
    unfold Builtin.Dict.updateFrom
    refine wpAny_bind (wpAny_typeOf ho.typeIs ?_)
    rw [if_neg (by decide)]
    refine wpAny_bind ?_
    unfold Builtin.Dict.merge
    refine wpAny_bind ?_
    unfold Builtin.Dict.readDirectly
    refine wpAny_bind (wpAny_isInstance ho.typeIs isSubtype_dict_dict ?_)
    simp only [Bool.not_true, Bool.false_eq_true, if_false]
    refine wpAny_bind (wpAny_specialOf ho.typeIs F.slot_dict_iter.lookup (wpAny_pure ?_))
    simp only [beq_self_eq_true, if_true]
    refine wpAny_bind (wpAny_pure (mergeH hu hdo hoS hd ho hemp (fun h' hd' hs' => ?_) hsz))
    exact wpAny_bind (wpAny_pure (wpAny_pure ⟨.none, rfl, h h' hd' hs'⟩))
end
end L2
namespace L2
open PySem PySem.Spec PyProof.Rows
section
variable {κ : Type} [DecidableEq κ]
theorem map_putAt_off {k : κ} {v : Value} : ∀ {xs : List (κ × Addr × Value)}, ¬ k ∈ xs.map (·.1) → xs.map (putAt k v) = xs
  | [], _ => rfl
  | x :: r, h => by
    have h1 : ¬ x.1 = k := fun e => h (by rw [List.map_cons, e]; exact List.mem_cons_self)
    have h2 : ¬ k ∈ r.map (·.1) := fun m => h (by rw [List.map_cons]; exact List.mem_cons_of_mem _ m)
    rw [List.map_cons, map_putAt_off h2]
    unfold putAt
    rw [if_neg h1]
def zipH (xs ys : List (κ × Addr × Value)) : List (κ × Addr × Value) := List.zipWith (fun x y => (x.1, x.2.1, y.2.2)) xs ys
theorem mergedH_same : ∀ (xs ys pre : List (κ × Addr × Value)), xs.map (·.1) = ys.map (·.1) → ((pre ++ xs).map (·.1)).Nodup → mergedH (pre ++ xs) ys = pre ++ zipH xs ys
  | [], [], pre, _, _ => rfl
  | [], _ :: _, _, h, _ => by simp at h
  | _ :: _, [], _, h, _ => by simp at h
  | x :: xs, y :: ys, pre, h, hn => by
    rw [List.map_cons, List.map_cons] at h
    injection h with h1 h2
    have hn' := hn
    rw [List.map_append, List.map_cons] at hn
    have n1 : ¬ x.1 ∈ pre.map (·.1) := fun m => (List.nodup_append.mp hn).2.2 _ m _ List.mem_cons_self rfl
    have n2 : ¬ x.1 ∈ xs.map (·.1) := (List.nodup_cons.mp (List.nodup_append.mp hn).2.1).1
    have hat : (atKey (pre ++ x :: xs) y.1).isSome = true := by
      unfold atKey
      rw [Option.isSome_map, List.find?_isSome]
      exact ⟨x, by simp, by simp [h1]⟩
    have e : storedH (pre ++ x :: xs) y.1 y.2.1 y.2.2 = (pre ++ [(x.1, x.2.1, y.2.2)]) ++ xs := by
      unfold storedH
      rw [if_pos hat, ← h1, List.map_append, List.map_cons, map_putAt_off n1, map_putAt_off n2]
      have : putAt x.1 y.2.2 x = (x.1, x.2.1, y.2.2) := by unfold putAt; rw [if_pos rfl]
      rw [this, List.append_assoc]
      rfl
    show mergedH (storedH (pre ++ x :: xs) y.1 y.2.1 y.2.2) ys = _
    rw [e, mergedH_same xs ys (pre ++ [(x.1, x.2.1, y.2.2)]) h2 (by
      rw [List.map_append, List.map_append] at *
      simpa using hn'), List.append_assoc]
    rfl
end
theorem KT.keys {H : Hp} : ∀ {kvs : List (List Key × V)} {xs : List (List Key × Addr × Value)}, KT H kvs xs → kvs.map (·.1) = xs.map (·.1)
  | _, _, .nil => rfl
  | _, _, .cons h t => by rw [List.map_cons, List.map_cons, h.1, KT.keys t]
theorem KT.zip {H : Hp} : ∀ {kvs more : List (List Key × V)} {xs ys : List (List Key × Addr × Value)}, KT H kvs xs → KT H more ys → kvs.map (·.1) = more.map (·.1) → KT H more (zipH xs ys)
  | _, _, _, _, .nil, .nil, _ => .nil
  | _, _, _, _, .nil, .cons _ _, h => by simp at h
  | _, _, _, _, .cons _ _, .nil, h => by simp at h
  | _, _, _, _, .cons a s, .cons b t, h => by
    rw [List.map_cons, List.map_cons] at h
    injection h with h1 h2
    refine .cons ⟨?_, ?_, b.2.2⟩ (KT.zip s t h2)
    · show _ = _; rw [← h1]; exact a.1
    · show H _ = _; rw [← h1]; exact a.2.1
section
variable {X : Cx}
def rUpdT : V → List V → Hp → VK → Prop := fun x vs H Q => ∃ d o kvs more, x = .ref d ∧ vs = [.ref o] ∧ d ≠ o ∧ H d = some (.dT kvs) ∧ H o = some (.dT more) ∧ kvs.map (·.1) = more.map (·.1) ∧ kvs.length + more.length ≤ sizeLine ∧ Q .non (upd H d (.dT more))
theorem mt_updT (hu : X.A.units + 1 < cLine) : MtR X "dict.update" rUpdT := by
  intro pins s σ H x vs v us Q I rx rv h
  obtain ⟨d, o, kvs, more, rfl, rfl, hne, hd, ho, hk, hz, q⟩ := h
  cases rx
  obtain ⟨u, rfl, ru⟩ := rv.one
  cases ru
  obtain ⟨z, s1, xs, rel, dd⟩ := dt_of I.hok hd
  obtain ⟨z2, s2, ys, rel2, dd2⟩ := dt_of I.hok ho
  have l1 : kvs.length = xs.length := Paired.length rel
  have l2 : more.length = ys.length := Paired.length rel2
  have lk : kvs.length = more.length := by have := congrArg List.length hk; simpa using this
  have hxy : xs.map (·.1) = ys.map (·.1) := by rw [← rel.keys, ← rel2.keys]; exact hk
  have hnd : (xs.map (·.1)).Nodup := let ⟨_, _, _, _, _, _, _, _, n⟩ := dd; n
  refine call_meetsIn F.slot_dict_update dd.typeIs F.entry_dict_update (F.args_dict_update_2 _ _) (meets_updateH (tupleKind (mixKind X.prog X.w)) d o hne s2)
    ⟨xs, ys, tupleKind_room_in1 hu, dd, dd2, fun e => List.length_eq_zero_iff.mp (by rw [← l2, ← lk, l1, e]; rfl), by omega, fun h' dd' hs => ?_⟩
  rw [show mergedH xs ys = zipH xs ys from mergedH_same xs ys [] hxy hnd] at dd'
  obtain ⟨ob, es, ep, hq, h2, h3, h4, _, h5⟩ := dd'
  refine ⟨.non, _, d_write (ob := .dT more) I (by rw [hd]; exact True.intro) hs ⟨ob, hq⟩ ⟨z2, s1, _, (rel.zip rel2 hk).keeps fun c zs ec => ?_, ob, es, ep, hq, h2, h3, h4, h5⟩, rfl, q⟩
  rw [upd_ne (ne_of ec hd (fun z => nomatch z))]
  exact ec
end
def ModD (P : Program) (w : World) (K : PySem.W.Frag) (a : Addr) (kvs : List (Key × V)) : Prop :=
  ∃ (o : Obj) (es : Array DictEntry) (ep : Nat) (vs : List (Key × Value)), K.lookup a = some o ∧ o.ExactDict ∧ o.data = .dict es ep ∧ KeysOf (mixKind P w) es ∧ Pairs (mixKind P w) es.toList vs ∧ (vs.map (·.1)).Nodup ∧ KV kvs vs
section
variable {X : Cx} {o i : Expr} {pos : Pos} {td ty : TE}
end
def unstar : Expr → Bool
  | .Starred .. => false
  | _ => true
theorem starEach_un {e : Expr} {es : List Expr} {env : Env} (h : unstar e = true) : starEach (e :: es) env = (false, eval e env) :: starEach es env := by
  cases e <;> first | rfl | (exact absurd h (by simp [unstar]))
theorem backTo_un {pos : Pos} {env : Env} : ∀ {es : List Expr}, es.all unstar = true → (backTo pos (starEach es env)).any (·.1) = false
  | [], _ => rfl
  | e :: es, h => by
    rw [List.all_cons, Bool.and_eq_true] at h
    rw [starEach_un h.1]
    show (false || (backTo pos (starEach es env)).any (·.1)) = false
    rw [backTo_un h.2]
    rfl
theorem pa {X : Cx} {e : Expr} {es : List Expr} {te : TE} {t : TA} (ha : PE X e te) (hr : PA X es t) (hs : unstar e = true := by rfl) : PA X (e :: es) (tCons te t) := pa_cons ha hr (starEach_un hs)
theorem pe_cb {X : Cx} {x : Str} {p pos : Pos} {e : Expr} {es : List Expr} {t : TA} {id : String} {r : List V → Hp → VK → Prop} (hc : CallR X (.builtin id) r) (hg : Gl X x) (hm : X.mg x = none) (hv : bootBuiltins x = some (.builtin id)) (ha : PA X (e :: es) t)
    (hn : x ≠ "__name__" := by decide) (hdb : (x == ("__debug__" : Str)) = false := by decide) (h1 : unstar e = true := by rfl) (h2 : es.all unstar = true := by rfl) : PE X (.Call (.Name x p) (e :: es) [] pos) (tCB r t) :=
  pe_callB hc hg hm hv ha hn hdb (starEach_un h1) (backTo_un h2)
structure QSs (X : Cx) (sts : List Stmt) (t : TS) : Prop where
  h : PSs X sts t
section
variable {X : Cx} {st : Stmt} {rest : List Stmt} {t u : TS} {pos : Pos}
theorem qss_nil : QSs X [] tNext := ⟨pss_nil⟩
theorem qss_cons (h1 : PS X st t) (h2 : QSs X rest u) : QSs X (st :: rest) (tSeq t u) := ⟨pss_cons h1 h2.h⟩
theorem qss_one (h1 : PS X st t) : QSs X [st] t := ⟨pss_one h1⟩
theorem qss_never {sts : List Stmt} : QSs X sts tNever := ⟨pss_never⟩
theorem ps_ifq {c : Expr} {a b : List Stmt} {tc : TT} (hc : PT X c tc) (ha : QSs X a t) (hb : QSs X b u) : PS X (.If c a b pos) (tIfS tc t u) := ps_if hc ha.h hb.h
theorem ps_forq {tg iter : Expr} {body : List Stmt} {wi : TI} {g : TG} {tb : TS} (hp : PassesOwn (model X.prog X.w) X.A X.env X.xe) (hc : X.calm = true) (hi : PI X tg iter wi) (hg : PG X tg g) (hb : QSs X body tb)
    (hs : ∀ x, foldedSetIterable iter X.env x = pure x := by intro _; rfl) : PS X (.For tg iter body [] pos) (tFor wi g tb) := ps_for hp hc hi hg hb.h hs
end
section
variable {P : Program} {w : World} {K : PySem.W.Frag} {mg : Str → Option Value} {base : Heap}
theorem Fun.okq {x qual : Str} {st : Stmt} {f : Addr} {fd : FuncData} {N ps : List Str} {k : Nat} {sp : Sp} (F : Fun K x qual st f fd) (S : FnScope N ps (defScope st)) (len : ∀ vs H Q E, sp vs H Q E → vs.length = ps.length)
    (hbody : ∀ (cdv : Value) (A : Around) (outer : List Env) (s : Shared) (H : Hp) (vs : List V) (Q : VK) (E : XK), Room k (A.deeper (envOfC qual (defScope st) s.heap.objs.size f cdv)) → sp vs H Q E →
      ∃ t, QSs (cxOf CX0 P w K mg base N qual (defScope st) f cdv A outer s H E).nox (defBody st) t ∧ t { nx := fun _ H' => Q .non H', rt := Q } (start N vs) H) : FnOk P w K mg base CX0 (k + 1) f fd ps sp :=
  F.ok S len fun cdv A outer s H vs Q E hr h => let ⟨t, h1, h2⟩ := hbody cdv A outer s H vs Q E hr h; ⟨t, h1.h, h2⟩
end
structure DefAt (P : Program) (w : World) (K : PySem.W.Frag) (mg : Str → Option Value) (base : Heap) (k : Nat) (name : Str) (ps : List Str) (sp : Sp) : Prop where
  ex : ∃ f fd, FnOk P w K mg base CX0 k f fd ps sp ∧ mg name = some (.ref f) ∧ PySem.W.keepIn K (.ref f) = true ∧ Binds K fd ps []
structure MethAt (P : Program) (w : World) (K : PySem.W.Frag) (mg : Str → Option Value) (base : Heap) (k : Nat) (C : Addr) (m : Str) (ps : List Str) (sp : Sp) : Prop where
  ex : ∃ f fd, FnOk P w K mg base CX0 k f fd ps sp ∧ Meth K C m f ∧ Binds K fd ps []
structure ClassAt (P : Program) (w : World) (K : PySem.W.Frag) (mg : Str → Option Value) (base : Heap) (k : Nat) (C : Addr) (name : Str) (ps : List Str) (sp : Sp) : Prop where
  ex : ∃ f fd, FnOk P w K mg base CX0 k f fd ps sp ∧ Mk K C f ∧ mg name = some (.ref C) ∧ Binds K fd ps []
section
variable {X : Cx} {k j : Nat} {C : Addr} {name m : Str} {ps : List Str} {sp : Sp} {p pos apos : Pos} {e o : Expr} {es : List Expr} {ta : TE} {t : TA}
theorem pe_def (D : DefAt X.prog X.w X.K X.mg X.base k name ps sp) (hr : Room j X.A) (ha : PA X (e :: es) t) (hj : k ≤ j := by decide) (hg : Gl X name := by rfl) (hdb : (name == ("__debug__" : Str)) = false := by decide)
    (h1 : unstar e = true := by rfl) (h2 : es.all unstar = true := by rfl) :
    PE X (.Call (.Name name p) (e :: es) [] pos) (tCall sp [] E0 t) := by
  obtain ⟨f, fd, F, hm, hk, hb⟩ := D.ex
  exact pe_call F (hr.mono hj) hg hm hk hb .nil pass0 ha hdb (starEach_un h1) (backTo_un h2)
theorem pe_mth {pl : Sem Bool} (ho : PE X o ta) (c : Cls X.K C) (D : MethAt X.prog X.w X.K X.mg X.base k C m ps sp) (hr : Room j X.A) (ha : PA X (e :: es) t) (hj : k ≤ j := by decide)
    (h1 : unstar e = true := by rfl) (h2 : es.all unstar = true := by rfl)
    (ht : eval (.Call (.Attribute o m apos) (e :: es) [] pos) X.env = (do
      let ov ← eval o X.env
      standAt apos.atName
      let (f, first) ← holding [ov] (getMethod ov m pl)
      callWith pos f first (backTo pos (starEach (e :: es) X.env)) (backToKw pos (keywordEach [] X.env))) := by rfl) :
    PE X (.Call (.Attribute o m apos) (e :: es) [] pos) (tMeth C m sp [] E0 ta t) := by
  obtain ⟨f, fd, F, hm, hb⟩ := D.ex
  exact pe_meth ho c hm F (hr.mono hj) hb .nil pass0 ha (starEach_un h1) (backTo_un h2) ht
theorem pe_mk (D : ClassAt X.prog X.w X.K X.mg X.base k C name ps sp) (hr : Room j X.A) (ha : PA X (e :: es) t) (hj : k + 1 ≤ j := by decide) (hg : Gl X name := by rfl) (hdb : (name == ("__debug__" : Str)) = false := by decide)
    (h1 : unstar e = true := by rfl) (h2 : es.all unstar = true := by rfl) :
    PE X (.Call (.Name name p) (e :: es) [] pos) (tMake C sp [] E0 t) := by
  obtain ⟨f, fd, F, hM, hm, hb⟩ := D.ex
  exact pe_make hM F (hr.mono hj) hg hm hb .nil pass0 ha hdb (starEach_un h1) (backTo_un h2)
end
end L2
namespace L2
open PySem PySem.W PySem.Calls PySem.Spec PyProof.Rows
theorem ofPys_ints : ∀ ns : List Int, ofPys (ns.map PyData.int) = ns.map WData.int
  | [] => by simp [ofPys]
  | n :: ns => by
    rw [List.map_cons, List.map_cons, ← ofPys_ints ns]
    simp [ofPys, ofPy]
theorem ofPy_ints (ns : List Int) : ofPy (PyData.list (ns.map PyData.int)) = WData.list (ns.map WData.int) := by
  rw [← ofPys_ints ns]
  simp [ofPy]
theorem low_of {K : Frag} {z : Str} {t tt : Nat} (g : nsIn K mainGlobals "NO_MIRROR" = some (some (.str z t))) (h : t + 1 ≤ tt) : lowT K ≤ tt := by
  unfold lowT
  rw [g]
  exact h
theorem lt_low {K : Frag} {z : Str} {t : Nat} (g : nsIn K mainGlobals "NO_MIRROR" = some (some (.str z t))) : t < lowT K := by
  unfold lowT
  rw [g]
  exact Nat.lt_succ_self t
theorem walkX_of {l : OpenLaw} {n k : Nat} {q : Program} {loose : List Str} {XP : (Str → Option Value) → Heap → Prop} {as0 : List Addr} {K : Params → Frag} {nn tt : Nat} {d : DefRec} {sp : Frag → Sp} {x : Str}
    (hn : l.most = some n) (hn2 : n ≤ sizeLine) (hdf : d.params.defaults = []) (hr : Room k callerA) (hkeys : ∀ P, as0 = (K P).map (·.1)) (hlow : ∀ w : World, lowT (K w.params) ≤ tt)
    (F : ∀ (w : World) (mg : Str → Option Value) (fa : Addr) (h : Heap), (K w.params).In h → h.Ns mainGlobals mg → mg d.name = some (.ref fa) →
      ∃ fd : FuncData, (∀ (s : Shared) (u : Value), BindsTo s fd ⟨[u], []⟩ [(x, u)]) ∧ ∀ base : Heap, (K w.params).In base → base.Ns mainGlobals mg → FnOk l.prog w (K w.params) mg base CX0 k fa fd [x] (sp (K w.params)))
    (hsp : ∀ (K : Frag) (H : Hp) (a : Addr) (ns : List Int), ns.length ≤ n → Only H → SqL K H a (ns.map V.int) → sp K [.ref a] H (fun v _ => v = .bl true) fun _ _ _ => False) :
    WalkX q loose XP (X.obsZ as0) (X.valZ K nn tt) l.row.toRowW d [] (fun f vs => PySem.call f vs) := by
  intro w s₀ s₁ mg mb G y fa o pm cd doc dV kV ho hd hcd hD hmg hg args vals as L hpre hlay hrd hwl hlo
  obtain ⟨a, vs, ns, rfl, rfl, hobj, hints, hlen⟩ := Att.script_of hn hpre hwl
  obtain ⟨_, ZI, _, ZT⟩ := X.z_facts hkeys y
  have KX : (K w.params).In s₁.heap := InK.keeps w _ _ ZI L.keeps
  have htk : tt ≤ s₁.toks := X.script_toks (ns := ns) (by rw [ofPy_ints]; exact L) ZT
  obtain ⟨fd, hb, hF⟩ := F w mg fa _ KX G.T.g hmg
  refine enter_call (codeAny_mono (law_call KX G.T.g G.T.b G.T.builtins G.T.nolimit hg (Nat.le_trans (hlow w) htk) hobj hints (Nat.le_trans hlen hn2) hr hF hb (fun H hO hS => hsp _ H a ns hlen hO hS) fun _ _ _ z => z) fun r s' hq => ?_)
  obtain ⟨rfl, h2, h3, h4⟩ := hq
  refine ⟨.inl ⟨.bool true, .bool true, [], rfl, fun _ => rfl, .bool true, Att.post_true l _, fun _ => ?_⟩, h2, h3, h4⟩
  exact ⟨List.Pairwise.nil, fun _ hm => (nomatch hm)⟩
end L2
namespace L2
open PySem PySem.Spec PyProof.Rows
def RawD (h : Heap) (d : Addr) (es : Array DictEntry) (ep : Nat) : Prop := ∃ o, h.get? d = some o ∧ o.ExactDict ∧ o.data = .dict es ep
section
variable {prog : Program} {w : World} {A : Around} {E : Value → Shared → Prop} {s : Shared} {tb wk : Addr} {es : Array DictEntry} {ep i : Nat}
theorem RawD.ty (x : RawD s.heap tb es ep) : s.TypeIs (.ref tb) "dict" := let ⟨o, ho, hc, _⟩ := x; ⟨o, ho, hc.1⟩
theorem RawD.lt {h : Heap} (x : RawD h tb es ep) : tb < h.objs.size := let ⟨_, ho, _⟩ := x; Heap.lt_size ho
theorem RawD.to {h h' : Heap} (x : RawD h tb es ep) (e : ∀ o, h.get? tb = some o → h'.get? tb = some o) : RawD h' tb es ep := let ⟨o, ho, r⟩ := x; ⟨o, e o ho, r⟩
theorem raw_iter {Q : Value → Shared → Prop} (lo : (tb == sysModules) = false) (x : RawD s.heap tb es ep)
    (q : Q (.ref s.heap.objs.size) { s with heap := s.heap.push { cls := .type "dict_keyiterator", data := .fields #[.ref tb, .int 0 0, .int es.size 0, .int ep 0] } }) :
    wpAny (model prog w) A (pyIter (.ref tb)) Q E s := by
  have ty := x.ty
  obtain ⟨o, g, xc, dat⟩ := x
  apply wpAny_pyIter_slot ty F.slot_dict_iter
  apply wpAny_call_entry F.slot_dict_iter ty F.entry_dict_iter _ (F.args_dict_iter_1 _)
  unfold Builtin.«dict.__iter__» Builtin.Dict.dictSlotNone
  apply wpAny_bind; apply wpAny_bind; apply wpAny_notOrdered_dict ty
  change wpAny _ _ (pure (Value.ref tb)) _ _ s
  apply wpAny_pure
  change wpAny _ _ (Builtin.Dict.showsAll tb >>= _) _ _ s
  rw [show Builtin.Dict.showsAll tb = pure () from by unfold Builtin.Dict.showsAll; rw [lo]; rfl]
  apply wpAny_bind; apply wpAny_pure
  apply wpAny_bind; apply wpAny_dictEntries g dat
  apply wpAny_bind; apply wpAny_dictEpoch g dat
  refine wpAny_bind (wpAny_newObj_type ?_); apply wpAny_pure
  exact ⟨_, rfl, "dict_keyiterator", _, ⟨_, Heap.get?_push_size _ rfl, rfl⟩, F.slot_dict_keyiterator_next.lookup, by simpa [rawInt] using q⟩
theorem raw_next {Q : Option Value → Shared → Prop} (hi : s.heap.IsKeyIter wk tb i es.size ep) (x : RawD s.heap tb es ep) (lt : i < es.size)
    (q : ∀ h', h'.IsKeyIter wk tb (i + 1) es.size ep → Heap.SameBut wk s.heap h' → Q (some es[i].key) { s with heap := h' }) :
    wpAny (model prog w) A (pyNext (.ref wk)) Q E s := by
  have ty := hi.typeIs
  obtain ⟨o, g, xc, dat⟩ := x
  obtain ⟨p, gp, cp, dp⟩ := hi
  have own : Builtin.Dict_items.ownsTuple "dict_keyiterator" = false := by decide
  unfold pyNext
  apply wpAny_bind; apply wpAny_attempt
  apply wpAny_callSpecial?_slot (name := Str.ofString "__next__") ty F.slot_dict_keyiterator_next
  apply wpAny_call_entry F.slot_dict_keyiterator_next ty F.entry_dict_keyiterator_next _ (F.args_dict_keyiterator_next_1 _)
  apply wpAny_bind; apply wpAny_pure; apply wpAny_bind; apply wpAny_bind
  apply wpAny_bind; apply wpAny_typeNameOfWhole_keyiter ty; apply wpAny_pure
  apply wpAny_bind; apply wpAny_fieldsOf gp dp
  simp only [own, Bool.false_eq_true, if_false]
  change wpAny _ _ (if (Value.ref tb == Value.none) = true then _ else _) _ _ s
  rw [show (Value.ref tb == Value.none) = false from rfl]
  simp only [if_false, Bool.false_eq_true]
  apply wpAny_bind; apply wpAny_pure
  apply wpAny_bind; apply wpAny_dictEntries g dat
  rw [if_neg (by simp)]
  apply wpAny_bind; apply wpAny_pure
  apply wpAny_bind; apply wpAny_dictEpoch g dat
  rw [if_neg (by simp)]
  apply wpAny_pure
  have n0 : ¬ ((i : Int) < 0) := by omega
  simp only [n0, if_false, Int.toNat_natCast, Array.getElem?_eq_getElem lt]
  apply wpAny_bind; apply wpAny_bind; apply wpAny_typeNameOfWhole_keyiter ty; apply wpAny_pure
  apply wpAny_bind; apply wpAny_isOneOf_keyiter ty
  change wpAny _ _ (setField (.ref wk) 1 (rawInt ((i : Int) + 1)) >>= _) _ _ s
  refine wpAny_bind (wpAny_setField gp dp (by simp) ?_)
  have ni : (s.heap.update wk (Obj.mapFields (·.setIfInBounds 1 (rawInt ((i : Int) + 1))))).IsKeyIter wk tb (i + 1) es.size ep := by
    refine ⟨_, Heap.get?_update_self _ gp ?_, (Obj.cls_mapFields ..).trans cp, ?_⟩
    · exact Obj.isFreed_of_fields (Obj.data_mapFields dp _)
    · rw [Obj.data_mapFields dp]; simp [rawInt]
  apply wpAny_bind; apply wpAny_holding; apply wpAny_bind
  refine wpAny_isOneOf_keyiter (s := { s with heap := s.heap.update wk (Obj.mapFields (·.setIfInBounds 1 (rawInt ((i : Int) + 1)))) }) ni.typeIs ?_
  change wpAny _ _ (pure es[i].key) _ _ _
  apply wpAny_pure; apply wpAny_pure
  exact ⟨_, rfl, wpAny_pure (q _ ni (Heap.SameBut.update ..))⟩
theorem raw_end {Q : Option Value → Shared → Prop} (quiet : A.handled = none) (hi : s.heap.IsKeyIter wk tb es.size es.size ep) (x : RawD s.heap tb es ep)
    (q : ∀ h', Heap.ExtBut wk s.heap h' → Q none { s with heap := h' }) : wpAny (model prog w) A (pyNext (.ref wk)) Q E s := by
  have ty := hi.typeIs
  obtain ⟨o, g, xc, dat⟩ := x
  obtain ⟨p, gp, cp, dp⟩ := hi
  have own : Builtin.Dict_items.ownsTuple "dict_keyiterator" = false := by decide
  unfold pyNext
  apply wpAny_bind; apply wpAny_attempt
  apply wpAny_callSpecial?_slot (name := Str.ofString "__next__") ty F.slot_dict_keyiterator_next
  apply wpAny_call_entry F.slot_dict_keyiterator_next ty F.entry_dict_keyiterator_next _ (F.args_dict_keyiterator_next_1 _)
  apply wpAny_bind; apply wpAny_pure; apply wpAny_bind; apply wpAny_bind
  apply wpAny_bind; apply wpAny_typeNameOfWhole_keyiter ty; apply wpAny_pure
  apply wpAny_bind; apply wpAny_fieldsOf gp dp
  simp only [own, Bool.false_eq_true, if_false]
  change wpAny _ _ (if (Value.ref tb == Value.none) = true then _ else _) _ _ s
  rw [show (Value.ref tb == Value.none) = false from rfl]
  simp only [if_false, Bool.false_eq_true]
  apply wpAny_bind; apply wpAny_pure
  apply wpAny_bind; apply wpAny_dictEntries g dat
  rw [if_neg (by simp)]
  apply wpAny_bind; apply wpAny_pure
  apply wpAny_bind; apply wpAny_dictEpoch g dat
  rw [if_neg (by simp)]
  apply wpAny_pure
  have n0 : ¬ ((es.size : Int) < 0) := by omega
  simp only [n0, if_false, Int.toNat_natCast, Array.getElem?_eq_none (Nat.le_refl es.size)]
  apply wpAny_bind; apply wpAny_bind; apply wpAny_typeNameOfWhole_keyiter ty; apply wpAny_pure
  change wpAny _ _ (setField (.ref wk) 0 .none >>= _) _ _ s
  refine wpAny_bind (wpAny_setField gp dp (by simp) ?_)
  change wpAny _ _ (newExc (Value.type "StopIteration") [] >>= _) _ _ _
  apply wpAny_bind
  unfold newExc newTuple
  apply wpAny_bind; refine wpAny_newObj_type (hd := by size_fits) ?_
  refine wpAny_bind (m := firstArgMember _ _) ?_
  apply wpAny_of_eq (a := Value.none) (by simp only [firstArgMember]; rfl)
  refine wpAny_newObj_type (hd := by size_fits) ?_
  unfold raiseNew
  apply wpAny_bind; apply wpAny_handled
  rw [show A.in1.handled = none from quiet]
  refine (wpAny_bind (wpAny_pure (wpAny_throw ?_)) : wpAny _ _ _ _ _ _)
  apply wpAny_bind; refine wpAny_isInstance (b := true) (T := "StopIteration") ⟨_, Heap.get?_push_size _ rfl, rfl⟩ isSubtype_stop ?_
  exact wpAny_pure (q _ (((Heap.SameBut.update ..).extBut.push _).push _))
theorem raw_walks (quiet : A.handled = none) (ne : tb ≠ wk) :
    Walks prog w A wk [wk, tb] [wk] es.size (fun j v => ∃ e, es[j]? = some e ∧ v = e.key) (fun j h => h.IsKeyIter wk tb j es.size ep ∧ RawD h tb es ep) where
  sub := by intro b hb; rw [List.mem_singleton.mp hb]; exact List.mem_cons_self
  frame := by
    intro j h h' st k
    exact ⟨st.1.at (k wk List.mem_cons_self), st.2.to (k tb (by simp))⟩
  item := by
    intro j s Q E lt st q
    refine raw_next st.1 st.2 lt fun h' n sb => ?_
    exact q _ h' s.toks ⟨_, Array.getElem?_eq_getElem lt, rfl⟩ ⟨n, st.2.to fun o e => sb.extBut tb o ne e⟩ fun b o hb e => sb.extBut b o (fun z => hb (by simp [z])) e
  done := by
    intro s Q E st q
    refine raw_end quiet st.1 st.2 fun h' sb => ?_
    exact q h' s.toks fun b o hb e => sb b o (fun z => hb (by simp [z])) e
  self := by
    intro j s Q E st q
    exact wpAny_pyIter_keyiter st.1 q
theorem raw_src (lo : (tb == sysModules) = false) : PySem.W.KdlSrc prog w "dict" tb tb es.size (fun j v => ∃ e, es[j]? = some e ∧ v = e.key) (fun h => RawD h tb es ep) where
  type := by intro s x; exact x.ty
  there := by intro h x; exact ⟨x.lt, x.lt⟩
  keep := by intro h h' x k; exact x.to (k tb (.inl rfl))
  notList := rfl
  notTuple := rfl
  hint := by intro A E s Q x q; exact PySem.W.kdl_hint_dict x.ty q
  iter := by
    intro A s quiet x
    refine ⟨_, _, fun E Q q => raw_iter lo x q, raw_walks (ep := ep) quiet (Nat.ne_of_lt x.lt), ?_⟩
    exact ⟨⟨_, Heap.get?_push_size _ rfl, rfl, rfl⟩, x.to fun o e => Heap.get?_push_of_some _ e⟩
end
section
variable {X : Cx}
def AtKeys (H : Hp) : List (List Key) → List Addr → Prop
  | [], [] => True
  | k :: ks, a :: as => H a = some (.tup (k.map kV)) ∧ AtKeys H ks as
  | _, _ => False
theorem atKeys_of {H : Hp} {kvs : List (List Key × V)} {xs : List (List Key × Addr × Value)} (h : KT H kvs xs) : AtKeys H (kvs.map (·.1)) (xs.map (·.2.1)) := by
  induction h with
  | nil => trivial
  | cons hq _ ih => exact ⟨hq.2.1, ih⟩
theorem AtKeys.len {H : Hp} : ∀ {ks : List (List Key)} {as : List Addr}, AtKeys H ks as → as.length = ks.length
  | [], [], _ => rfl
  | _ :: _, _ :: _, h => by rw [List.length_cons, List.length_cons, h.2.len]
  | [], _ :: _, h => h.elim
  | _ :: _, [], h => h.elim
theorem vals_refs : ∀ (as : List Addr), Vals (as.map V.ref) (as.map Value.ref)
  | [] => .nil
  | a :: as => .cons rfl (vals_refs as)
def rListT : List V → Hp → VK → Prop := fun xs H Q => ∃ p kvs, xs = [.ref p] ∧ Rd H p (.dT kvs) ∧ ∀ ads, AtKeys H (kvs.map (·.1)) ads → ∀ l, H l = none → Q (.ref l) (upd H l (.lst (ads.map .ref)))
theorem call_listT (hh : X.A.handled = none) : CallR X (.type "list") rListT := by
  intro pins s σ H xs us Q I r h
  obtain ⟨p, kvs, rfl, hd, q⟩ := h
  obtain ⟨u, rfl, rx⟩ := vals1 r
  cases rx
  obtain ⟨hz, lo, xs, kt, o, es, ep, g, xc, dat, hes, -, -⟩ := dt_rd I.hok hd
  have ak := atKeys_of kt
  have hl : es.size = xs.length := size_of_entries hes
  have hl2 : xs.length = kvs.length := by have := ak.len; simpa using this
  refine with_toks (PySem.W.kdl_call (raw_src lo) hh ⟨o, g, xc, dat⟩ (by omega) fun h' tk acc c kp e io htk => ?_)
  have hacc : acc = ((xs.map (·.2.1)).map Value.ref).toArray := by
    apply Array.ext
    · rw [io.1]; simp [hl]
    · intro j h1 h2
      obtain ⟨e, he, hv⟩ := io.2 j acc[j] (Array.getElem?_eq_getElem h1)
      rw [entry_at hes] at he
      obtain ⟨y, hy, rfl⟩ := Option.map_eq_some_iff.mp he
      rw [hv]
      have hj : j < xs.length := by rw [← hl, ← io.1]; exact h1
      rw [List.getElem?_eq_getElem hj] at hy
      cases hy
      simp [entryOfKey]
  subst hacc
  refine ⟨.ref s.heap.objs.size, _, I.laid (t' := tk) kp ?_ (show ObjOk X.prog X.w _ h' _ (.lst ((xs.map (·.2.1)).map V.ref)) from ⟨by simp; omega, _, c, vals_refs _, e⟩), rfl, q _ ak _ (I.hok.fresh (Nat.le_refl _))⟩
  exact Nat.le_refl _
end
end L2
namespace L2
open PySem PySem.Spec PyProof.Rows
theorem pe_ct {X : Cx} {x : Str} {p pos : Pos} {e : Expr} {es : List Expr} {t : TA} {T : String} {r : List V → Hp → VK → Prop} (hc : CallR X (.type T) r) (hg : Gl X x) (hm : X.mg x = none) (hv : bootBuiltins x = some (.type T)) (ha : PA X (e :: es) t)
    (hn : x ≠ "__name__" := by decide) (hdb : (x == ("__debug__" : Str)) = false := by decide) (h1 : unstar e = true := by rfl) (h2 : es.all unstar = true := by rfl) : PE X (.Call (.Name x p) (e :: es) [] pos) (tCB r t) :=
  pe_callTy hc hg hm hv ha hn hdb (starEach_un h1) (backTo_un h2)
section
variable {X : Cx} {k j : Nat} {C : Addr} {m : Str} {ps : List Str} {sp : Sp} {pos apos : Pos} {o : Expr} {ta : TE}
theorem pe_mth0 {pl : Sem Bool} (ho : PE X o ta) (c : Cls X.K C) (D : MethAt X.prog X.w X.K X.mg X.base k C m ps sp) (hr : Room j X.A) (hj : k ≤ j := by decide)
    (ht : eval (.Call (.Attribute o m apos) [] [] pos) X.env = (do
      let ov ← eval o X.env
      standAt apos.atName
      let (f, first) ← holding [ov] (getMethod ov m pl)
      callWith pos f first (backTo pos (starEach [] X.env)) (backToKw pos (keywordEach [] X.env))) := by rfl) :
    PE X (.Call (.Attribute o m apos) [] [] pos) (tMeth C m sp [] E0 ta tNil) := by
  obtain ⟨f, fd, F, hm, hb⟩ := D.ex
  exact pe_meth0 ho c hm F (hr.mono hj) hb .nil pass0 ht
end
theorem ix_listC {X : Cx} {K : PySem.W.Frag} (eK : X.K = K) : IxR X (rIxL K) := by
  subst eK
  exact ix_list
theorem iteE {A B : Prop} {x y : V} (e : x = y) (h : A) : if decide (x = y) = true then A else B := by rw [decide_eq_true e]; exact h
theorem iteN {A B : Prop} {x y : V} (e : ¬ x = y) (h : B) : if decide (x = y) = true then A else B := by rw [decide_eq_false e]; exact h
theorem comp_list {K : PySem.W.Frag} {a D : Addr} {xs : List V} {T : V → Hp → VK → Prop} {Q : Hp → Prop} {H1 : Hp} (Pv : Nat → List V → Hp → Prop) (hn : xs.length ≤ 1000) (h0 : Pv 0 [] (upd H1 D (.lst [])))
    (hl : ∀ i ys H, i ≤ xs.length → Pv i ys H → SqL K H a xs ∧ H D = some (.lst ys) ∧ ys.length = i)
    (hs : ∀ i x ys H (R : VK), xs[i]? = some x → Pv i ys H → (∀ v H4, H4 D = some (.lst ys) → Pv (i + 1) (ys ++ [v]) (upd H4 D (.lst (ys ++ [v]))) → R v H4) → T x H R)
    (hd : ∀ ys H, Pv xs.length ys H → Q H) :
    ∃ W : Nat → Nat → List V → Hp → Prop, (∃ m, W 0 m [] (upd H1 D (.lst []))) ∧ ∀ i m ys H2, W i m ys H2 → H2 D = some (.lst ys) ∧ (((Itl K a).stop i H2 ∧ Q H2) ∨ ((Itl K a).go i H2 ∧ ys.length < sizeLine ∧
      ∀ x H3, (Itl K a).yld i H2 x H3 → T x H3 fun v H4 => H4 D = some (.lst ys) ∧ ∃ m', m' < m ∧ W (i + 1) m' (ys ++ [v]) (upd H4 D (.lst (ys ++ [v]))))) := by
  refine ⟨fun i m ys H => m = xs.length - i ∧ i ≤ xs.length ∧ Pv i ys H, ⟨xs.length, by simp, Nat.zero_le _, h0⟩, ?_⟩
  rintro i m ys H ⟨rfl, hi, p⟩
  obtain ⟨q, hD, hy⟩ := hl i ys H hi p
  refine ⟨hD, ?_⟩
  by_cases hlt : i < xs.length
  · refine .inr ⟨⟨xs, xs[i], q, by simp [hlt]⟩, small1000 (by omega), fun x H' y => ?_⟩
    obtain ⟨e, y⟩ := y
    subst e
    exact hs i x ys _ _ (y xs q) p fun v H4 h4 p4 => ⟨h4, xs.length - (i + 1), by omega, rfl, hlt, p4⟩
  · have e : i = xs.length := by omega
    subst e
    exact .inl ⟨⟨xs, q, Nat.le_refl _⟩, hd ys H p⟩
theorem comp_range {D : Addr} {n : Nat} {lo : Int} {T : V → Hp → VK → Prop} {Q : Hp → Prop} {H1 : Hp} (Pv : Nat → List V → Hp → Prop) (hn : n ≤ 1000) (h0 : Pv 0 [] (upd H1 D (.lst [])))
    (hl : ∀ i ys H, i ≤ n → Pv i ys H → H D = some (.lst ys) ∧ ys.length = i)
    (hs : ∀ i ys H (R : VK), i < n → Pv i ys H → (∀ v H4, H4 D = some (.lst ys) → Pv (i + 1) (ys ++ [v]) (upd H4 D (.lst (ys ++ [v]))) → R v H4) → T (.int (lo + i)) H R)
    (hd : ∀ ys H, Pv n ys H → Q H) :
    ∃ W : Nat → Nat → List V → Hp → Prop, (∃ m, W 0 m [] (upd H1 D (.lst []))) ∧ ∀ i m ys H2, W i m ys H2 → H2 D = some (.lst ys) ∧ (((Itr lo n).stop i H2 ∧ Q H2) ∨ ((Itr lo n).go i H2 ∧ ys.length < sizeLine ∧
      ∀ x H3, (Itr lo n).yld i H2 x H3 → T x H3 fun v H4 => H4 D = some (.lst ys) ∧ ∃ m', m' < m ∧ W (i + 1) m' (ys ++ [v]) (upd H4 D (.lst (ys ++ [v]))))) := by
  refine ⟨fun i m ys H => m = n - i ∧ i ≤ n ∧ Pv i ys H, ⟨n, by simp, Nat.zero_le _, h0⟩, ?_⟩
  rintro i m ys H ⟨rfl, hi, p⟩
  obtain ⟨hD, hy⟩ := hl i ys H hi p
  refine ⟨hD, ?_⟩
  by_cases hlt : i < n
  · refine .inr ⟨hlt, small1000 (by omega), fun x H' y => ?_⟩
    obtain ⟨e, e'⟩ := y
    subst e e'
    exact hs i ys _ _ hlt p fun v H4 h4 p4 => ⟨h4, n - (i + 1), by omega, rfl, hlt, p4⟩
  · have e : i = n := by omega
    subst e
    exact .inl ⟨Nat.le_refl _, hd ys H p⟩
end L2
namespace L2
open PySem PySem.Spec PyProof.Rows
section
variable {X : Cx} {pins : List (Addr × Obj)} {σ : St} {H : Hp} {s : Shared} {x : Str} {fvs : List (Str × Nat)} {scope : Scope} {cl : List (Str × Addr)} {fp : List Addr}
theorem comp_core {px : Pos} {iter elt : Expr} {pos ps : Pos} {wi : TI} {te : TE} {use : Option (Value → Sem Unit)} {QQ : Value → Shared → Prop} {Q : VK} (hc : X.calm = true) (hclos : closureFor scope X.env = pure cl) (hkind : scope.kind = .function)
    (hcell : ∀ y ∈ scope.names, y.2 ≠ .cell) (hnames : ∀ y ∈ scope.names, y.2 = .local → scope.names.lookup y.1 = some .local) (hx : scope.names.lookup x = some .local)
    (hcl : ClOk X cl) (hhas : ((relabel scope X.env).names.all fun p => (p.2 != .cell && p.2 != .free) || (cl.lookup p.1).isSome) = true) (hfv : FvOk X scope fvs)
    (hnd : (x :: fvs.map (·.1)).Nodup)
    (hi : PI X (.Name x px) iter wi) (he : ∀ (C : Addr) (s : Shared) (H : Hp) (fp : List Addr), PE (cxComp X (x :: fvs.map (·.1)) scope cl C s H fp) elt te)
    (hs : ∀ v, foldedSetIterable iter X.env v = pure v) (I : Inv X pins σ H s) (h : tComp wi fvs te σ H Q)
    (fin : ∀ (D C : Addr) (m : Str → Option Value) (s4 : Shared) (H3 : Hp), s4.heap.Ns C m → H3 C = none → C ≠ X.env.locals → X.s₀.heap.objs.size ≤ C → (∀ y c, X.env.cells.lookup y = some c → c ≠ C) → (∀ p ∈ X.pn ++ pins, p.1 ≠ C) →
      (∀ h', Heap.SameBut C s4.heap h' → Inv X pins σ H3 { s4 with heap := h' }) → Q (.ref D) H3 → compPost (model X.prog X.w) X.A X.xe use QQ (.ref D) C (.ok .next) s4) :
    wpAny (model X.prog X.w) X.A (comprehension (.ListComp elt [⟨.Name x px, iter, [], 0⟩] scope pos) scope X.env ps (newList []) false (eval iter X.env) use) QQ X.xe s := by
  have hcl' := hcl.look
  have hhas' : ∀ y, ((relabel scope X.env).names.lookup y = some .cell ∨ (relabel scope X.env).names.lookup y = some .free) → ∃ c, cl.lookup y = some c := fun y hy => by
    have aux : ∀ k, (k = NameKind.cell ∨ k = .free) → (relabel scope X.env).names.lookup y = some k → ∃ c, cl.lookup y = some c := fun k hk e => by
      have hm := List.all_eq_true.mp hhas _ (PySem.mem_of_lookup e)
      have : (cl.lookup y).isSome = true := by
        rcases hk with rfl | rfl <;> simpa using hm
      exact Option.isSome_iff_exists.mp this
    rcases hy with e | e
    · exact aux _ (.inl rfl) e
    · exact aux _ (.inr rfl) e
  refine wpAny_comprehension_free (use := use) rfl hs hclos hkind hnames (wpAny_mono (hi pins s σ H _ I h) (fun v s1 h1 => wpAny_mono h1 (fun itv s2 h2 => ?_) fun _ _ e => e) fun _ _ e => e)
  obtain ⟨it, fp, tn, J, H2, e, I2, T, st2, f2, h2⟩ := h2
  subst e
  refine wpAny_newObj_type (wpAny_newFunctionEnv hcell (by intro y hy; simp at hy) (fun h₁ hns hsb => ?_) hkind)
  dsimp only at hns hsb ⊢
  generalize hH2 : s2.heap.push { cls := .type "list", dict := none, data := .seq ([] : List Value).toArray } = Hp2 at hns hsb ⊢
  have hCsz : Hp2.objs.size = s2.heap.objs.size + 1 := by rw [← hH2, Heap.size_push]
  have hlt : s2.heap.objs.size < Hp2.objs.size := by rw [hCsz]; exact Nat.lt_succ_self _
  have old : ∀ b o, s2.heap.get? b = some o → h₁.get? b = some o := fun b o e =>
    hsb.extBut b o (Nat.ne_of_lt (Nat.lt_trans (Heap.lt_size e) hlt)) (Heap.get?_push_of_some _ (hH2 ▸ Heap.get?_push_of_some _ e))
  have hD : h₁.get? s2.heap.objs.size = some { cls := .type "list", data := .seq #[] 0 } :=
    hsb.extBut _ _ (Nat.ne_of_lt hlt) (Heap.get?_push_of_some _ (hH2 ▸ Heap.get?_push_size _ rfl))
  have hfp : ∀ b ∈ fp, ∃ o, s2.heap.get? b = some o := fun b hb => let ⟨o, e, _⟩ := T.obj 0 _ st2 b hb; ⟨o, e⟩
  have st1 : tn 0 h₁ := T.keep 0 _ _ st2 fun b _ o e => old b o e
  have J0 := comp_start (x := x) (tk := s2.toks + ([] : List (Str × Value)).length) I2 f2 hfp hlt hkind hcl' hhas' hfv old hD (by simpa using hns)
  have freshD : H2 s2.heap.objs.size = none := I2.hok.fresh (Nat.le_refl _)
  obtain ⟨W, ⟨m0, w0⟩, turn⟩ := h2 s2.heap.objs.size freshD
  generalize hXC : cxComp X (x :: fvs.map (·.1)) scope cl Hp2.objs.size s2 H2 fp = XC at J0
  have fpC : ∀ {H' : Hp}, (∀ b ∈ fp, H' b = none) → ∀ b ∈ fp, FpOk XC [] H' b := fun {H'} hn b hb => by
    subst hXC
    obtain ⟨o, eo⟩ := hfp b hb
    refine ⟨hn b hb, Nat.ne_of_lt (Nat.lt_trans (Heap.lt_size eo) hlt), fun z => ?_, .inl hb, fun y c e => (f2 b hb).2.2.2.2.1 y c (hcl' y c e), fun p hp => absurd (show p ∈ ([] : List (Addr × Obj)) from hp) (by simp)⟩
    rcases List.mem_cons.mp (I2.stkSub b z) with e | e
    · exact (f2 b hb).2.1 e
    · exact (f2 b hb).2.2.1 e
  have fpU : ∀ b ∈ fp, upd H2 s2.heap.objs.size (.lst []) b = none := fun b hb => by
    obtain ⟨o, eo⟩ := hfp b hb
    rw [upd_ne (Nat.ne_of_lt (Heap.lt_size eo))]
    exact (f2 b hb).1
  have loop : codeAny (model X.prog X.w) X.A (.compLoop (.ListComp elt [⟨.Name x px, iter, [], 0⟩] scope pos) 0 (.ref it) (.ref s2.heap.objs.size) (compEnvC scope cl Hp2.objs.size X.env))
      (compPost (model X.prog X.w) X.A X.xe use QQ (.ref s2.heap.objs.size) Hp2.objs.size) { s2 with heap := h₁, toks := s2.toks + ([] : List (Str × Value)).length } := by
    refine codeAny_compLoop_list (fun n s' => ∃ i ys H', Inv XC [] (compσ σ fvs) H' s' ∧ tn i s'.heap ∧ (∀ b ∈ fp, H' b = none) ∧ W i n ys H') ?_ m0 ⟨0, [], _, J0, st1, fpU, w0⟩
    rintro n s3 ⟨i, ys, H3, I3, st3, fr3, w3⟩
    obtain ⟨hD3, alt⟩ := turn i n ys H3 w3
    have hprog : XC.prog = X.prog := by subst hXC; rfl
    have hw : XC.w = X.w := by subst hXC; rfl
    have hK : XC.K = X.K := by subst hXC; rfl
    have hA : XC.A = X.A := by subst hXC; rfl
    have hcalm : XC.calm = true := by subst hXC; exact hc
    have hN : XC.N = x :: fvs.map (·.1) := by subst hXC; rfl
    have henv : XC.env = compEnvC scope cl Hp2.objs.size X.env := by subst hXC; rfl
    have hxl : (relabel scope X.env).names.lookup x = some .local := lookup_relabel_local hx
    rcases alt with ⟨stop, q⟩ | ⟨go, hlen, step⟩
    · have q1 := T.done XC hprog hw hK hcalm i [] s3 _ H3 (fun _ _ => False) I3 (fpC fr3) st3 stop
      rw [hA] at q1
      refine wpAny_mono q1 (fun r s4 ⟨hr, I4⟩ => ?_) fun _ _ z => z.elim
      subst hr
      obtain ⟨m, hm, _⟩ := I4.loc
      rw [henv] at hm
      have ub := I4.base
      have e1 : XC.fs = frs X.stack := by subst hXC; rfl
      have e2 : XC.ex = fp := by subst hXC; rfl
      have e3 : XC.H₀ = H2 := by subst hXC; rfl
      have e4 : XC.s₀ = s2 := by subst hXC; rfl
      have tk4 : s2.toks ≤ s4.toks := by have z := I4.tk; rw [e4] at z; exact z
      have fC : H3 Hp2.objs.size = none := by have := I4.free; rw [henv] at this; exact this
      rw [e1, e2, e3, e4] at ub
      have ne : ∀ b o, s2.heap.get? b = some o → b ≠ Hp2.objs.size := fun b o e => Nat.ne_of_lt (Nat.lt_trans (Heap.lt_size e) hlt)
      have hok4 : HOk X.prog X.w H3 s4.heap := by have := I4.hok; rw [hprog, hw] at this; exact this
      refine fin _ Hp2.objs.size m s4 H3 hm fC (fun z => absurd (Nat.lt_trans I2.lt hlt) (by rw [← z]; exact Nat.lt_irrefl _)) (Nat.le_trans I2.sz (Nat.le_of_lt hlt)) (fun y c e z => ?_) (fun p hp z => ?_) (fun h' hs' => ?_) q
      · obtain ⟨v, qc⟩ := I2.cell y c e
        exact absurd (Nat.lt_trans qc.lt hlt) (by rw [← z]; exact Nat.lt_irrefl _)
      · exact absurd (Nat.lt_trans (Heap.lt_size (I2.pin p hp).1) hlt) (by rw [← z]; exact Nat.lt_irrefl _)
      · refine I2.call' (s' := { s4 with heap := h' }) (ch := fp) (by show s4.os = s2.os; have := I4.os; rw [e4] at this; exact this) ?_ ?_ I4.bare fun b hb => ⟨(f2 b hb).2.2.2.1, (f2 b hb).2.1, (f2 b hb).2.2.2.2.1, (f2 b hb).2.2.2.2.2⟩
        · exact ⟨fun b o e n h1 h2 => (hs'.2 b (ne b o e)).trans (ub.keep b o e n h1 h2), fun b o e n h1 h2 => let ⟨sl, z⟩ := ub.slot b o e n h1 h2; ⟨sl, (hs'.2 b (ne b o e)).trans z⟩, ub.free,
            fun b o e h1 => let ⟨o', z⟩ := ub.there b o e h1; ⟨o', (hs'.2 b (ne b o e)).trans z⟩, ub.tups, ub.frzs, ub.tbls⟩
        · exact fun a o e => (hok4 a o e).stay (fun b u hb q => (hs'.2 b (fun z => by
            subst z
            rcases hb with rfl | hb
            · rw [fC] at e; cases e
            · rw [fC] at hb; cases hb)).trans q) (fun _ q => q) fun _ _ q => q
    · have q1 := T.item XC hprog hw hK hcalm i [] s3 _ H3 (fun _ _ => False) I3 (fpC fr3) st3 go
      rw [hA] at q1
      refine wpAny_mono q1 (fun r s4 ⟨u, hr, h4⟩ => ?_) fun _ _ z => z.elim
      subst hr
      dsimp only
      refine then_pure (a := ()) h4 fun ⟨y, H5, I5, r5, y5, st5, fr5⟩ => ?_
      have I5' := I5.pinned (fpC fr5) (T.obj _ _ st5)
      have q2 := pg_name (X := XC) (i := 0) (x := x) (pos := px) (by rw [hN]; exact hnd) (by rw [hN]; rfl) (.inl (by rw [henv]; exact hxl)) (.inr (by rw [henv]; exact hxl)) _ s4 _ H5 y u (fun σ6 H6 => σ6 = (compσ σ fvs).set 0 (some y) ∧ te σ6 H6 fun v H4 => H4 s2.heap.objs.size = some (.lst ys) ∧ ∃ m', m' < n ∧ W (i + 1) m' (ys ++ [v]) (upd H4 s2.heap.objs.size (.lst (ys ++ [v])))) I5' r5 ⟨rfl, step y H5 y5⟩
      rw [hprog, hw, hA, henv] at q2
      refine wpAny_mono q2 (fun _ s6 ⟨σ6, H6, I6, q6σ, q6⟩ => ?_) fun _ _ z => (by subst hXC; exact z.elim)
      have q3 := he Hp2.objs.size s2 H2 fp
      rw [hXC] at q3
      have q4 := q3 _ s6 σ6 H6 _ I6 q6
      rw [hprog, hw, hA, henv] at q4
      refine wpAny_mono q4 (fun v s7 ⟨y7, H7, I7, r7, d7, m', hm', w7⟩ => ?_) fun _ _ z => (by subst hXC; exact z.elim)
      have q5 := mt_append (X := XC) _ s7 σ6 H7 (.ref s2.heap.objs.size) [y7] (.ref s2.heap.objs.size) [v] (fun _ H8 => H8 = upd H7 s2.heap.objs.size (.lst (ys ++ [y7]))) I7 rfl (.cons r7 .nil) ⟨_, ys, y7, rfl, rfl, d7, hlen, rfl⟩
      rw [hprog, hw, hA] at q5
      refine wpAny_mono q5 (fun _ s8 ⟨_, H8, I8, _, e8⟩ => ?_) fun _ _ z => (by subst hXC; exact z.elim)
      subst e8
      refine ⟨m', hm', i + 1, ys ++ [y7], _, ?_, T.keep _ _ _ st5 fun b hb o e => (I8.pin (b, o) (List.mem_append_right _ (List.mem_append_right _ (mem_pinsAt hb e)))).1, fun b hb => ?_, w7⟩
      · refine I8.unpinned.weak ?_ fun j v' ej => ?_
        · rw [q6σ, List.length_set]
        · rw [q6σ]
          cases j with
          | zero => cases ej
          | succ j => rw [List.getElem?_set_ne (by omega)]; exact ej
      · obtain ⟨o, e, d⟩ := T.obj _ _ st5 b hb
        exact (I8.pin (b, o) (List.mem_append_right _ (List.mem_append_right _ (mem_pinsAt hb e)))).2.1
  refine codeAny_compStart_list loop (T.self X.A 0 _ _ _ st1 loop)
theorem ps_setComp {i : Nat} {y : Str} {px pos' spos : Pos} {iter elt : Expr} {pos : Pos} {wi : TI} {te : TE} (hN : X.N.Nodup) (hyi : X.N[i]? = some y) (hy : Loc X.env.scope y) (hc : X.calm = true) (hclos : closureFor scope X.env = pure cl) (hkind : scope.kind = .function)
    (hcell : ∀ y ∈ scope.names, y.2 ≠ .cell) (hnames : ∀ y ∈ scope.names, y.2 = .local → scope.names.lookup y.1 = some .local) (hx : scope.names.lookup x = some .local)
    (hcl : ClOk X cl) (hhas : ((relabel scope X.env).names.all fun p => (p.2 != .cell && p.2 != .free) || (cl.lookup p.1).isSome) = true) (hfv : FvOk X scope fvs)
    (hnd : (x :: fvs.map (·.1)).Nodup)
    (hi : PI X (.Name x px) iter wi) (he : ∀ (C : Addr) (s : Shared) (H : Hp) (fp : List Addr), PE (cxComp X (x :: fvs.map (·.1)) scope cl C s H fp) elt te)
    (hsw : swapsWith (.ListComp elt [⟨.Name x px, iter, [], 0⟩] scope pos) (some (.Name y pos')) spos.line X.env = pure true := by rfl)
    (hf : X.fn y = true ∨ X.env.scope.names.lookup y = some .local := by first | exact .inl rfl | exact .inr rfl)
    (hs : ∀ v, foldedSetIterable iter X.env v = pure v := by intro _; rfl) : PS X (.Assign [.Name y pos'] (.ListComp elt [⟨.Name x px, iter, [], 0⟩] scope pos) spos) (tAsg (tComp wi fvs te) (gName i)) := by
  intro pins s σ H D I h
  rw [exec_Assign_Name_used (env := X.env) y pos' _ spos hsw]
  refine wpAny_bind (wpAny_standAt (wpAny_bind (wpAny_bind ?_)))
  refine comp_core hc hclos hkind hcell hnames hx hcl hhas hfv hnd hi he hs I h fun DD C m s4 H3 hm fC hL hsz hcc hpp inv q => ?_
  have I4 : Inv X pins σ H3 s4 := inv s4.heap (Heap.SameBut.refl _ _)
  show wpAny _ _ (assign (.Name y pos') X.env (.ref DD)) _ _ s4
  refine wpAny_assign_Name (store_ok2 I4 hN hyi hy (show RelV (.ref DD) (.ref DD) from rfl) (fun s5 I5 ⟨b, sb, hb⟩ => ?_) hf)
  have nb : C ≠ b := by
    rcases hb with z | z
    · rw [z]; exact hL
    · exact fun e => hcc _ _ z e.symm
  have hm5 : s5.heap.Ns C m := by
    obtain ⟨o, es, ep, ho, r⟩ := hm
    exact ⟨o, es, ep, (sb.2 C nb).trans ho, r⟩
  refine ⟨m, hm5, fun h' hs' => wpAny_pure (wpAny_pure ?_)⟩
  exact ⟨_, H3, I5.turned (t' := s5.toks) (it := C) (fun b o hb e => (hs'.2 b hb).trans e) fC hL (.inr hsz) hcc hpp, q⟩
end
end L2
namespace L2
open PySem PySem.Spec PyProof.Rows
end L2
namespace L2
open PySem PySem.Spec PyProof.Rows
section
variable {X : Cx}
def repS (z : Str) (n : Nat) : Str := ⟨(List.replicate n z.cps).foldl (· ++ ·) #[]⟩
theorem repS_toList (z : Str) (n : Nat) : (repS z n).cps.toList = (List.replicate n z.cps.toList).flatten := by
  have gen : ∀ (n : Nat) (acc : Array Nat), ((List.replicate n z.cps).foldl (· ++ ·) acc).toList = acc.toList ++ (List.replicate n z.cps.toList).flatten := by
    intro n
    induction n with
    | zero => intro acc; simp
    | succ n ih => intro acc; rw [List.replicate_succ, List.foldl_cons, ih, List.replicate_succ, List.flatten_cons]; simp
  have := gen n #[]
  simpa [repS] using this
theorem repS_length (z : Str) (n : Nat) : (repS z n).length = n * z.length := by
  show (repS z n).cps.size = n * z.cps.size
  rw [← Array.length_toList, repS_toList, len_rep, Array.length_toList]
def rRepS : R2 := fun x y H Q => ∃ (z : Str) (n : Nat), x = .str z ∧ y = .int (n : Int) ∧ n ≤ 1000 ∧ 0 < z.length ∧ z.length ≤ 1000 ∧ Q (.str (repS z n)) H
theorem op_repS : OpR X (binaryOp .Mult) rRepS := by
  intro pins s σ H x y v u Q I rx ry h
  obtain ⟨z, n, rfl, rfl, hn, hz0, hz, q⟩ := h
  obtain ⟨t, rfl⟩ := rx
  obtain ⟨t', rfl⟩ := ry
  have hm : z.length * n ≤ 1000 * 1000 := Nat.mul_le_mul hz hn
  have hm' : (z.length : Int) * (n : Int) ≤ 1000000 := by
    have : ((z.length * n : Nat) : Int) ≤ 1000000 := by omega
    rw [Int.natCast_mul] at this
    exact this
  refine PySem.P.mul_str (by rw [decide_eq_false (by omega), decide_eq_false (by omega)]; rfl) (fun h1 _ => ?_) (fun h1 _ => ?_) ?_
  · have : (z.length : Int) ≤ (2 ^ 63 - 1) / (n : Int) := Int.le_ediv_of_mul_le (by omega) (by omega)
    omega
  · rw [Int.toNat_natCast]
    unfold Builtin.Str.tooLong
    rw [sizeLine_eq]
    exact decide_eq_false (by omega)
  · by_cases h1 : (n : Int) < 1
    · rw [if_pos h1]
      have : n = 0 := by omega
      subst this
      exact ⟨by decide, .str _, H, I.tok _, ⟨_, rfl⟩, q⟩
    · rw [if_neg h1]
      by_cases h2 : n = 1
      · subst h2
        have e : repS z 1 = z := by
          show (⟨#[] ++ z.cps⟩ : Str) = z
          simp
        rw [e] at q
        rw [if_pos (by simp)]
        exact ⟨.str z, H, I, ⟨_, rfl⟩, q⟩
      · have : ¬ (((n : Int) == 1 || z.length == 0) = true) := by
          simp
          omega
        rw [if_neg this, Int.toNat_natCast]
        refine ⟨?_, .str (repS z n), H, I.tok _, ⟨_, rfl⟩, q⟩
        show (repS z n).length ≤ sizeLine
        rw [repS_length, sizeLine_eq, Nat.mul_comm]
        omega
def oneS (c : Nat) : V := .str ⟨#[c]⟩
theorem vals_signs : ∀ (cs : List Nat) (vs : List Value), vs.length = cs.length → (∀ (j : Nat) (v : Value), vs[j]? = some v → ∃ c u, cs[j]? = some c ∧ v = .str ⟨#[c]⟩ u) → Vals (cs.map oneS) vs
  | [], [], _, _ => .nil
  | [], _ :: _, h, _ => by simp at h
  | _ :: _, [], h, _ => by simp at h
  | c :: cs, v :: vs, h, hv => by
    obtain ⟨c', u, e1, e2⟩ := hv 0 v rfl
    cases e1
    refine .cons ⟨u, e2⟩ (vals_signs cs vs (by simpa using h) fun j w e => ?_)
    exact hv (j + 1) w (by simpa using e)
theorem call_listS (hh : X.A.handled = none) : CallR X (.type "list") (fun xs H Q => ∃ z : Str, xs = [.str z] ∧ z.length ≤ 1000 ∧ ∀ l, H l = none → Q (.ref l) (upd H l (.lst (z.cps.toList.map oneS)))) := by
  intro pins s σ H xs us Q I r h
  obtain ⟨z, rfl, hz, q⟩ := h
  obtain ⟨u, rfl, ru⟩ := vals1 r
  obtain ⟨t, rfl⟩ := ru
  have hz' : z.cps.size ≤ 1000 := hz
  refine with_toks (call_list_str hh z t (fun h' tk acc c hk hS hacc ht => ?_) (Nat.le_of_lt (small1000 hz')))
  refine ⟨.ref s.heap.objs.size, _, I.laid (t' := tk) hk (Nat.le_refl _) (show ObjOk X.prog X.w _ h' _ (.lst (z.cps.toList.map oneS)) from ⟨?_, acc.toList, c, ?_, by simpa using hS⟩), rfl, q _ I.fresh⟩
  · rw [List.length_map, Array.length_toList]
    exact Nat.le_of_lt (small1000 hz')
  · refine vals_signs _ _ (by rw [Array.length_toList, Array.length_toList]; exact hacc.1) fun j v e => ?_
    obtain ⟨c', u', e1, e2⟩ := hacc.2 j v (by simpa using e)
    exact ⟨c', u', by simpa using e1, e2⟩
theorem strs_are : ∀ {ys : List Str} {us : List Value}, Vals (ys.map V.str) us → StrsAre us ys
  | [], _, h => by cases h; exact .nil
  | y :: ys, _, h => by
    cases h with
    | cons a t =>
      obtain ⟨tk, rfl⟩ := a
      exact .cons y tk (strs_are t)
def rJoin : V → List V → Hp → VK → Prop := fun x vs H Q => ∃ (sep : Str) (l : Addr) (ys : List Str), x = .str sep ∧ vs = [.ref l] ∧ H l = some (.lst (ys.map V.str)) ∧ sep.length ≤ 16 ∧ (ys.map (·.length)).sum + ys.length ≤ 1048576 ∧ Q (.str (Txt.join sep ys)) H
theorem mt_join : MtR X "str.join" rJoin := by
  intro pins s σ H x vs v us Q I rx rv h
  obtain ⟨sep, l, ys, rfl, rfl, hH, hs, hw, q⟩ := h
  obtain ⟨t, rfl⟩ := rx
  obtain ⟨u, rfl, ru⟩ := rv.one
  cases ru
  obtain ⟨z, its, n, r, hl, e⟩ := I.lstM hH
  exact with_toks (join_listW (s := s) ⟨_, e, rfl, _, rfl⟩ (by simpa using strs_are r) hs hw fun t' k ht => ⟨.str _, H, I.tok k ht, ⟨_, rfl⟩, q⟩)
theorem pe_bmC {K : PySem.W.Frag} {o e : Expr} {es : List Expr} {to : TE} {t : TA} {name : Str} {apos cpos : Pos} {T id : String} {r : V → List V → Hp → VK → Prop} (eK : X.K = K) (pa : PlainAttrs T) (slot : Slot T name id) (hty : typeOf (.builtin id) = pure (.type "method_descriptor")) (hm : MtR X id r) (ho : PE X o to) (ha : PA X (e :: es) t)
    (hbase : attributeBase o name X.env (eval o X.env) = eval o X.env := by rfl)
    (hfew : ((backTo cpos (starEach (e :: es) X.env)).all (fun x => !x.1) && (backToKw cpos (keywordEach [] X.env)).all (fun x => x.1.isSome)
      && decide ((e :: es).length + ([] : List Keyword).length + (if ([] : List Keyword).isEmpty then 0 else 1) < 30)) = true := by rfl)
    (hline : (apos.endLine == cpos.line) = true := by rfl) (hs : starEach (e :: es) X.env = (false, eval e X.env) :: starEach es X.env := by rfl) (hplain : (backTo cpos (starEach es X.env)).any (·.1) = false := by rfl) :
    PE X (.Call (.Attribute o name apos) (e :: es) [] cpos) (tBM K T r to t) := by
  subst eK
  exact pe_bm pa slot hty hm ho ha hbase hfew hline hs hplain
end
end L2
namespace Sl
open PySem
theorem join_cons2 (s p q : Str) (r : List Str) : (Str.join s (p :: q :: r)).cps.toList = p.cps.toList ++ (s.cps.toList ++ (Str.join s (q :: r)).cps.toList) := by
  show (p ++ s ++ Str.join s (q :: r)).cps.toList = _
  simp only [Str.cps_append, Array.toList_append, List.append_assoc]
def sub1 (c d k : Nat) : Nat := if k = c then d else k
theorem map_sub1_free (c d : Nat) : ∀ l : List Nat, c ∉ l → l.map (sub1 c d) = l
  | [], _ => rfl
  | k :: r, h => by
    rw [List.map_cons, map_sub1_free c d r fun m => h (List.mem_cons_of_mem _ m)]
    unfold sub1
    rw [if_neg (fun e : k = c => h (e ▸ List.mem_cons_self))]
theorem join_sub1 (c d : Nat) : ∀ parts : List Str, (∀ p ∈ parts, c ∉ p.cps.toList) → (Str.join ⟨#[d]⟩ parts).cps.toList = (Str.join ⟨#[c]⟩ parts).cps.toList.map (sub1 c d)
  | [], _ => rfl
  | [p], h => (map_sub1_free c d _ (h p List.mem_cons_self)).symm
  | p :: q :: r, h => by
    rw [join_cons2, join_cons2, List.map_append, List.map_append, ← join_sub1 c d (q :: r) fun a ha => h a (List.mem_cons_of_mem _ ha), map_sub1_free c d _ (h p List.mem_cons_self)]
    congr 2
    show [d] = [sub1 c d c]
    unfold sub1
    rw [if_pos rfl]
theorem replace_map (x : Str) (c d : Nat) : (Txt.replace x ⟨#[c]⟩ ⟨#[d]⟩).cps.toList = x.cps.toList.map (sub1 c d) := by
  rw [StrLaws.replace_one, join_sub1 c d _ (StrLaws.split_free x c), StrLaws.join_split]
theorem replace_len (x : Str) (c d : Nat) : (Txt.replace x ⟨#[c]⟩ ⟨#[d]⟩).length = x.length := by
  show (Txt.replace x ⟨#[c]⟩ ⟨#[d]⟩).cps.size = x.cps.size
  rw [← Array.length_toList, replace_map, List.length_map, Array.length_toList]
theorem join_inj (c : Nat) : ∀ (P R : List Str), P ≠ [] → R ≠ [] → (∀ p ∈ P, c ∉ p.cps.toList) → (∀ p ∈ R, c ∉ p.cps.toList) → (Str.join ⟨#[c]⟩ P).cps.toList = (Str.join ⟨#[c]⟩ R).cps.toList → P = R
  | [], _, h, _, _, _, _ => absurd rfl h
  | _, [], _, h, _, _, _ => absurd rfl h
  | [p], [q], _, _, _, _, e => by
    have e' : p.cps.toList = q.cps.toList := e
    rw [Str.ext' (Array.toList_inj.mp e')]
  | [p], q :: q' :: r, _, _, hp, _, e => by
    exfalso
    rw [join_cons2] at e
    refine hp p List.mem_cons_self ?_
    have e' : p.cps.toList = _ := e
    rw [e']
    simp
  | p :: p' :: r, [q], _, _, _, hq, e => by
    exfalso
    rw [join_cons2] at e
    refine hq q List.mem_cons_self ?_
    have e' : _ = q.cps.toList := e
    rw [← e']
    simp
  | p :: p' :: r, q :: q' :: r', _, _, hp, hq, e => by
    rw [join_cons2, join_cons2] at e
    have key : ∀ (a b u v : List Nat), c ∉ a → c ∉ b → a ++ ([c] ++ u) = b ++ ([c] ++ v) → a = b ∧ u = v := by
      intro a
      induction a with
      | nil =>
        intro b u v _ hb e
        cases b with
        | nil => simp at e; exact ⟨rfl, e⟩
        | cons y b =>
          simp at e
          exact absurd (e.1 ▸ List.mem_cons_self) hb
      | cons x a ih =>
        intro b u v ha hb e
        cases b with
        | nil =>
          simp at e
          exact absurd (e.1 ▸ List.mem_cons_self) ha
        | cons y b =>
          simp only [List.cons_append, List.cons.injEq] at e
          obtain ⟨h1, h2⟩ := ih b u v (fun m => ha (List.mem_cons_of_mem _ m)) (fun m => hb (List.mem_cons_of_mem _ m)) e.2
          exact ⟨by rw [e.1, h1], h2⟩
    obtain ⟨h1, h2⟩ := key _ _ _ _ (hp p List.mem_cons_self) (hq q List.mem_cons_self) e
    rw [Str.ext' (Array.toList_inj.mp h1), join_inj c (p' :: r) (q' :: r') (fun z => nomatch z) (fun z => nomatch z) (fun a ha => hp a (List.mem_cons_of_mem _ ha)) (fun a ha => hq a (List.mem_cons_of_mem _ ha)) h2]
theorem split_ne (x y : Str) : Txt.split x y ≠ [] := by
  unfold Txt.split
  split
  · simp
  · split
    · simp
    · rw [StrLaws.partsBetween_eq]
      obtain ⟨p, r, e⟩ := StrLaws.partsFrom_ne x y.length 0 (Builtin.Str.occurrences x y 0 x.length (x.length + 1))
      rw [e]
      simp
theorem split_join (c : Nat) (R : List Str) (h : R ≠ []) (hf : ∀ p ∈ R, c ∉ p.cps.toList) : Txt.split (Txt.join ⟨#[c]⟩ R) ⟨#[c]⟩ = R := by
  refine join_inj c _ _ (split_ne _ _) h (StrLaws.split_free _ c) hf ?_
  rw [StrLaws.join_split]
  show (Builtin.Str.glued _ _).cps.toList = _
  rw [StrLaws.glued_eq_join]
theorem join_map (c : Nat) (f : Nat → Nat) (hc : f c = c) : ∀ R : List Str, (Str.join ⟨#[c]⟩ R).cps.toList.map f = (Str.join ⟨#[c]⟩ (R.map fun p => ⟨(p.cps.toList.map f).toArray⟩)).cps.toList
  | [] => rfl
  | [p] => by
    show p.cps.toList.map f = (p.cps.toList.map f).toArray.toList
    simp
  | p :: q :: r => by
    have ih := join_map c f hc (q :: r)
    rw [List.map_cons] at ih
    rw [List.map_cons, List.map_cons, join_cons2, join_cons2, List.map_append, List.map_append, ih]
    simp [hc]
def unM (x : Str) : Str := Txt.replace (Txt.replace x "|" ".") "-" "."
def mapc (k : Nat) : Nat := sub1 45 46 (sub1 124 46 k)
theorem lit_bar : ("|" : Str) = ⟨#[124]⟩ := by decide +kernel
theorem lit_dash : ("-" : Str) = ⟨#[45]⟩ := by decide +kernel
theorem lit_dot : ("." : Str) = ⟨#[46]⟩ := by decide +kernel
theorem lit_nl : ("\n" : Str) = ⟨#[10]⟩ := by decide +kernel
theorem unM_toList (x : Str) : (unM x).cps.toList = x.cps.toList.map mapc := by
  unfold unM
  rw [lit_bar, lit_dash, lit_dot, replace_map, replace_map, List.map_map]
  rfl
end Sl
namespace L2
open PySem PySem.Spec PyProof.Rows
section
variable {X : Cx}
theorem pe_replace {o : Expr} {to : TE} {y z g : Str} {tk : Tok} {j : Nat} {p1 p2 apos cpos : Pos} (hg : Gl X g) (hm : X.mg g = some (.str z tk)) (h0 : tk ≠ 0) (hlow : tk < lowT X.K) (hyz : (y == z) = false) (hz : z.length ≤ 14) (hdb : (g == ("__debug__" : Str)) = false) (ho : PE X o to)
    (hbase : attributeBase o "replace" X.env (eval o X.env) = eval o X.env := by rfl)
    (hfew : ((backTo cpos (starEach [.Constant (.str y) j p1, .Name g p2] X.env)).all (fun x => !x.1) && (backToKw cpos (keywordEach [] X.env)).all (fun x => x.1.isSome)
      && decide ([(.Constant (.str y) j p1 : Expr), .Name g p2].length + ([] : List Keyword).length + (if ([] : List Keyword).isEmpty then 0 else 1) < 30)) = true := by rfl)
    (hline : (apos.endLine == cpos.line) = true := by rfl) :
    PE X (.Call (.Attribute o "replace" apos) [.Constant (.str y) j p1, .Name g p2] [] cpos) (fun σ H Q => to σ H fun x H1 => ∃ t, x = .str t ∧ t.length ≤ 1048576 ∧ Q (.str (Txt.replace t y z)) H1) := by
  intro pins s σ H Q I h
  refine wpAny_Call_method_late hbase hfew hline rfl (thn (ho pins s σ H _ I h) fun v s1 ⟨x, H1, I1, r1, t, ex, hl, q1⟩ => ?_)
  subst ex
  obtain ⟨h1, h2⟩ := tyV_is (T := "str") I1 r1 rfl
  obtain ⟨tt, rfl⟩ := r1
  refine ⟨"str", "str.replace", F.plainAttrs_str, F.slot_str_replace, F.type_str_replace, h1, h2, ?_⟩
  have hlt : tk < s1.toks := Nat.lt_of_lt_of_le hlow (Nat.le_trans I1.ok.low I1.tk)
  refine Calls.callWith_builtin (by rfl) (Calls.evalArgs_plain ?_)
  show wpAny _ _ (spliced ((false, eval (.Constant (.str y) j p1) X.env) :: backTo cpos (starEach [.Name g p2] X.env))) _ _ s1
  refine Calls.spliced_cons (Calls.Constant_str ?_)
  have I2 := I1.tok (s1.toks + 1)
  show wpAny _ _ (spliced ((false, eval (.Name g p2) X.env) :: backTo cpos (starEach [] X.env))) _ _ _
  refine Calls.spliced_cons (ld_glob I2 hg hm ?_ hdb)
  refine Calls.spliced_nil ?_
  refine with_toks (SC.replaceW (Nat.ne_of_gt (Nat.lt_of_le_of_lt (Nat.zero_le _) hlt)) h0 (Nat.ne_of_gt hlt) hyz hl hz fun t' k hk => ?_)
  exact ⟨.str _, H1, I2.tok k hk, ⟨_, rfl⟩, q1⟩
theorem partsFrom_len (x : Str) (w : Nat) : ∀ (cuts : List Nat) (a : Nat), (StrLaws.partsFrom x w a cuts).length = cuts.length + 1
  | [], _ => rfl
  | d :: r, _ => by
    show (StrLaws.partsFrom x w (d + w) r).length + 1 = _
    rw [partsFrom_len x w r]
    rfl
theorem vals_strs : ∀ (l : List (Str × Tok)), Vals ((l.map (·.1)).map V.str) (strValues l)
  | [] => .nil
  | p :: r => .cons ⟨p.2, rfl⟩ (vals_strs r)
theorem split_len (x y : Str) : (Txt.split x y).length ≤ x.length + 2 := by
  unfold Txt.split
  split
  · simp
  · split
    · simp
    · rw [StrLaws.partsBetween_eq, partsFrom_len]
      have := StrLaws.occ_length_le x y 0 x.length (x.length + 1)
      omega
theorem call_split {prog : Program} {w : World} {A : Around} {E : Value → Shared → Prop} {s : Shared} {x y : Str} {t u : Tok} {Q : Value → Shared → Prop} (hy : (y.length == 0) = false) (hx : x.length ≤ 1048576)
    (hq : ∀ (l : List (Str × Tok)) (k : Nat), l.map (·.1) = Txt.split x y → Q (.ref s.heap.objs.size) { s with heap := s.heap.push { cls := .type "list", data := .seq (strValues l).toArray }, toks := k }) :
    wpAny (model prog w) A (call (.builtin "str.split") [.str x t, .str y u]) Q E s := by
  have h1s : x.length ≤ sizeLine := by rw [sizeLine_eq]; omega
  have h2s : (Builtin.Str.partsBetween x (Builtin.Str.occurrences x y 0 x.length (x.length + 1)) y.length).length ≤ sizeLine := by
    rw [StrLaws.partsBetween_eq, partsFrom_len, sizeLine_eq]
    have := StrLaws.occ_length_le x y 0 x.length (x.length + 1)
    omega
  have slot := F.slot_str_split
  cases h1 : (decide (x.length < y.length) || decide (Builtin.Str.strKind x < Builtin.Str.strKind y))
  · cases hf : (Builtin.Str.occurrences x y 0 x.length (x.length + 1)).isEmpty
    · refine call_meets slot (typeIs_str _ _ _) F.entry_str_split (F.args_str_split_2 _ _)
        (meets_str_split_sep x y t u h1 hy hf h1s h2s) ?_
      show wants Q E _ { s with toks := _, heap := s.heap.push { cls := .type "list", data := .seq (strsFrom s.toks (Builtin.Str.partsBetween x (Builtin.Str.occurrences x y 0 x.length (x.length + 1)) y.length)).toArray } }
      rw [strsFrom_eq]
      refine hq (numbered s.toks _) _ ((numbered_texts _ _).trans ?_)
      unfold Txt.split
      rw [if_neg (by rw [h1]; simp), if_neg (by rw [hf]; simp)]
    · refine call_meets slot (typeIs_str _ _ _) F.entry_str_split (F.args_str_split_2 _ _)
        (meets_str_split_not_found x y t u h1 hy hf) (hq [(x, t)] s.toks ?_)
      unfold Txt.split
      rw [if_neg (by rw [h1]; simp), if_pos hf]
      rfl
  · refine call_meets slot (typeIs_str _ _ _) F.entry_str_split (F.args_str_split_2 _ _)
      (meets_str_split_cannot_occur x y t u h1) (hq [(x, t)] s.toks ?_)
    unfold Txt.split
    rw [if_pos h1]
    rfl
def rSplit : V → List V → Hp → VK → Prop := fun x vs H Q => ∃ (t sep : Str), x = .str t ∧ vs = [.str sep] ∧ (sep.length == 0) = false ∧ t.length ≤ 1048576 ∧ ∀ l, H l = none → Q (.ref l) (upd H l (.lst ((Txt.split t sep).map V.str)))
theorem mt_split : MtR X "str.split" rSplit := by
  intro pins s σ H x vs v us Q I rx rv h
  obtain ⟨t, sep, rfl, rfl, hs, hl, q⟩ := h
  obtain ⟨t', rfl⟩ := rx
  obtain ⟨u, rfl, ru⟩ := rv.one
  obtain ⟨u', rfl⟩ := ru
  refine with_toks (call_split hs hl fun l k e hk => ?_)
  refine ⟨.ref s.heap.objs.size, _, I.laid (t' := k) (fun b o z => Heap.get?_push_of_some _ z) (Nat.le_refl _) (show ObjOk X.prog X.w _ _ _ (.lst ((Txt.split t sep).map V.str)) from ⟨?_, strValues l, _, ?_, Heap.get?_push_size _ rfl⟩), rfl, q _ I.fresh⟩
  · rw [List.length_map, sizeLine_eq]
    have := split_len t sep
    omega
  · rw [← e]
    exact vals_strs l
end
end L2
namespace L2
open PySem PySem.Spec PyProof.Rows
def CX1 (P : Program) (w : World) : CXT := fun outer H s E e s' =>
  ∃ (x : Addr) (cls a0 : Value) (B : Heap) (H' : Hp), e = .ref x ∧ s'.os = s.os ∧ AllBare s'.gens ∧ s.toks ≤ s'.toks ∧ Un (frs outer) [] H H' s.heap s'.heap ∧ HOk P w H' s'.heap ∧ Heap.FlyingW B outer x cls a0 s'.heap ∧
    (∀ b o, s.heap.get? b = some o → b ∉ frs outer → ∃ o', B.get? b = some o') ∧ (∀ b v, H' b = some v → ∃ o', B.get? b = some o') ∧ H' x = none ∧ E cls none H'
theorem hok_there {P : Program} {w : World} {H : Hp} {h : Heap} (k : HOk P w H h) {b : Addr} {v : HO} (e : H b = some v) : ∃ o, h.get? b = some o := by
  have := k b v e
  induction v with
  | lst xs => obtain ⟨_, _, _, _, q⟩ := this; exact ⟨_, q⟩
  | tup xs => obtain ⟨_, _, _, o, q, _⟩ := this; exact ⟨_, q⟩
  | dK kvs => obtain ⟨_, _, _, _, o, _, _, q, _⟩ := this; exact ⟨_, q⟩
  | dT kvs => obtain ⟨_, _, _, _, o, _, _, q, _⟩ := this; exact ⟨_, q⟩
  | set S n => obtain ⟨o, _, _, _, q, _⟩ := this; exact ⟨_, q⟩
  | ins C dx fs => obtain ⟨_, _, _, q, _⟩ := this; exact ⟨_, q⟩
  | own y => obtain ⟨o, q⟩ := this; exact ⟨_, q⟩
  | xd fs => obtain ⟨_, ⟨o, _, _, q, _⟩, _⟩ := this; exact ⟨_, q⟩
  | rng lo hi => obtain ⟨_, _, _, q⟩ := this; exact ⟨_, q⟩
  | frz ob u _ => obtain ⟨q, _⟩ := this; exact ⟨_, q⟩
  | tbl ps => exact ⟨_, this⟩
  | met f x => exact ⟨_, this⟩
  | ext φ => exact this.2.1
theorem fly_keep {P : Program} {w : World} {l : List Env} {H H' : Hp} {h0 h1 h2 B : Heap} (u : Un (frs l) [] H H' h0 h1) (k : HOk P w H' h1) (b1 : B.StaysIn h1) (b2 : B.StaysIn h2)
    (f1 : ∀ b o, h0.get? b = some o → b ∉ frs l → ∃ o', B.get? b = some o') (f2 : ∀ b v, H' b = some v → ∃ o', B.get? b = some o') (ff : h1.FunFrames B l) (up : h1.UpToSlots h2) : Un (frs l) [] H H' h0 h2 ∧ HOk P w H' h2 := by
  have ex : ∀ b o, h1.get? b = some o → (∃ o', B.get? b = some o') → h2.get? b = some o := fun b o q ⟨o', q'⟩ => by
    have e : o' = o := Option.some.inj ((b1 b o' q').symm.trans q)
    rw [← e]
    exact b2 b o' q'
  have sl : ∀ b o, b ∈ frs l → h1.get? b = some o → ∃ s', h2.get? b = some { o with slots := s' } := fun b o hb q => by
    obtain ⟨_, o', q', hn⟩ := ff.mem hb
    have e : o' = o := Option.some.inj (q'.symm.trans q)
    subst e
    exact up b o' q hn
  refine ⟨⟨fun b o q n h1' h2' => ex b o (u.keep b o q n h1' h2') (f1 b o q h1'), fun b o q n h1' h2' => ?_, u.free, fun b o q h' => ?_, u.tups, u.frzs, u.tbls⟩, fun a v e => ?_⟩
  · obtain ⟨s1, q1⟩ := u.slot b o q n h1' h2'
    obtain ⟨s2, q2⟩ := sl b _ h1' q1
    exact ⟨s2, q2⟩
  · obtain ⟨o', q'⟩ := u.there b o q h'
    by_cases hb : b ∈ frs l
    · obtain ⟨s2, q2⟩ := sl b _ hb q'
      exact ⟨_, q2⟩
    · exact ⟨o', ex b o' q' (f1 b o q hb)⟩
  · refine (k a v e).stay (fun b o hb q => ex b o q ?_) (fun _ q => q) fun _ _ q => q
    rcases hb with rfl | hb
    · exact f2 _ _ e
    · exact f2 _ _ hb
def Raises (X : Cx) (E : XK) : Prop := ∀ (pins : List (Addr × Obj)) (σ : St) (H : Hp) (s : Shared) (h' : Heap) (e : Addr) (cls : Value) (args : List Value), Inv X pins σ H s → Heap.MadeExcOf s.heap h' e cls args → E cls none H → X.xe (.ref e) { s with heap := h' }
section
variable {P : Program} {w : World} {K : PySem.W.Frag} {mg : Str → Option Value} {base : Heap} {N : List Str} {qual : Str} {scope : Scope} {f : Addr} {cd : Value} {A : Around} {outer : List Env} {s0 : Shared} {H0 : Hp} {E : XK}
theorem raises1 : Raises (cxOf (CX1 P w) P w K mg base N qual scope f cd A outer s0 H0 E) E := by
  intro pins σ H s h' e cls args I hx hE
  show wpAny _ _ (leaving (envOfC qual scope s0.heap.objs.size f cd) (.ref e)) _ _ _
  have fr := I.stack
  have st : frs (envOfC qual scope s0.heap.objs.size f cd :: outer) = s0.heap.objs.size :: frs outer := rfl
  have hin : ∀ env ∈ (envOfC qual scope s0.heap.objs.size f cd :: outer), ∀ b, env.frame = some b → b ∈ frs (envOfC qual scope s0.heap.objs.size f cd :: outer) := fun env he b hb => List.mem_filterMap.mpr ⟨env, he, hb⟩
  have hl := PySem.W.funFrames_hide fr hin
  have hkb : (PySem.W.hideAll s.heap (frs (envOfC qual scope s0.heap.objs.size f cd :: outer))).StaysIn s.heap := fun b o q => PySem.W.of_hideAll _ q
  have nf : ∀ b v, H b = some v → b ∉ frs (envOfC qual scope s0.heap.objs.size f cd :: outer) := fun b v q hb => by rw [I.stkFree b hb] at q; cases q
  have f2 : ∀ b v, H b = some v → ∃ o', (PySem.W.hideAll s.heap (frs (envOfC qual scope s0.heap.objs.size f cd :: outer))).get? b = some o' := fun b v q => by
    obtain ⟨o, qo⟩ := hok_there I.hok q
    exact ⟨o, PySem.W.hideAll_get _ qo (nf b v q)⟩
  have f1 : ∀ b o, s0.heap.get? b = some o → b ∉ frs outer → ∃ o', (PySem.W.hideAll s.heap (frs (envOfC qual scope s0.heap.objs.size f cd :: outer))).get? b = some o' := fun b o q hb => by
    obtain ⟨o', q'⟩ := I.base.there b o q (by show b ∉ ([] : List Addr); simp)
    refine ⟨o', PySem.W.hideAll_get _ q' fun hm => ?_⟩
    rw [st] at hm
    rcases List.mem_cons.mp hm with z | z
    · exact absurd (Heap.lt_size q) (by rw [z]; exact Nat.lt_irrefl _)
    · exact hb z
  refine wpAny_leaves_madeW (base := PySem.W.hideAll s.heap (frs (envOfC qual scope s0.heap.objs.size f cd :: outer))) (h := s.heap) I.ok.frames rfl hkb hl hx fun h2 t x1 x2 x3 x4 => ?_
  obtain ⟨un, ho⟩ := fly_keep (l := outer) I.base I.hok hkb x1.1 f1 f2 hl.2.2 ((Heap.UpToSlots.of_keeps hx.keeps).trans x4)
  refine ⟨e, cls, .ref t, _, H, rfl, I.os, I.bare, I.tk, un, ho, x1, f1, f2, ?_, hE⟩
  cases z : H e with
  | none => rfl
  | some v =>
    obtain ⟨o, q⟩ := hok_there I.hok z
    rw [hx.new] at q
    cases q
end
theorem excObj {K : PySem.W.Frag} {C : Addr} {bmB : List Value} {newId : String} (q : PySem.W.excIn K C bmB newId = true) :
    ∃ bm ns nm qn bs hd sn sub ab col dd k0 k1 k2 k3 k5, K.lookup C = some (excClassObj nm qn C ns bs bm hd sn sub ab col dd k0 k1 k2 k3 k5 newId) ∧ PySem.W.tailIn K bmB bm = true ∧ PySem.W.nsOkIn K ns = true ∧ PySem.W.nsIn K ns "__init__" = some none := by
  unfold PySem.W.excIn at q
  split at q
  · rename_i dd cd sl ho
    split at q
    · rename_i C' bm k0 k1 k2 k3 n k5 hm hs
      simp only [Bool.and_eq_true, beq_iff_eq, Bool.not_eq_true'] at q
      obtain ⟨⟨⟨⟨⟨rfl, rfl⟩, hdel⟩, ht⟩, hok⟩, hni⟩ := q
      obtain ⟨nm, bs, mro, ns, qn, hd, sn, sub, ab, col, del⟩ := cd
      dsimp only at hm hdel hok hni
      subst hm hdel
      have hsl : sl = #[k0, k1, k2, k3, some (.builtin n), k5] := by
        obtain ⟨l⟩ := sl
        simp only at hs
        rw [hs]
      subst hsl
      exact ⟨bm, ns, nm, qn, bs, hd, sn, sub, ab, col, dd, k0, k1, k2, k3, k5, ho, ht, hok, hni⟩
    · cases q
  · cases q
theorem nsOk_lookup {K : PySem.W.Frag} {N : Addr} (e : PySem.W.nsOkIn K N = true) : ∃ o, K.lookup N = some o := by
  cases q : K.lookup N with
  | some o => exact ⟨o, rfl⟩
  | none =>
    unfold PySem.W.nsOkIn at e
    rw [q] at e
    cases e
def tRaise (cls : Value) (E : XK) (t : TA) : TS := fun _ σ H => t σ H fun vs H1 => vs.length ≤ sizeLine ∧ E cls none H1
theorem ps_raise {X : Cx} {E : XK} {x : Str} {C : Addr} {bmB : List Value} {B newId initId : String} {np cpos pos : Pos} {e : Expr} {es : List Expr} {t : TA} (hR : Raises X E) (hh : X.A.handled = none) (hg : Gl X x) (hm : X.mg x = some (.ref C)) (q : PySem.W.excIn X.K C bmB newId = true)
    (FB : ExcBaseFacts B newId initId bmB) (ha : PA X (e :: es) t) (hdb : (x == ("__debug__" : Str)) = false := by decide) (h1 : unstar e = true := by rfl) (h2 : es.all unstar = true := by rfl) :
    PS X (.Raise (some (.Call (.Name x np) (e :: es) [] cpos)) none pos) (tRaise (.ref C) E t) := by
  intro pins s σ H D I h
  obtain ⟨bm, ns, nm, qn, bs, hd, sn, sub, ab, col, dd, k0, k1, k2, k3, k5, ho, ht, hok, hni⟩ := excObj q
  have hN : s.heap.Ns ns (s.heap.nsMap ns) := .of_isNs (PySem.W.isNs_of_in I.kIn hok)
  have hbase : bm.contains (.type "BaseException") = true := (PySem.W.tail_of_in I.kIn ht).hasType FB.hasBase
  refine wpAny_Raise_call_subT (C := C) (nm := nm) (q := qn) (N := ns) (bs := bs) (bm := bm) (hdct := hd) (sn := sn) (sub := sub) (ab := ab) (col := col) (dd := dd) (k0 := k0) (k1 := k1) (k2 := k2) (k3 := k3) (k5 := k5)
    FB (mN := s.heap.nsMap ns) hbase hh ?_ (PySem.W.nsMap_none_of_in I.kIn hok hni) (ld_glob I hg hm ⟨rfl, ?_⟩ hdb)
  · rw [starEach_un h1]
    show (false || (backTo cpos (starEach es X.env)).any (·.1)) = false
    rw [backTo_un h2]
    rfl
  · have hA := ha cpos pins s σ H _ I h
    rw [starEach_un h1] at hA ⊢
    refine Calls.evalArgs_plain (wpAny_mono hA (fun vs s2 ⟨us, H1, I1, r1, hl, hE⟩ => ?_) fun _ _ y => y)
    refine ⟨rfl, by show vs.length ≤ sizeLine; rw [← r1.length]; exact hl, I1.kIn _ _ ho, ?_, PySem.W.tail_of_in I1.kIn ht, fun h' ex mk => hR pins σ H1 s2 h' ex (.ref C) _ I1 mk hE⟩
    obtain ⟨o', lk⟩ := nsOk_lookup hok
    obtain ⟨o, es', ep, ho', r⟩ := hN
    have e1 : o' = o := Option.some.inj ((I.kIn _ _ lk).symm.trans ho')
    subst e1
    exact ⟨o', es', ep, I1.kIn _ _ lk, r⟩
end L2
namespace L2
open PySem PySem.Spec PyProof.Rows
def ExcAt (h : Heap) (x D : Addr) : Prop := ∃ ox : Obj, h.get? x = some ox ∧ ox.cls = .ref D
theorem ExcAt.type {M : Model} {h : Heap} {x D : Addr} (I : ExcAt h x D) : PySem.W.Looks M h (typeOf (.ref x)) (.ref D) := by
  obtain ⟨ox, e, c⟩ := I
  exact c ▸ (PySem.W.Looks.ld e).andThen .now
section
variable {prog : Program} {w : World} {A : Around} {E : Value → Shared → Prop} {s : Shared} {K : PySem.W.Frag} {x D : Addr}
open PySem.W Builtin Builtin.ObjectAttr in
theorem looks_findD {M : Model} {h : Heap} (X : K.In h) {name : Str} {a g : Value} (ha : findIn K (.ref D) name = some (some a)) (hg : specialIn K a "__get__" = some (some g)) (hd : takesIn K a = some true) :
    Looks M h (find (.ref x) (.ref D) name) (.bind g a) := by
  have L1 := looks_findIn (M := M) X ha
  have L2 : Looks M h (getOf (some a)) (some g) := looks_specialIn X hg
  have L3 := looks_takesIn (M := M) X hd
  exact L1.andThen (L2.andThen ((show Looks M h (dataDescriptor? (some a) (some g)) (some (g, a)) from L3.andThen .now).andThen (Looks.tag .now)))
open PySem.W Builtin Builtin.ObjectAttr Builtin.Getset_descriptor PySem.Calls in
theorem class_getD {R : Result → Shared → Prop} {tp : Value} (X : K.In s.heap) (I : ExcAt s.heap x D) (hm : mroIn K D (.type "object") = some true)
    (h : R (.ok (.ret (.ref D))) s) : codeAny (model prog w) A (.call (.builtin "getset_descriptor.__get__") ⟨[.builtin "object.__class__", .ref x, tp], []⟩) R s := by
  obtain ⟨hh, g, dr, t, os⟩ := s
  have L0 := I.type (M := model prog w)
  have L1 := looks_mroIn (M := model prog w) X hm
  refine codeAny_call_builtin KF.slot_gs.plain KF.entry_gs (KF.slot_gs.check _ _ _ _ _ _ _ _ KF.type_class (KF.args_gs _ _ _) ?_)
  unfold Builtin.«getset_descriptor.__get__» descrGet
  rw [dga_obj]
  refine wpAny_bind (wpAny_pure ?_)
  unfold descrGetter descrCheckInstance descrNameAndClass isInstance
  simp only [KF.owner_class]
  repeat lk
  refine ⟨Code.quiet_builtin _ (by decide +kernel), codeAny_builtin KF.entry_class ?_⟩
  unfold Builtin.«object.__class__» shownTypeOf
  repeat lk
  exact h
open PySem.W in
theorem exc_class {Q : Option Value → Shared → Prop} (X : K.In s.heap) (I : ExcAt s.heap x D) (hga : findIn K (.ref D) "__getattribute__" = some (some (.builtin "BaseException.__getattribute__")))
    (hgt : findIn K (.ref D) "__getattr__" = some none) (ha : findIn K (.ref D) "__class__" = some (some (.builtin "object.__class__"))) (hg : specialIn K (.builtin "object.__class__") "__get__" = some (some (.builtin "getset_descriptor.__get__")))
    (hd : takesIn K (.builtin "object.__class__") = some true) (hB : mroIn K D (.type "BaseException") = some true) (hm : mroIn K D (.type "object") = some true)
    (h : Q (some (.ref D)) { s with toks := s.toks + 1 }) : wpAny (model prog w) A (getAttr? (.ref x) "__class__") Q E s := by
  obtain ⟨hh, g, d, t, os⟩ := s
  have L0 := I.type (M := model prog w)
  have L1 := looks_findIn (M := model prog w) X hga
  have L2 := looks_findIn (M := model prog w) X hgt
  have L3 := looks_findD (M := model prog w) (x := x) X ha hg hd
  have L4 := looks_mroIn (M := model prog w) X hB
  unfold getAttr? getAttrBy? getAttrBy
  refine wpAny_bind (wpAny_mkText (wpAny_bind (wpAny_attempt (wpAny_holding (wpAny_bind (L0.at (wpAny_bind (L1.at ?_))))))))
  have hx2 : (Value.builtin "BaseException.__getattribute__" == Value.builtin "object.__getattribute__") = false := by decide +kernel
  have hx1 : (onTheHeap (Value.ref D) && Value.builtin "BaseException.__getattribute__" == Value.builtin "object.__getattribute__") = false := by rw [hx2]; rfl
  dsimp only
  rw [hx1, if_neg (by decide)]
  have fga : Slot "ValueError" "__getattribute__" "BaseException.__getattribute__" := F.attr_ValueError.ga
  have f3 := fga.bind (.ref x)
  unfold getAttrByItsOwn
  repeat (first | assumption | with_reducible refine L2.at ?_ | with_reducible refine L0.at ?_ | wp_step)
  have hk : builtinKind "BaseException.__getattribute__" = some .slot := by decide +kernel
  have hsplit : splitId "BaseException.__getattribute__" = some ("BaseException", "__getattribute__") := by decide +kernel
  have hargs := F.args_bexc_ga (.ref x) (.str "__class__" t)
  refine codeAny_call_builtin fga.plain F.entry_bexc_ga ?_
  show wpAny _ _ (checkBuiltinCall "BaseException.__getattribute__" ⟨[.ref x, .str "__class__" t], []⟩) _ _ _
  simp only [checkBuiltinCall, hk, hsplit]
  unfold isInstance
  repeat (first | assumption | with_reducible refine L0.at ?_ | with_reducible refine L4.at ?_ | with_reducible refine L3.at ?_ | wp_step)
  refine class_getD (s := ⟨hh, g, d, t + 1, os⟩) X I hm ?_
  repeat (first | assumption | wp_step)
end
end L2
namespace L2
open PySem PySem.Spec PyProof.Rows
structure ExcCls (K : PySem.W.Frag) (D : Addr) : Prop where
  ga : PySem.W.findIn K (.ref D) "__getattribute__" = some (some (.builtin "BaseException.__getattribute__"))
  gt : PySem.W.findIn K (.ref D) "__getattr__" = some none
  fc : PySem.W.findIn K (.ref D) "__class__" = some (some (.builtin "object.__class__"))
  fg : PySem.W.specialIn K (.builtin "object.__class__") "__get__" = some (some (.builtin "getset_descriptor.__get__"))
  ft : PySem.W.takesIn K (.builtin "object.__class__") = some true
  mb : PySem.W.mroIn K D (.type "BaseException") = some true
  mo : PySem.W.mroIn K D (.type "object") = some true
  cl : (PySem.W.clsIn K D).isSome = true
theorem kitx_exc {K : PySem.W.Frag} {x D : Addr} (c : ExcCls K D) : PySem.W.KitX K (.ref x) (.ref D) (fun h => ExcAt h x D) where
  ty := fun _ _ _ I => I.type
  it := fun _ _ X _ => by
    obtain ⟨cd, hc⟩ := Option.isSome_iff_exists.mp c.cl
    unfold PySem.W.clsIn at hc
    split at hc
    · rename_i c' d' cd' sl' ho
      intro A' Q' E' s' k q
      unfold isType loadHead
      exact wpAny_bind (wpAny_loadPart (k _ _ (X _ _ ho)) (wpAny_pure q))
    · cases hc
  ne := fun h tp dd its n sl X htp => by
    obtain ⟨cd, hc⟩ := Option.isSome_iff_exists.mp c.cl
    refine Bool.eq_false_iff.mpr fun q => ?_
    have e : D = tp := Value.ref.inj (beq_iff_eq.mp q)
    subst e
    unfold PySem.W.clsIn at hc
    split at hc
    · rename_i c' d' cd' sl' ho
      have z := (X _ _ ho).symm.trans htp
      cases z
    · cases hc
  ca := fun X I k => exc_class X I c.ga c.gt c.fc c.fg c.ft c.mb c.mo k
def excPhi (a D : Addr) (h : Heap) : Prop := ExcAt h a D
def rIsX (K : PySem.W.Frag) : List V → Hp → VK → Prop := fun xs H Q => ∃ a D c cv b, xs = [.ref a, c] ∧ RelV c cv ∧ (∀ u, RelV c u → u = cv) ∧ H a = some (.ext (excPhi a D)) ∧ ExcCls K D ∧ PySem.W.kitOne K (.ref D) cv = some b ∧ Q (.bl b) H
theorem call_isX {X : Cx} : CallR X (.builtin "isinstance") (rIsX X.K) := by
  intro pins s σ H xs us Q I r h
  obtain ⟨a, D, c, cv, b, rfl, rc, uq, ha, ec, ek, q⟩ := h
  obtain ⟨u, v, rfl, rx, rv⟩ := vals2 r
  cases rx
  cases uq v rv
  obtain ⟨ia, _⟩ := (show ObjOk X.prog X.w H s.heap a (.ext (excPhi a D)) from I.hok a _ ha)
  exact with_toks (PySem.W.kia_one (kitx_exc ec) I.kIn ia ek (fun z => nomatch z) fun tk ht => ⟨.bl b, H, I.tok tk ht, rfl, q⟩)
abbrev Cx.marked (X : Cx) (v : Value) : Cx := { X with A := X.A.mark (some v), calm := false, xe := fun _ _ => False }
theorem Cx.Ok.marked {X : Cx} (ok : X.Ok) (v : Value) : (X.marked v).Ok :=
  ⟨ok.mod, ok.kind, ok.glob, ok.blt, ok.above, ok.inj, ok.has, ok.cab, fun z => (by cases z), ok.frames, ok.stk, ok.exf, ok.bs, ok.bsz, ok.noex, ok.exfs, ok.funs, ok.frf, ok.low⟩
section
variable {X : Cx} {pins : List (Addr × Obj)} {σ : St} {H : Hp} {s : Shared} {v : Value}
theorem Inv.marked (I : Inv X pins σ H s) (v : Value) : Inv (X.marked v) pins σ H s := ⟨I.ok.marked v, I.os, I.bare, I.base, I.loc, I.cell, I.free, I.freeC, I.pin, I.hok, I.len, I.tk⟩
theorem Inv.unmarked (ok : X.Ok) (I : Inv (X.marked v) pins σ H s) : Inv X pins σ H s := ⟨ok, I.os, I.bare, I.base, I.loc, I.cell, I.free, I.freeC, I.pin, I.hok, I.len, I.tk⟩
theorem Inv.unbound {i : Nat} {n : Str} {m : Str → Option Value} {h' : Heap} {w : Option Value} {t' : Nat} (I : Inv X pins σ H s) (hN : X.N.Nodup) (hi : X.N[i]? = some n) (hl : X.env.kindOf n = some .local) (hm : s.heap.Ns X.env.locals m)
    (hn : h'.Ns X.env.locals (fun x => if x = n then w else m x)) (hs : Heap.SameBut X.env.locals s.heap h') (htk : s.toks ≤ t' := by first | exact Nat.le_refl _ | exact Nat.le_succ _ | assumption | omega) : Inv X pins (σ.set i none) H { s with heap := h', toks := t' } := by
  have neL : ∀ b o, X.s₀.heap.get? b = some o → b ≠ X.env.locals := fun b o e => Nat.ne_of_lt (Nat.lt_of_lt_of_le (Heap.lt_size e) I.ok.above)
  have cne := I.cne
  refine ⟨I.ok, I.os, I.bare, ?_, ?_, ?_, I.free, I.freeC, ?_, ?_, ?_, Nat.le_trans I.tk htk⟩
  · have u := I.base
    exact ⟨fun b o q n h1 h2 => (hs.2 b (neL b o q)).trans (u.keep b o q n h1 h2), fun b o q n h1 h2 => let ⟨sl, z⟩ := u.slot b o q n h1 h2; ⟨sl, (hs.2 b (neL b o q)).trans z⟩, u.free, fun b o q h1 => let ⟨o', z⟩ := u.there b o q h1; ⟨o', (hs.2 b (neL b o q)).trans z⟩, u.tups, u.frzs, u.tbls⟩
  · refine ⟨_, hn, fun j y v e1 e2 e3 => ?_⟩
    obtain ⟨m0, hm0, hl0⟩ := I.loc
    have hji : j ≠ i := fun z => by
      subst z
      have hij : j < σ.length := by rw [I.len]; exact (List.getElem?_eq_some_iff.mp hi).1
      rw [List.getElem?_set_self hij] at e2
      cases e2
    rw [List.getElem?_set_ne (Ne.symm hji)] at e2
    obtain ⟨u, ru, lk⟩ := hl0 j y v e1 e2 e3
    refine ⟨u, ru, ?_⟩
    have hyn : y ≠ n := fun z => by
      subst z
      exact hji (nodup_ix hN e1 hi)
    rcases lk with ⟨k1, k2⟩ | ⟨k1, c, k2, k3⟩
    · refine .inl ⟨k1, ?_⟩
      show (if y = n then w else m y) = _
      rw [if_neg hyn, hm.agree hm0 y]
      exact k2
    · refine .inr ⟨k1, c, k2, ?_⟩
      obtain ⟨o, q, d⟩ := k3
      exact ⟨o, (hs.2 c (cne y c k2)).trans q, d⟩
  · intro x c e
    obtain ⟨u, o, q, d⟩ := I.cell x c e
    exact ⟨u, o, (hs.2 c (cne x c e)).trans q, d⟩
  · intro p hp
    obtain ⟨q1, q2, q3, q4, q5⟩ := I.pin p hp
    exact ⟨(hs.2 _ q3).trans q1, q2, q3, q4, q5⟩
  · exact fun a o e => (I.hok a o e).stay (fun b u hb q => (hs.2 b (fun z => by
      subst z
      rcases hb with hb | hb
      · rw [← hb, I.free] at e; cases e
      · rw [I.free] at hb; cases hb)).trans q) (fun _ q => q) fun _ _ q => q
  · rw [List.length_set]; exact I.len
end
end L2
namespace L2
open PySem PySem.Spec PyProof.Rows
section
variable {X : Cx} {CX : CXT} {k : Nat} {f C : Addr} {fd : FuncData} {ps : List Str} {sp : Sp} {dvs : List V} {ds : List Value} {E : XK}
end
theorem un_caught {l : List Env} {H H' : Hp} {h h' : Heap} {x : Addr} {o : HO} (u : Un (frs l) [] H H' h h') (hn : h.get? x = none) (hh : ∀ b v, H b = some v → ∃ o', h.get? b = some o') : Un (frs l) [] H (upd H' x o) h h' := by
  have nx : ∀ b ob, h.get? b = some ob → b ≠ x := fun b ob q z => by rw [z, hn] at q; cases q
  have ny : ∀ b v, H b = some v → b ≠ x := fun b v q => let ⟨o', q'⟩ := hh b v q; nx b o' q'
  refine ⟨u.keep, u.slot, fun b ob q n e => ?_, u.there, fun b xs q => ?_, fun b ob v q => ?_, fun b ps q => ?_⟩
  · rw [upd_ne (nx b ob q)]; exact u.free b ob q n e
  · rw [upd_ne (ny b _ q)]; exact u.tups b xs q
  · rw [upd_ne (ny b _ q)]; exact u.frzs b ob v q
  · rw [upd_ne (ny b _ q)]; exact u.tbls b ps q
theorem hok_caught {P : Program} {w : World} {H : Hp} {h : Heap} {x C : Addr} (k : HOk P w H h) (hx : H x = none) (e : ExcAt h x C) : HOk P w (upd H x (.ext (excPhi x C))) h := by
  intro a o q
  by_cases z : a = x
  · subst z
    rw [upd_same] at q
    cases q
    obtain ⟨ox, e1, e2⟩ := id e
    exact ⟨e, ⟨ox, e1⟩, fun h1 h2 ⟨oy, k1, k2⟩ kk => ⟨oy, kk oy k1, k2⟩⟩
  · rw [upd_ne z] at q
    refine (k a o q).stay (fun b u hb q => q) (fun b q => by rw [upd_ne (ne_of_none q hx)]; exact q) fun b xs q => by rw [upd_ne (ne_of_none q hx)]; exact q
def endsAs (i : Nat) (D : Ends) : Ends := { nx := fun σ H => D.nx (σ.set i none) H, rt := D.rt, bk := fun σ H => D.bk (σ.set i none) H, ct := fun σ H => D.ct (σ.set i none) H }
def tAs (i : Nat) (C : Addr) (t : TS) (D : Ends) (σ : St) (H : Hp) : Prop := ∀ x, H x = none → t (endsAs i D) (σ.set i (some (.ref x))) (upd H x (.ext (excPhi x C)))
theorem caught {X : Cx} {pins : List (Addr × Obj)} {σ : St} {H : Hp} {s s1 : Shared} {e : Value} {D : Ends} {t : TS} {i : Nat} {n y : Str} {yp hp : Pos} {C : Addr} {bmB : List Value} {Bn newId initId : String} {b0 : Stmt} {body : List Stmt}
    (hs : X.stack = X.env :: X.outer ∧ X.env.frame = some X.env.locals) (hN : X.N.Nodup) (hi : X.N[i]? = some n) (hl : X.env.scope.names.lookup n = some .local) (hg : Gl X y) (hm : X.mg y = some (.ref C))
    (q : PySem.W.excIn X.K C bmB newId = true) (FB : ExcBaseFacts Bn newId initId bmB) (hb : ∀ x, QSs (X.marked (.ref x)) (b0 :: body) t) (I : Inv X pins σ H s)
    (h : CX1 X.prog X.w X.stack H s (fun cls _ H' => cls = .ref C ∧ tAs i C t D σ H') e s1) (hdb : (y == ("__debug__" : Str)) = false := by decide) :
    wpAny (model X.prog X.w) X.A (noteFrame e X.env) (fun _ s₂ => wpAny (model X.prog X.w) X.A (setFlight e none) (fun _ s₃ => wpAny (model X.prog X.w) X.A (handleBy e X.env [.ExceptHandler (some (.Name y yp)) (some n) (b0 :: body) hp]) (SP X pins D) X.xe s₃) X.xe s₂) X.xe s1 := by
  obtain ⟨x, cls, a0, B, H', rfl, o1, o2, tk1, un, ho, fl, f1, f2, hx, rfl, hT⟩ := h
  have fl' := fl
  rw [hs.1] at fl'
  have fr : X.A.frames = some (X.env :: X.outer) := by rw [← hs.1]; exact I.ok.frames
  have hn : s.heap.get? x = none := by
    cases z : s.heap.get? x with
    | none => rfl
    | some o =>
      exfalso
      by_cases hb : x ∈ frs X.stack
      · obtain ⟨_, o', q', hnf⟩ := fl.2.2.1.mem hb
        obtain ⟨oe, vs, _, _, _, he, _, hd, _⟩ := fl.2.2.2
        have e1 : o' = oe := Option.some.inj (q'.symm.trans he)
        subst e1
        exact hnf vs hd
      · obtain ⟨o', q'⟩ := f1 x o z hb
        rw [fl.2.1] at q'
        cases q'
  have key : ∀ hh : Heap, Heap.FlyingW B (X.env :: X.outer) x (.ref C) a0 hh → s1.heap.UpToSlots hh → Inv X pins σ (upd H' x (.ext (excPhi x C))) { s1 with heap := hh } := fun hh ff up => by
    obtain ⟨u', k'⟩ := fly_keep (l := X.stack) un ho fl.1 ff.1 f1 f2 fl.2.2.1 up
    exact I.call' (s' := { s1 with heap := hh }) (ch := []) o1 (un_caught u' hn fun b v q => hok_there I.hok q) (hok_caught k' hx ff.there) o2 fun b z => absurd z (by simp)
  refine wpAny_looks_onW fr hs.2 fl' fun h2 e2 up2 => ?_
  refine wpAny_landsW e2 fun h3 e3 up3 => ?_
  have I3 := key h3 e3 (up2.trans up3)
  refine wpAny_handleBy_cons (codeAny_handlers_test (ld_glob (X := X.marked (.ref x)) (I3.marked _) hg hm ?_ hdb)) (fun z => nomatch z)
  obtain ⟨bm, ns, nm, qn, bs, hd, sn, sub, ab, col, dd, k0, k1, k2, k3, k5, hoC, ht, hok, hni⟩ := excObj q
  have hbase : bm.contains (.type "BaseException") = true := (PySem.W.tail_of_in I.kIn ht).hasType FB.hasBase
  obtain ⟨oe, he, hc⟩ := e3.there
  refine wpAny_excMatches_sub_self (I3.kIn _ _ hoC) he hc hbase ?_
  refine codeAny_handlers_suite_as (lands_againW e3 fun h4 e4 up4 => ?_)
  have I4 := key h4 e4 ((up2.trans up3).trans up4)
  refine store_ok2 (u := .ref x) (v := .ref x) I4 hN hi (Or.inl hl) rfl (fun s5 I5 _ => ?_) (.inr hl)
  refine wpAny_mono ((hb x).h pins s5 _ _ (endsAs i D) (I5.marked _) (hT x hx)) (fun fl s6 q6 => ?_) fun _ _ z => z.elim
  have go : ∀ {σ' : St} {H2 : Hp} {P : Unit → Shared → Prop}, Inv X pins σ' H2 s6 → (∀ s7, Inv X pins (σ'.set i none) H2 s7 → P () s7) → wpAny (model X.prog X.w) X.A (do bindName X.env n .none; unbindBehindTheSuite X.env n hp) P X.xe s6 := fun {σ' H2 P} I6 k => by
    obtain ⟨m, hm, _⟩ := id I6.loc
    exact wpAny_nameGoes_keeps hl hm (by rw [I.ok.kind]; rfl) fun h' v hn hs => k _ (I6.unbound hN hi hl hm hn hs)
  cases fl with
  | next => obtain ⟨σ', H2, I6, q6⟩ := q6; exact go (I6.unmarked I.ok) fun s7 I7 => ⟨_, _, I7, q6⟩
  | brk => obtain ⟨σ', H2, I6, q6⟩ := q6; exact go (I6.unmarked I.ok) fun s7 I7 => ⟨_, _, I7, q6⟩
  | cont => obtain ⟨σ', H2, I6, q6⟩ := q6; exact go (I6.unmarked I.ok) fun s7 I7 => ⟨_, _, I7, q6⟩
  | ret u => obtain ⟨v, σ', H2, I6, r6, q6⟩ := q6; exact go (I6.unmarked I.ok) fun s7 I7 => ⟨_, _, _, I7, r6, q6⟩
end L2
namespace L2
open PySem PySem.Spec PyProof.Rows
structure ClassAt1 (P : Program) (w : World) (K : PySem.W.Frag) (mg : Str → Option Value) (base : Heap) (k : Nat) (C : Addr) (name : Str) (ps : List Str) (sp : Sp) : Prop where
  ex : ∃ f fd, FnOk P w K mg base (CX1 P w) k f fd ps sp ∧ Mk K C f ∧ mg name = some (.ref C) ∧ Binds K fd ps []
structure ExcNm (K : PySem.W.Frag) (mg : Str → Option Value) (name : Str) (C : Addr) : Prop where
  mg : mg name = some (.ref C)
  cl : ExcCls K C
  ex : ∃ (bmB : List Value) (B newId initId : String), PySem.W.excIn K C bmB newId = true ∧ ExcBaseFacts B newId initId bmB
section
variable {P : Program} {w : World} {K : PySem.W.Frag} {mg : Str → Option Value} {base : Heap}
theorem Fun.ok1 {x qual : Str} {st : Stmt} {f : Addr} {fd : FuncData} {N ps : List Str} {k : Nat} {sp : Sp} (F : Fun K x qual st f fd) (S : FnScope N ps (defScope st)) (len : ∀ vs H Q E, sp vs H Q E → vs.length = ps.length)
    (hbody : ∀ (cdv : Value) (A : Around) (outer : List Env) (s : Shared) (H : Hp) (vs : List V) (Q : VK) (E : XK), Room k (A.deeper (envOfC qual (defScope st) s.heap.objs.size f cdv)) → sp vs H Q E →
      ∃ t, QSs (cxOf (CX1 P w) P w K mg base N qual (defScope st) f cdv A outer s H E) (defBody st) t ∧ t { nx := fun _ H' => Q .non H', rt := Q } (start N vs) H) : FnOk P w K mg base (CX1 P w) (k + 1) f fd ps sp := by
  obtain ⟨oc, od, kV, doc, pm, an, cdv, ct, osl, rfl, lk, hcd⟩ := F.ex
  refine fn_of lk hcd S len fun A outer s H vs Q E hr hsp => ?_
  obtain ⟨t, h, q⟩ := hbody cdv A outer s H vs Q E hr hsp
  exact ⟨t, h.h, q⟩
end
section
variable {X : Cx} {k j : Nat} {C0 C : Addr} {name y n : Str} {ps : List Str} {sp : Sp} {p pos cpos epos yp hp : Pos} {e : Expr} {es : List Expr} {ta : TA} {t : TS} {i : Nat} {rest : List Stmt} {b0 : Stmt} {body : List Stmt}
end
theorem call_isXm {X : Cx} {v : Value} : CallR (X.marked v) (.builtin "isinstance") (rIsX X.K) := call_isX
def tCut (t : TS) : TS := fun D σ H => ∃ M : St → Hp → Prop, t { D with nx := M } σ H ∧ ∀ σ' H', M σ' H' → D.nx σ' H'
theorem ps_cut {X : Cx} {st : Stmt} {t : TS} (h : PS X st t) : PS X st (tCut t) := by
  intro pins s σ H D I ⟨M, h1, h2⟩
  refine thn (h pins s σ H _ I h1) fun f s1 q => ?_
  cases f with
  | next => obtain ⟨σ', H', I', q⟩ := q; exact ⟨σ', H', I', h2 _ _ q⟩
  | ret v => exact q
  | brk => exact q
  | cont => exact q
theorem cls_of_exc {K : PySem.W.Frag} {C : Addr} {bmB : List Value} {newId : String} (q : PySem.W.excIn K C bmB newId = true) : (PySem.W.clsIn K C).isSome = true := by
  obtain ⟨bm, ns, nm, qn, bs, hd, sn, sub, ab, col, dd, k0, k1, k2, k3, k5, ho, _⟩ := excObj q
  unfold PySem.W.clsIn
  rw [ho]
  rfl
end L2
namespace PySem
section
variable {M : Model} {A : Around} {E : Value → Shared → Prop}
variable {nm q : Str} {C N : Addr} {bs bm : List Value} {hdct : Bool} {sn : List Str} {sub : List Value} {ab : Bool} {col : Option Bool} {dd : Option Addr} {k0 k1 k2 k3 k5 : Option Value} {newId : String}
variable {nm' q' : Str} {C' N' : Addr} {bs' bm' : List Value} {hdct' : Bool} {sn' : List Str} {sub' : List Value} {ab' : Bool} {col' : Option Bool} {dd' : Option Addr} {k0' k1' k2' k3' k5' : Option Value} {newId' : String}
end
end PySem
namespace L2
open PySem PySem.Spec PyProof.Rows
structure MethAt1 (P : Program) (w : World) (K : PySem.W.Frag) (mg : Str → Option Value) (base : Heap) (k : Nat) (C : Addr) (m : Str) (ps : List Str) (sp : Sp) : Prop where
  ex : ∃ f fd, FnOk P w K mg base (CX1 P w) k f fd ps sp ∧ Meth K C m f ∧ Binds K fd ps []
section
variable {X : Cx} {CX : CXT} {k j : Nat} {f C C1 B' : Addr} {fd : FuncData} {ps : List Str} {sp : Sp} {E : XK} {y m n : Str} {p pos cpos epos apos yp hp : Pos} {e o : Expr} {es : List Expr} {ta : TE} {t : TA} {ts : TS} {i : Nat} {b0 : Stmt} {body : List Stmt}
theorem run_fnL {pins : List (Addr × Obj)} {σ : St} {H : Hp} {s : Shared} {Q : VK} {us : List Value} {vs : List V} {W : Value → Shared → Prop} (F : FnOk X.prog X.w X.K X.mg X.base CX k f fd ps sp) (hr : Room k X.A) (hb : Binds X.K fd ps [])
    (hx : ∀ H s e s', Inv X pins σ H s → CX X.stack H s E e s' → W e s') (I : Inv X pins σ H s) (r : Vals vs us) (h : sp vs H Q E) : wpAny (model X.prog X.w) X.A (call (.ref f) us) (EP X pins σ Q) W s := by
  have hl : (us ++ []).length = ps.length := by rw [List.append_nil, ← r.length]; exact F.len _ _ _ _ h
  have hb2 := hb s us I.kIn hl
  rw [List.append_nil] at hb2
  refine wpAny_call (codeAny_mono (F.run X.A X.stack s H ⟨us, []⟩ us vs Q E hr I.env0 hb2 r h) fun r s' hq => ?_)
  cases r with
  | error e => exact hx H s e s' I hq
  | ok fl =>
    cases fl with
    | ret u => exact I.after hq
    | next => exact False.elim hq
    | brk => exact False.elim hq
    | cont => exact False.elim hq
end
end L2
namespace L2
open PySem PySem.Spec PyProof.Rows
section
variable {X : Cx}
def cutT (z : Str) (a b : Nat) : Str := ⟨((z.cps.toList.drop a).take (b - a)).toArray⟩
def rSlS : V → Option Int → Option Int → Hp → VK → Prop := fun x lo hi H Q => ∃ (z : Str) (a b : Nat), x = .str z ∧ a ≤ b ∧ b ≤ z.length ∧ z.length ≤ sizeLine ∧
  Builtin.Str.strSliceIndices lo hi 1 z.length = Builtin.Str.strSliceIndices (some (a : Int)) (some (b : Int)) 1 z.length ∧ Q (.str (cutT z a b)) H
theorem part_of {v : Value} {o : Option Int} (h : IsPart v o) : ∃ p : Option (Int × Tok), v = partValue p ∧ p.map (·.1) = o := by
  cases h with
  | none => exact ⟨none, rfl, rfl⟩
  | int i t => exact ⟨some (i, t), rfl, rfl⟩
theorem sl_str : SlR X rSlS := by
  intro pins s σ H x v vl vu lo hi sl Q I rx hs pl pu h
  obtain ⟨z, a, b, rfl, hab, hb, hz, he, q⟩ := h
  obtain ⟨t, rfl⟩ := rx
  refine ⟨"str", _, F.slot_str_getitem.lookup, typeIs_str _ _ _, ?_⟩
  obtain ⟨l, rfl, el⟩ := part_of pl
  obtain ⟨u, rfl, eu⟩ := part_of pu
  refine with_toks (wpAny_getItem_str_slice (l := l) (u := u) (st := none) hs rfl ?_)
  have ep : slicePicked z l u none = (List.range (b - a)).map (fun k => a + k) := by
    unfold slicePicked
    rw [el, eu]
    exact he.trans (StrLaws.strSliceIndices_plain hab hb)
  have ec : ((slicePicked z l u none).filterMap (z.cps[·]?)).toArray = (cutT z a b).cps := by
    have e1 : slicePicked z l u none = Builtin.Str.strSliceIndices (some (a : Int)) (some (b : Int)) 1 z.length := by
      unfold slicePicked
      rw [el, eu]
      exact he
    rw [e1, StrLaws.sliced_plain z hab hb]
    rfl
  have lp : (slicePicked z l u none).length = b - a := by rw [ep, List.length_map, List.length_range]
  unfold sliceMade
  rw [ec, lp]
  by_cases hw : b - a = z.length
  · rw [if_pos (by rw [hw]; simp)]
    have : cutT z a b = z := by
      have ha : a = 0 := by omega
      subst ha
      unfold cutT
      rw [List.drop_zero, List.take_of_length_le (by rw [Array.length_toList]; show z.length ≤ _; omega)]
    rw [this] at q
    exact fun _ => ⟨.str z, H, I, ⟨t, rfl⟩, q⟩
  · rw [if_neg (by simp [hw])]
    refine ⟨?_, fun ht => ⟨.str _, H, I.tok _ ht, ⟨_, rfl⟩, q⟩⟩
    show (cutT z a b).cps.size ≤ sizeLine
    unfold cutT
    rw [List.size_toArray, List.length_take, List.length_drop, Array.length_toList]
    have : z.cps.size ≤ sizeLine := hz
    omega
theorem sl_to {n : Nat} {b : Nat} (h : b ≤ n) : Builtin.Str.strSliceIndices none (some (b : Int)) 1 n = Builtin.Str.strSliceIndices (some ((0 : Nat) : Int)) (some (b : Int)) 1 n := by
  unfold Builtin.Str.strSliceIndices
  have h0 : max (0 : Int) (min 0 (n : Int)) = 0 := by omega
  simp [h0]
theorem sl_from {n : Nat} {a : Int} : Builtin.Str.strSliceIndices (some a) none 1 n = Builtin.Str.strSliceIndices (some a) (some (n : Int)) 1 n := by
  unfold Builtin.Str.strSliceIndices
  have h1 : ¬ ((n : Int) < 0) := by omega
  simp [h1]
theorem sl_but {n : Nat} (h : 1 ≤ n) : Builtin.Str.strSliceIndices none (some (-1 : Int)) 1 n = Builtin.Str.strSliceIndices (some ((0 : Nat) : Int)) (some ((n - 1 : Nat) : Int)) 1 n := by
  unfold Builtin.Str.strSliceIndices
  have h1 : ¬ (((n - 1 : Nat) : Int) < 0) := by omega
  have h2 : max (0 : Int) (min ((-1 : Int) + n) n) = ((n - 1 : Nat) : Int) := by omega
  have h3 : max (0 : Int) (min ((n - 1 : Nat) : Int) n) = ((n - 1 : Nat) : Int) := by omega
  simp only [h1, if_false, show ((-1 : Int) < 0) = True from by simp, if_true, h2, h3, show ((1 : Int) > 0) = True from by simp]
  have h0 : max (0 : Int) (min 0 (n : Int)) = 0 := by omega
  simp [h0]
end
structure DefAt1 (P : Program) (w : World) (K : PySem.W.Frag) (mg : Str → Option Value) (base : Heap) (k : Nat) (name : Str) (ps : List Str) (sp : Sp) : Prop where
  ex : ∃ f fd, FnOk P w K mg base (CX1 P w) k f fd ps sp ∧ mg name = some (.ref f) ∧ PySem.W.keepIn K (.ref f) = true ∧ Binds K fd ps []
def tTryDef (sp : Sp) (ta : TA) (i : Nat) (C : Addr) (t : TS) : TS := fun D σ H => ta σ H fun vs H1 => sp vs H1 (fun _ _ => False) (fun cls _ H' => cls = .ref C ∧ tAs i C t D σ H')
section
variable {X : Cx} {k j : Nat} {C : Addr} {name y n : Str} {ps : List Str} {sp : Sp} {p pos cpos epos yp hp : Pos} {e : Expr} {es : List Expr} {ta : TA} {t : TS} {i : Nat} {rest : List Stmt} {b0 : Stmt} {body : List Stmt}
theorem ps_tryDef (D : DefAt1 X.prog X.w X.K X.mg X.base k name ps sp) (Z : ExcNm X.K X.mg y C) (hr : Room j X.A) (hno : ∀ e s, ¬ X.xe e s) (hs : X.stack = X.env :: X.outer ∧ X.env.frame = some X.env.locals) (hN : X.N.Nodup) (hi : X.N[i]? = some n)
    (hl : X.env.scope.names.lookup n = some .local) (ha : PA X (e :: es) ta) (hb : ∀ x, QSs (X.marked (.ref x)) (b0 :: body) t) (hj : k ≤ j := by decide) (hg : Gl X name := by rfl) (hg2 : Gl X y := by rfl) (hdb : (name == ("__debug__" : Str)) = false := by decide) (hdb2 : (y == ("__debug__" : Str)) = false := by decide)
    (h1 : unstar e = true := by rfl) (h2 : es.all unstar = true := by rfl) (hsw : swapsWith (.Call (.Name name p) (e :: es) [] cpos) none epos.line X.env = pure false := by rfl) :
    PS X (.Try (.Expr (.Call (.Name name p) (e :: es) [] cpos) epos :: rest) [.ExceptHandler (some (.Name y yp)) (some n) (b0 :: body) hp] [] [] pos) (tTryDef sp ta i C t) := by
  intro pins s σ H D' I h
  obtain ⟨f, fd, F, hm, hk, hB⟩ := D.ex
  obtain ⟨bmB, Bn, newId, initId, q, FB⟩ := Z.ex
  have F1 : FnOk X.prog X.w X.K X.mg X.base (CX1 X.prog X.w) k f fd ps sp := F
  refine wpAny_Try_except (wpAny_execs_cons ?_)
  refine wpAny_mono (E := fun e s1 => wpAny (model X.prog X.w) X.A (noteFrame e X.env) (fun _ s₂ => wpAny (model X.prog X.w) X.A (setFlight e none) (fun _ s₃ => wpAny (model X.prog X.w) X.A (handleBy e X.env [.ExceptHandler (some (.Name y yp)) (some n) (b0 :: body) hp]) (SP X pins D') X.xe s₃) X.xe s₂) X.xe s1) (Q := fun _ _ => False) ?_ (fun _ _ z => z.elim) fun _ _ z => z
  refine wpAny_Expr_any ?_ I.quiet hsw
  refine wpAny_Call_Name_kw (ld_glob I hg hm ?_ hdb)
  refine PySem.W.callWith_K (h₀ := X.base) I.ok.mod.kin hk (wpAny_mono (ha cpos pins s σ H _ I h) (fun us s1 ⟨vs, H1, I1, r, q1⟩ => ⟨I1.kIn, ?_⟩) fun _ _ z => (hno _ _ z).elim) (starEach_un h1) (backTo_un h2)
  refine wpAny_mono (run_fnL (Q := fun _ _ => False) (E := fun cls _ H' => cls = .ref C ∧ tAs i C t D' σ H') F1 (hr.mono hj) hB (fun H2 s2 e2 s3 I2 c => ?_) I1 r q1) (fun _ _ z => ?_) fun _ _ z => z
  · exact caught hs hN hi hl hg2 Z.mg q FB hb I2 c hdb2
  · obtain ⟨_, _, _, _, z⟩ := z
    exact z.elim
end
end L2
namespace Sl
open PySem L2
def Tk (H H' : Hp) : Prop := ∀ b ys, H b = some (.tup ys) → H' b = some (.tup ys)
theorem Tk.of {H H' : Hp} (s : Same H H') : Tk H H' := fun b ys e => s b _ e
theorem Tk.refl (H : Hp) : Tk H H := fun _ _ e => e
theorem Tk.trans {H H1 H2 : Hp} (a : Tk H H1) (b : Tk H1 H2) : Tk H H2 := fun c ys e => b c ys (a c ys e)
theorem Tk.new {H H1 : Hp} {t : Addr} {o : HO} (s : Tk H H1) (ht : H1 t = none) : Tk H (upd H1 t o) := fun b ys e => by
  rw [upd_ne (ne_of_none (s b ys e) ht)]
  exact s b ys e
theorem Tk.lst {H H1 : Hp} {l : Addr} {xs : List V} {o : HO} (s : Tk H H1) (hl : H1 l = some (.lst xs)) : Tk H (upd H1 l o) := fun b ys e => by
  rw [upd_ne (ne_of (s b ys e) hl (fun z => nomatch z))]
  exact s b ys e
theorem Tk.dT {H H1 : Hp} {l : Addr} {kvs : List (List Key × V)} {o : HO} (s : Tk H H1) (hl : H1 l = some (.dT kvs)) : Tk H (upd H1 l o) := fun b ys e => by
  rw [upd_ne (ne_of (s b ys e) hl (fun z => nomatch z))]
  exact s b ys e
theorem Same.new {H H1 : Hp} {t : Addr} {o : HO} (s : Same H H1) (ht : H1 t = none) : Same H (upd H1 t o) := fun b u e => by
  rw [upd_ne (ne_of_none (s b u e) ht)]
  exact s b u e
theorem Same.own {H H1 : Hp} {l : Addr} {o : HO} (s : Same H H1) (hl : H l = none) : Same H (upd H1 l o) := fun b u e => by
  rw [upd_ne (ne_of_none e hl)]
  exact s b u e
def TupIs (H : Hp) (x : V) (k : List Key) : Prop := ∃ a, x = V.ref a ∧ H a = some (.tup (k.map kV))
def TL (H : Hp) (xs : List V) (ks : List (List Key)) : Prop := Paired (TupIs H) xs ks
theorem TL.keep {H H' : Hp} {xs : List V} {ks : List (List Key)} (t : TL H xs ks) (k : Tk H H') : TL H' xs ks := Paired.mapP t fun _ _ ⟨a, e, h⟩ => ⟨a, e, k a _ h⟩
theorem TL.snoc : ∀ {H : Hp} {xs : List V} {ks : List (List Key)} {x : V} {k : List Key}, TL H xs ks → TupIs H x k → TL H (xs ++ [x]) (ks ++ [k])
  | _, _, _, _, _, .nil, h => .cons h .nil
  | _, _, _, _, _, .cons a t, h => .cons a (TL.snoc t h)
theorem TL.append : ∀ {H : Hp} {xs ys : List V} {ks js : List (List Key)}, TL H xs ks → TL H ys js → TL H (xs ++ ys) (ks ++ js)
  | _, _, _, _, _, .nil, h => h
  | _, _, _, _, _, .cons a t, h => .cons a (TL.append t h)
theorem TL.length {H : Hp} {xs : List V} {ks : List (List Key)} (t : TL H xs ks) : xs.length = ks.length := Paired.length t
theorem TL.get : ∀ {H : Hp} {xs : List V} {ks : List (List Key)} {i : Nat} {k : List Key}, TL H xs ks → ks[i]? = some k → ∃ x, xs[i]? = some x ∧ TupIs H x k
  | _, _, _, _, _, .nil, e => by simp at e
  | _, _, _, 0, _, .cons a t, e => by simp at e; subst e; exact ⟨_, rfl, a⟩
  | _, _, _, i + 1, k, .cons a t, e => by
    obtain ⟨x, h1, h2⟩ := TL.get (i := i) (k := k) t (by simpa using e)
    exact ⟨x, by simpa using h1, h2⟩
theorem TL.at : ∀ {H : Hp} {xs : List V} {ks : List (List Key)} {i : Nat} {x : V}, TL H xs ks → xs[i]? = some x → ∃ k, ks[i]? = some k ∧ TupIs H x k
  | _, _, _, _, _, .nil, e => by simp at e
  | _, _, _, 0, _, .cons a t, e => by simp at e; subst e; exact ⟨_, rfl, a⟩
  | _, _, _, i + 1, x, .cons a t, e => by
    obtain ⟨k, h1, h2⟩ := TL.at (i := i) (x := x) t (by simpa using e)
    exact ⟨k, by simpa using h1, h2⟩
def rowD (c r : Int) : List Key := [.inr "row", .inl c, .inl r]
def colD (c r : Int) : List Key := [.inr "column", .inl c, .inl r]
theorem row_ne_col {a b c d : Int} : rowD a b ≠ colD c d := by
  intro e
  have := Sum.inr.inj (List.cons.inj e).1
  exact absurd this (by decide +kernel)
theorem rowD_inj {a b c d : Int} (e : rowD a b = rowD c d) : a = c ∧ b = d := by
  have h := (List.cons.inj e).2
  exact ⟨Sum.inl.inj (List.cons.inj h).1, Sum.inl.inj (List.cons.inj (List.cons.inj h).2).1⟩
theorem colD_inj {a b c d : Int} (e : colD a b = colD c d) : a = c ∧ b = d := by
  have h := (List.cons.inj e).2
  exact ⟨Sum.inl.inj (List.cons.inj h).1, Sum.inl.inj (List.cons.inj (List.cons.inj h).2).1⟩
def doorsAt (w h r c : Nat) : List (List Key) := (if c + 1 < w then [rowD c r] else []) ++ (if r + 1 < h then [colD c r] else [])
def doorsRow (w h r n : Nat) : List (List Key) := (List.range n).flatMap (doorsAt w h r)
def doorsTo (w h n : Nat) : List (List Key) := (List.range n).flatMap fun r => doorsRow w h r w
def doors (w h : Nat) : List (List Key) := doorsTo w h h
theorem doorsRow_succ (w h r n : Nat) : doorsRow w h r (n + 1) = doorsRow w h r n ++ doorsAt w h r n := by
  unfold doorsRow
  rw [List.range_succ, List.flatMap_append]
  simp
theorem doorsTo_succ (w h n : Nat) : doorsTo w h (n + 1) = doorsTo w h n ++ doorsRow w h n w := by
  unfold doorsTo
  rw [List.range_succ, List.flatMap_append]
  simp
theorem doorsAt_len (w h r c : Nat) : (doorsAt w h r c).length ≤ 2 := by
  unfold doorsAt
  split <;> split <;> simp
theorem doorsRow_len (w h r : Nat) : ∀ n, (doorsRow w h r n).length ≤ 2 * n
  | 0 => by simp [doorsRow]
  | n + 1 => by
    rw [doorsRow_succ, List.length_append]
    have := doorsRow_len w h r n
    have := doorsAt_len w h r n
    omega
theorem doorsTo_len (w h : Nat) : ∀ n, (doorsTo w h n).length ≤ 2 * (n * w)
  | 0 => by simp [doorsTo]
  | n + 1 => by
    rw [doorsTo_succ, List.length_append]
    have := doorsTo_len w h n
    have := doorsRow_len w h n w
    rw [Nat.add_mul, Nat.one_mul]
    omega
theorem mem_doorsAt {w h r c : Nat} {k : List Key} : k ∈ doorsAt w h r c ↔ (k = rowD c r ∧ c + 1 < w) ∨ (k = colD c r ∧ r + 1 < h) := by
  unfold doorsAt
  rw [List.mem_append]
  by_cases h1 : c + 1 < w <;> by_cases h2 : r + 1 < h <;> simp [h1, h2]
theorem mem_doors {w h : Nat} {k : List Key} : k ∈ doors w h ↔ ∃ r c : Nat, r < h ∧ c < w ∧ ((k = rowD c r ∧ c + 1 < w) ∨ (k = colD c r ∧ r + 1 < h)) := by
  unfold doors doorsTo doorsRow
  rw [List.mem_flatMap]
  constructor
  · rintro ⟨r, hr, hk⟩
    rw [List.mem_flatMap] at hk
    obtain ⟨c, hc, hk⟩ := hk
    exact ⟨r, c, List.mem_range.mp hr, List.mem_range.mp hc, mem_doorsAt.mp hk⟩
  · rintro ⟨r, c, hr, hc, hk⟩
    exact ⟨r, List.mem_range.mpr hr, List.mem_flatMap.mpr ⟨c, List.mem_range.mpr hc, mem_doorsAt.mpr hk⟩⟩
theorem mem_rowD {w h : Nat} {c r : Int} : rowD c r ∈ doors w h ↔ 0 ≤ c ∧ c + 1 < w ∧ 0 ≤ r ∧ r < h := by
  rw [mem_doors]
  constructor
  · rintro ⟨r', c', hr, hc, ⟨e, h1⟩ | ⟨e, h1⟩⟩
    · obtain ⟨rfl, rfl⟩ := rowD_inj e
      omega
    · exact absurd e row_ne_col
  · rintro ⟨h1, h2, h3, h4⟩
    refine ⟨r.toNat, c.toNat, by omega, by omega, .inl ⟨?_, by omega⟩⟩
    rw [Int.toNat_of_nonneg h1, Int.toNat_of_nonneg h3]
theorem mem_colD {w h : Nat} {c r : Int} : colD c r ∈ doors w h ↔ 0 ≤ c ∧ c < w ∧ 0 ≤ r ∧ r + 1 < h := by
  rw [mem_doors]
  constructor
  · rintro ⟨r', c', hr, hc, ⟨e, h1⟩ | ⟨e, h1⟩⟩
    · exact absurd e.symm row_ne_col
    · obtain ⟨rfl, rfl⟩ := colD_inj e
      omega
  · rintro ⟨h1, h2, h3, h4⟩
    refine ⟨r.toNat, c.toNat, by omega, by omega, .inr ⟨?_, by omega⟩⟩
    rw [Int.toNat_of_nonneg h1, Int.toNat_of_nonneg h3]
theorem nd_doorsAt (w h r c : Nat) : (doorsAt w h r c).Nodup := by
  unfold doorsAt
  by_cases h1 : c + 1 < w <;> by_cases h2 : r + 1 < h <;> simp [h1, h2, row_ne_col]
theorem doorsAt_place {w h r c : Nat} {k : List Key} (hk : k ∈ doorsAt w h r c) : ∃ x, k = [.inr x, .inl (c : Int), .inl (r : Int)] := by
  rcases mem_doorsAt.mp hk with ⟨e, _⟩ | ⟨e, _⟩
  · exact ⟨_, e⟩
  · exact ⟨_, e⟩
theorem nd_doorsRow (w h r : Nat) : ∀ n, (doorsRow w h r n).Nodup
  | 0 => by simp [doorsRow]
  | n + 1 => by
    rw [doorsRow_succ]
    refine List.nodup_append.mpr ⟨nd_doorsRow w h r n, nd_doorsAt w h r n, fun a ha b hb e => ?_⟩
    subst e
    unfold doorsRow at ha
    obtain ⟨c, hc, ha⟩ := List.mem_flatMap.mp ha
    obtain ⟨x, ex⟩ := doorsAt_place ha
    obtain ⟨y, ey⟩ := doorsAt_place hb
    rw [ex] at ey
    have := Sum.inl.inj (List.cons.inj (List.cons.inj ey).2).1
    have := List.mem_range.mp hc
    omega
theorem nd_doorsTo (w h : Nat) : ∀ n, (doorsTo w h n).Nodup
  | 0 => by simp [doorsTo]
  | n + 1 => by
    rw [doorsTo_succ]
    refine List.nodup_append.mpr ⟨nd_doorsTo w h n, nd_doorsRow w h n w, fun a ha b hb e => ?_⟩
    subst e
    unfold doorsTo at ha
    obtain ⟨r, hr, ha⟩ := List.mem_flatMap.mp ha
    unfold doorsRow at ha hb
    obtain ⟨c, hc, ha⟩ := List.mem_flatMap.mp ha
    obtain ⟨c', hc', hb⟩ := List.mem_flatMap.mp hb
    obtain ⟨x, ex⟩ := doorsAt_place ha
    obtain ⟨y, ey⟩ := doorsAt_place hb
    rw [ex] at ey
    have := Sum.inl.inj (List.cons.inj (List.cons.inj (List.cons.inj ey).2).2).1
    have := List.mem_range.mp hr
    omega
theorem nd_doors (w h : Nat) : (doors w h).Nodup := nd_doorsTo w h h
def okSize (w h : Nat) : Prop := 1 ≤ w ∧ w ≤ 12 ∧ 1 ≤ h ∧ h ≤ 12 ∧ w * h ≤ 36
theorem doors_len {w h : Nat} (s : okSize w h) : (doors w h).length ≤ 72 := by
  have := doorsTo_len w h h
  have : h * w = w * h := Nat.mul_comm h w
  have := s.2.2.2.2
  show (doorsTo w h h).length ≤ 72
  omega
def signs3 : List Str := [".", "|", "-"]
structure Tab (w h : Nat) (kvs : List (List Key × V)) : Prop where
  keys : kvs.map (·.1) = doors w h
  vals : ∀ p ∈ kvs, ∃ x ∈ signs3, p.2 = .str x
def sgAt (kvs : List (List Key × V)) (k : List Key) : Str := match valV kvs k with
  | some (.str x) => x
  | _ => ""
def bare (w h : Nat) : List (List Key × V) := (doors w h).map fun k => (k, V.str ".")
theorem bare_keys (w h : Nat) : (bare w h).map (·.1) = doors w h := by
  unfold bare
  rw [List.map_map]
  exact List.map_id _
theorem bare_tab (w h : Nat) : Tab w h (bare w h) := ⟨bare_keys w h, fun p hp => by
  obtain ⟨k, _, e⟩ := List.mem_map.mp hp
  subst e
  exact ⟨".", List.mem_cons_self, rfl⟩⟩
section
variable {κ : Type} [DecidableEq κ]
theorem valV_mem : ∀ {kvs : List (κ × V)} {k : κ} {v : V}, valV kvs k = some v → (k, v) ∈ kvs
  | [], _, _, h => by cases h
  | p :: r, k, v, h => by
    by_cases e : p.1 = k
    · rw [valV_pos e] at h
      cases h
      subst e
      exact List.mem_cons_self
    · rw [valV_neg e] at h
      exact List.mem_cons_of_mem _ (valV_mem h)
theorem valV_some : ∀ {kvs : List (κ × V)} {k : κ}, k ∈ kvs.map (·.1) → ∃ v, valV kvs k = some v
  | [], _, h => by cases h
  | p :: r, k, h => by
    by_cases e : p.1 = k
    · exact ⟨_, valV_pos e⟩
    · rw [valV_neg e]
      rw [List.map_cons] at h
      rcases List.mem_cons.mp h with z | z
      · exact absurd z.symm e
      · exact valV_some z
theorem valV_none : ∀ {kvs : List (κ × V)} {k : κ}, ¬ k ∈ kvs.map (·.1) → valV kvs k = none
  | [], _, _ => rfl
  | p :: r, k, h => by
    rw [List.map_cons, List.mem_cons] at h
    rw [valV_neg fun e => h (.inl e.symm)]
    exact valV_none fun m => h (.inr m)
theorem putK_keys {kvs : List (κ × V)} {k : κ} (v : V) (h : k ∈ kvs.map (·.1)) : (putK kvs k v).map (·.1) = kvs.map (·.1) := by
  obtain ⟨u, e⟩ := valV_some h
  unfold putK
  rw [if_pos (by rw [valV_any, e]; rfl), List.map_map]
  refine List.map_congr_left fun p _ => ?_
  show (if p.1 = k then (p.1, v) else p).1 = p.1
  split <;> rfl
end
theorem Tab.sg {w h : Nat} {kvs : List (List Key × V)} (t : Tab w h kvs) {k : List Key} (hk : k ∈ doors w h) : valV kvs k = some (.str (sgAt kvs k)) ∧ sgAt kvs k ∈ signs3 := by
  obtain ⟨v, e⟩ := valV_some (kvs := kvs) (k := k) (by rw [t.keys]; exact hk)
  obtain ⟨x, hx, ev⟩ := t.vals _ (valV_mem e)
  have ev' : v = .str x := ev
  subst ev'
  have : sgAt kvs k = x := by unfold sgAt; rw [e]
  rw [this]
  exact ⟨e, hx⟩
theorem Tab.put {w h : Nat} {kvs : List (List Key × V)} (t : Tab w h kvs) {k : List Key} (hk : k ∈ doors w h) {x : Str} (hx : x ∈ signs3) : Tab w h (putK kvs k (.str x)) where
  keys := by rw [putK_keys _ (by rw [t.keys]; exact hk)]; exact t.keys
  vals := fun p hp => by
    obtain ⟨j, v⟩ := p
    have hj : j ∈ (putK kvs k (.str x)).map (·.1) := List.mem_map.mpr ⟨_, hp, rfl⟩
    unfold putK at hp
    split at hp
    · obtain ⟨q, hq, e⟩ := List.mem_map.mp hp
      split at e
      · cases e; exact ⟨x, hx, rfl⟩
      · cases e; exact t.vals _ hq
    · rcases List.mem_append.mp hp with hq | hq
      · exact t.vals _ hq
      · cases List.mem_singleton.mp hq; exact ⟨x, hx, rfl⟩
theorem Tab.nd {w h : Nat} {kvs : List (List Key × V)} (t : Tab w h kvs) : (kvs.map (·.1)).Nodup := by rw [t.keys]; exact nd_doors w h
theorem Tab.len {w h : Nat} {kvs : List (List Key × V)} (t : Tab w h kvs) (s : okSize w h) : kvs.length ≤ 72 := by
  have := congrArg List.length t.keys
  rw [List.length_map] at this
  rw [this]
  exact doors_len s
theorem n1 : ¬ (("wide" : Str) = "high") := by decide +kernel
theorem n2 : ¬ (("wide" : Str) = "signs") := by decide +kernel
theorem n3 : ¬ (("high" : Str) = "signs") := by decide +kernel
theorem n2' : ¬ (("signs" : Str) = "wide") := by decide +kernel
def flds (w h : Nat) (d : Addr) : List (Str × V) := putF "signs" (.ref d) (putF "high" (.int h) (putF "wide" (.int w) []))
theorem flds_wide (w h : Nat) (d : Addr) : (flds w h d).lookup ("wide" : Str) = some (.int w) := by
  unfold flds
  rw [lookup_putF, if_neg n2, lookup_putF, if_neg n1, lookup_putF, if_pos rfl]
theorem flds_high (w h : Nat) (d : Addr) : (flds w h d).lookup ("high" : Str) = some (.int h) := by
  unfold flds
  rw [lookup_putF, if_neg n3, lookup_putF, if_pos rfl]
theorem flds_signs (w h : Nat) (d : Addr) : (flds w h d).lookup ("signs" : Str) = some (.ref d) := by
  unfold flds
  rw [lookup_putF, if_pos rfl]
theorem flds_no (w h : Nat) (d : Addr) {m : Str} (h1 : ¬ m = "wide") (h2 : ¬ m = "high") (h3 : ¬ m = "signs") : (flds w h d).lookup m = none := by
  unfold flds
  rw [lookup_putF, if_neg h3, lookup_putF, if_neg h2, lookup_putF, if_neg h1]
  rfl
structure BoardAt (C : Addr) (H : Hp) (p : Addr) (w h : Nat) (kvs : List (List Key × V)) : Prop where
  ob : ∃ dx d, H p = some (.ins C dx (flds w h d)) ∧ H d = some (.dT kvs)
  sz : okSize w h
  tb : Tab w h kvs
theorem BoardAt.keep {C : Addr} {H H' : Hp} {p : Addr} {w h : Nat} {kvs : List (List Key × V)} (b : BoardAt C H p w h kvs) (s : Same H H') : BoardAt C H' p w h kvs := by
  obtain ⟨⟨dx, d, h1, h2⟩, sz, tb⟩ := b
  exact ⟨⟨dx, d, s _ _ h1, s _ _ h2⟩, sz, tb⟩
end Sl
namespace Sl
open PySem L2
def inside (w h : Nat) (c r : Int) : Prop := 0 ≤ c ∧ c < w ∧ 0 ≤ r ∧ r < h
instance (w h : Nat) (c r : Int) : Decidable (inside w h c r) := by unfold inside; exact inferInstance
structure Qr where
  c : Int
  r : Int
  k : Int
  deriving DecidableEq
def Qr.key (q : Qr) : List Key := [.inl q.c, .inl q.r, .inl q.k]
def Qr.on (w h : Nat) (q : Qr) : Prop := 0 ≤ q.c ∧ q.c < w ∧ 0 ≤ q.r ∧ q.r < h ∧ 0 ≤ q.k ∧ q.k < 4
end Sl
namespace Sl
open PySem L2
def PairIs (H : Hp) (x : V) (p : List Key × Str) : Prop := ∃ a ta, x = V.ref a ∧ H a = some (.tup [.ref ta, .str p.2]) ∧ H ta = some (.tup (p.1.map kV))
def PL (H : Hp) (xs : List V) (ps : List (List Key × Str)) : Prop := Paired (PairIs H) xs ps
theorem PL.keep {H H' : Hp} {xs : List V} {ps : List (List Key × Str)} (t : PL H xs ps) (k : Tk H H') : PL H' xs ps := Paired.mapP t fun _ _ ⟨a, ta, e, h1, h2⟩ => ⟨a, ta, e, k a _ h1, k ta _ h2⟩
theorem PL.snoc : ∀ {H : Hp} {xs : List V} {ps : List (List Key × Str)} {x : V} {p : List Key × Str}, PL H xs ps → PairIs H x p → PL H (xs ++ [x]) (ps ++ [p])
  | _, _, _, _, _, .nil, h => .cons h .nil
  | _, _, _, _, _, .cons a t, h => .cons a (PL.snoc t h)
theorem PL.length {H : Hp} {xs : List V} {ps : List (List Key × Str)} (t : PL H xs ps) : xs.length = ps.length := Paired.length t
theorem PL.at : ∀ {H : Hp} {xs : List V} {ps : List (List Key × Str)} {i : Nat} {x : V}, PL H xs ps → xs[i]? = some x → ∃ p, ps[i]? = some p ∧ PairIs H x p
  | _, _, _, _, _, .nil, e => by simp at e
  | _, _, _, 0, _, .cons a t, e => by simp at e; subst e; exact ⟨_, rfl, a⟩
  | _, _, _, i + 1, x, .cons a t, e => by
    obtain ⟨k, h1, h2⟩ := PL.at (i := i) (x := x) t (by simpa using e)
    exact ⟨k, by simpa using h1, h2⟩
theorem atKeys_tl {H : Hp} : ∀ {ks : List (List Key)} {as : List Addr}, AtKeys H ks as → TL H (as.map V.ref) ks
  | [], [], _ => .nil
  | _ :: _, a :: _, h => .cons ⟨a, rfl, h.1⟩ (atKeys_tl h.2)
  | [], _ :: _, h => h.elim
  | _ :: _, [], h => h.elim
def putAll (kb : List (List Key × V)) (ps : List (List Key × Str)) : List (List Key × V) := ps.foldl (fun kb p => putK kb p.1 (.str p.2)) kb
theorem putAll_take {kb : List (List Key × V)} {ps : List (List Key × Str)} {i : Nat} {p : List Key × Str} (e : ps[i]? = some p) : putAll kb (ps.take (i + 1)) = putK (putAll kb (ps.take i)) p.1 (.str p.2) := by
  unfold putAll
  rw [List.take_add_one, e, Option.toList_some, List.foldl_append]
  rfl
theorem putAll_off : ∀ (ps : List (List Key × Str)) (kb : List (List Key × V)) (k : List Key), (¬ k ∈ ps.map (·.1)) → valV (putAll kb ps) k = valV kb k
  | [], _, _, _ => rfl
  | p :: r, kb, k, h => by
    rw [List.map_cons, List.mem_cons] at h
    show valV (putAll (putK kb p.1 (.str p.2)) r) k = _
    rw [putAll_off r _ k fun m => h (.inr m), valV_put, if_neg fun e => h (.inl e)]
theorem putAll_on : ∀ (ps : List (List Key × Str)) (kb : List (List Key × V)) (p : List Key × Str), (ps.map (·.1)).Nodup → p ∈ ps → valV (putAll kb ps) p.1 = some (.str p.2)
  | [], _, _, _, h => by cases h
  | q :: r, kb, p, hn, h => by
    rw [List.map_cons, List.nodup_cons] at hn
    show valV (putAll (putK kb q.1 (.str q.2)) r) p.1 = _
    rcases List.mem_cons.mp h with e | h
    · subst e
      rw [putAll_off r _ _ hn.1, valV_put, if_pos rfl]
    · exact putAll_on r _ p hn.2 h
theorem sgAt_of {kvs : List (List Key × V)} {k : List Key} {x : Str} (e : valV kvs k = some (.str x)) : sgAt kvs k = x := by unfold sgAt; rw [e]
theorem row_col_ne : ¬ (("column" : Str) = "row") := by decide +kernel
theorem door_cases {w h : Nat} {k : List Key} (hk : k ∈ doors w h) : (∃ c r : Int, k = rowD c r ∧ 0 ≤ c ∧ c + 1 < w ∧ 0 ≤ r ∧ r < h) ∨ (∃ c r : Int, k = colD c r ∧ 0 ≤ c ∧ c < w ∧ 0 ≤ r ∧ r + 1 < h) := by
  obtain ⟨r, c, h1, h2, h3⟩ := mem_doors.mp hk
  rcases h3 with ⟨rfl, h3⟩ | ⟨rfl, h3⟩
  · exact .inl ⟨c, r, rfl, mem_rowD.mp hk⟩
  · exact .inr ⟨c, r, rfl, mem_colD.mp hk⟩
theorem nodup_on {f : List Key → List Key} : ∀ (l : List (List Key)), l.Nodup → (∀ a ∈ l, ∀ b ∈ l, f a = f b → a = b) → (l.map f).Nodup
  | [], _, _ => .nil
  | a :: r, hn, hf => by
    rw [List.nodup_cons] at hn
    rw [List.map_cons, List.nodup_cons]
    refine ⟨fun m => ?_, nodup_on r hn.2 fun x hx y hy => hf x (List.mem_cons_of_mem _ hx) y (List.mem_cons_of_mem _ hy)⟩
    obtain ⟨b, hb, e⟩ := List.mem_map.mp m
    exact hn.1 (by rw [← hf b (List.mem_cons_of_mem _ hb) a List.mem_cons_self e]; exact hb)
def Moved (m : List Key → List Key) (g : Str → Str) (w h : Nat) (kvs kb : List (List Key × V)) : Prop := ∀ k ∈ doors w h, sgAt kb (m k) = g (sgAt kvs k)
def movedPs (m : List Key → List Key) (g : Str → Str) (w h : Nat) (kvs : List (List Key × V)) : List (List Key × Str) := (doors w h).map fun k => (m k, g (sgAt kvs k))
theorem moved_of {m : List Key → List Key} {g : Str → Str} {w h : Nat} {kvs kb : List (List Key × V)} (hi : ∀ a ∈ doors w h, ∀ b ∈ doors w h, m a = m b → a = b) : Moved m g w h kvs (putAll kb (movedPs m g w h kvs)) := fun k hk => by
  refine sgAt_of (putAll_on _ _ (m k, g (sgAt kvs k)) ?_ (List.mem_map.mpr ⟨k, hk, rfl⟩))
  unfold movedPs
  rw [List.map_map]
  exact nodup_on _ (nd_doors w h) hi
end Sl
namespace Sl
open PySem L2
end Sl
namespace Sl
open PySem L2
section
variable {α : Type} [DecidableEq α]
def walkG (step : α → Bool → α) (first : α) : Nat → α → Bool → List α
  | 0, _, _ => []
  | n + 1, q, lv => if q = first then [] else q :: walkG step first n (step q (!lv)) (!lv)
def lineG (step : α → Bool → α) (F : Nat) (q : α) : List α := q :: walkG step q F (step q true) true
def linesStep (step : α → Bool → α) (F : Nat) (found : List (List α)) (q : α) : List (List α) := if found.any (fun l => decide (q ∈ l)) then found else found ++ [lineG step F q]
def pathG (step : α → Bool → α) (q : α) : Nat → α
  | 0 => q
  | n + 1 => step (pathG step q n) (n % 2 == 0)
structure Per (step : α → Bool → α) (q : α) (n : Nat) : Prop where
  pos : 0 < n
  back : pathG step q n = q
  min : ∀ j, 0 < j → j < n → pathG step q j ≠ q
structure Inv2 (step : α → Bool → α) (L : List α) : Prop where
  on : ∀ q ∈ L, ∀ lv, step q lv ∈ L
  ne : ∀ q ∈ L, ∀ lv, step q lv ≠ q
  back : ∀ q ∈ L, ∀ lv, step (step q lv) lv = q
section
variable {step : α → Bool → α} {L : List α} (I : Inv2 step L) {q : α} (hq : q ∈ L)
include I hq
end
end
end Sl
namespace Sl
open PySem L2
theorem lt_line {n : Nat} (h : n ≤ 100000) : n < sizeLine := by rw [sizeLine_eq]; omega
end Sl
namespace Sl
open PySem L2
section
variable {α : Type}
structure Eqv (E : α → α → Prop) : Prop where
  refl : ∀ x, E x x
  symm : ∀ {x y}, E x y → E y x
  trans : ∀ {x y z}, E x y → E y z → E x z
end
section
variable {α : Type} [DecidableEq α]
inductive Conn (s : α → Bool → α) (ok : α → Bool → Prop) (x : α) : α → Prop
  | refl : Conn s ok x x
  | step {y : α} (lv : Bool) : Conn s ok x y → ok y lv → Conn s ok x (s y lv)
theorem Conn.trans {s : α → Bool → α} {ok : α → Bool → Prop} {x y z : α} (a : Conn s ok x y) (b : Conn s ok y z) : Conn s ok x z := by
  induction b with
  | refl => exact a
  | step lv _ h ih => exact .step lv ih h
theorem Conn.on {s : α → Bool → α} {ok : α → Bool → Prop} {L : List α} (I : Inv2 s L) {x y : α} (hx : x ∈ L) (a : Conn s ok x y) : y ∈ L := by
  induction a with
  | refl => exact hx
  | step lv _ _ ih => exact I.on _ ih lv
theorem Conn.symm {s : α → Bool → α} {ok : α → Bool → Prop} {L : List α} (I : Inv2 s L) (hok : ∀ q ∈ L, ∀ lv, ok q lv → ok (s q lv) lv) {x y : α} (hx : x ∈ L) (a : Conn s ok x y) : Conn s ok y x := by
  induction a with
  | refl => exact .refl
  | step lv a h ih =>
    have hy := a.on I hx
    have h1 : Conn s ok (s _ lv) _ := .step lv .refl (hok _ hy lv h)
    rw [I.back _ hy lv] at h1
    exact h1.trans ih
abbrev All (s : α → Bool → α) : α → α → Prop := Conn s fun _ _ => True
end
end Sl
namespace Sl
open PySem L2
section
variable {α : Type} [DecidableEq α]
section
variable {step : α → Bool → α} {L : List α} (I : Inv2 step L) {q : α} (hq : q ∈ L)
include I hq
end
section
variable {s : α → Bool → α} {L : List α} {F : Nat}
def Lined (s : α → Bool → α) (L : List α) (F : Nat) (found : List (List α)) : Prop := ∀ l ∈ found, ∃ p ∈ L, l = lineG s F p
theorem Lined.step {found : List (List α)} (h : Lined s L F found) {q : α} (hq : q ∈ L) : Lined s L F (linesStep s F found q) := by
  unfold linesStep
  split
  · exact h
  · intro l hl
    rcases List.mem_append.mp hl with z | z
    · exact h l z
    · exact ⟨q, hq, List.mem_singleton.mp z⟩
end
end
section
variable {β : Type}
def cellB (rows : List (List β)) (r c : Nat) : Option β := (rows[r]?).bind (·[c]?)
def setB (rows : List (List β)) (r c : Nat) (b : β) : List (List β) := rows.set r ((rows.getD r []).set c b)
structure Dim (rows : List (List β)) (h w : Nat) : Prop where
  hi : rows.length = h
  wd : ∀ row ∈ rows, row.length = w
theorem Dim.at {rows : List (List β)} {h w r : Nat} (D : Dim rows h w) (hr : r < h) : ∃ row, rows[r]? = some row ∧ row.length = w := by
  have hl : r < rows.length := by rw [D.hi]; exact hr
  exact ⟨rows[r], List.getElem?_eq_getElem hl, D.wd _ (List.getElem_mem hl)⟩
theorem Dim.set {rows : List (List β)} {h w : Nat} (D : Dim rows h w) {r : Nat} (c : Nat) (b : β) (hr : r < h) : Dim (setB rows r c b) h w := by
  obtain ⟨row, e, l⟩ := D.at hr
  refine ⟨by unfold setB; rw [List.length_set]; exact D.hi, fun row' h' => ?_⟩
  unfold setB at h'
  rcases List.mem_or_eq_of_mem_set h' with h' | h'
  · exact D.wd _ h'
  · rw [h', List.length_set, List.getD_eq_getElem?_getD, e]
    exact l
theorem cell_set {rows : List (List β)} {h w r c r' c' : Nat} {b : β} (D : Dim rows h w) (hr : r < h) (hc : c < w) : cellB (setB rows r c b) r' c' = if r' = r ∧ c' = c then some b else cellB rows r' c' := by
  obtain ⟨row, e, l⟩ := D.at hr
  have hl : r < rows.length := by rw [D.hi]; exact hr
  unfold cellB setB
  rw [List.getD_eq_getElem?_getD, e]
  by_cases h1 : r' = r
  · subst h1
    rw [List.getElem?_set_self hl]
    by_cases h2 : c' = c
    · subst h2
      rw [if_pos ⟨rfl, rfl⟩]
      show (row.set c' b)[c']? = _
      rw [List.getElem?_set_self (by omega)]
    · rw [if_neg fun z => h2 z.2, e]
      show (row.set c b)[c']? = row[c']?
      rw [List.getElem?_set_ne (fun z => h2 z.symm)]
  · rw [if_neg fun z => h1 z.1, List.getElem?_set_ne (fun z => h1 z.symm)]
def RowIs (f : β → V) (H : Hp) (x : V) (row : List β) : Prop := ∃ a, x = V.ref a ∧ H a = some (.lst (row.map f))
def TB (f : β → V) (H : Hp) (xs : List V) (rows : List (List β)) : Prop := Paired (RowIs f H) xs rows
theorem TB.length {f : β → V} {H : Hp} {xs : List V} {rows : List (List β)} (t : TB f H xs rows) : xs.length = rows.length := Paired.length t
theorem TB.keep {f : β → V} {H H' : Hp} {xs : List V} {rows : List (List β)} (t : TB f H xs rows) (k : ∀ a ys, V.ref a ∈ xs → H a = some (.lst ys) → H' a = some (.lst ys)) : TB f H' xs rows := by
  induction t with
  | nil => exact .nil
  | cons h _ ih =>
    obtain ⟨a, rfl, e⟩ := h
    exact .cons ⟨a, rfl, k a _ List.mem_cons_self e⟩ (ih fun b ys hb => k b ys (List.mem_cons_of_mem _ hb))
theorem TB.snoc {f : β → V} : ∀ {H : Hp} {xs : List V} {rows : List (List β)} {x : V} {row : List β}, TB f H xs rows → RowIs f H x row → TB f H (xs ++ [x]) (rows ++ [row])
  | _, _, _, _, _, .nil, h => .cons h .nil
  | _, _, _, _, _, .cons a t, h => .cons a (TB.snoc t h)
theorem TB.at {f : β → V} : ∀ {H : Hp} {xs : List V} {rows : List (List β)} {i : Nat} {row : List β}, TB f H xs rows → rows[i]? = some row → ∃ x, xs[i]? = some x ∧ RowIs f H x row
  | _, _, _, _, _, .nil, e => by simp at e
  | _, _, _, 0, _, .cons a t, e => by simp at e; subst e; exact ⟨_, rfl, a⟩
  | _, _, _, i + 1, x, .cons a t, e => by
    obtain ⟨k, h1, h2⟩ := TB.at (i := i) t (by simpa using e)
    exact ⟨k, by simpa using h1, h2⟩
theorem TB.at' {f : β → V} : ∀ {H : Hp} {xs : List V} {rows : List (List β)} {i : Nat} {x : V}, TB f H xs rows → xs[i]? = some x → ∃ row, rows[i]? = some row ∧ RowIs f H x row
  | _, _, _, _, _, .nil, e => by simp at e
  | _, _, _, 0, _, .cons a t, e => by simp at e; subst e; exact ⟨_, rfl, a⟩
  | _, _, _, i + 1, x, .cons a t, e => by
    obtain ⟨k, h1, h2⟩ := TB.at' (i := i) t (by simpa using e)
    exact ⟨k, by simpa using h1, h2⟩
theorem TB.set {f : β → V} : ∀ {H : Hp} {xs : List V} {rows : List (List β)} {i : Nat} {a : Addr} {row : List β}, TB f H xs rows → xs.Nodup → xs[i]? = some (.ref a) → TB f (upd H a (.lst (row.map f))) xs (rows.set i row)
  | _, _, _, _, _, _, .nil, _, e => by simp at e
  | H, _, _, 0, a, row, .cons h t, hn, e => by
    simp at e
    subst e
    refine .cons ⟨a, rfl, upd_same⟩ (TB.keep t fun b ys hb e => ?_)
    rw [upd_ne]
    · exact e
    · intro z
      subst z
      exact (List.nodup_cons.mp hn).1 hb
  | H, _, _, i + 1, a, row, .cons h t, hn, e => by
    have e' : _ := (show _ = _ from by simpa using e)
    obtain ⟨b, rfl, hb⟩ := h
    refine .cons ⟨b, rfl, ?_⟩ (TB.set t (List.nodup_cons.mp hn).2 e')
    rw [upd_ne]
    · exact hb
    · intro z
      subst z
      exact (List.nodup_cons.mp hn).1 (List.mem_of_getElem? e')
theorem ixN_in {n j : Nat} (h : j < n) : ixN n (j : Int) = some j := by
  unfold ixN
  rw [if_pos (by omega), if_pos (by omega)]
  simp
end
end Sl
namespace Sl
open PySem L2
def sgN (x : Str) : Nat := x.cps.getD 0 0
theorem sgN_eq {x : Str} (hx : x ∈ signs3) : (⟨#[sgN x]⟩ : Str) = x := by
  unfold signs3 at hx
  simp only [List.mem_cons, List.not_mem_nil, or_false] at hx
  rcases hx with rfl | rfl | rfl <;> decide +kernel
def chN (kvs : List (List Key × V)) (d a : Nat) : Nat := if d % 2 = 0 ∧ a % 2 = 0 then 111 else if d % 2 = 1 ∧ a % 2 = 1 then 43 else if d % 2 = 0 then sgN (sgAt kvs (rowD (a / 2 : Nat) (d / 2 : Nat))) else sgN (sgAt kvs (colD (a / 2 : Nat) (d / 2 : Nat)))
def bareN (d a : Nat) : Nat := if d % 2 = 0 then (if a % 2 = 0 then 111 else 46) else (if a % 2 = 0 then 46 else 43)
def dRow : List Key → Nat
  | [.inr x, .inl _, .inl r] => if x = "column" then (2 * r + 1).toNat else (2 * r).toNat
  | _ => 0
def dCol : List Key → Nat
  | [.inr x, .inl c, .inl _] => if x = "row" then (2 * c + 1).toNat else (2 * c).toNat
  | _ => 0
theorem dRow_row (c r : Int) : dRow (rowD c r) = (2 * r).toNat := by
  show (if ("row" : Str) = "column" then (2 * r + 1).toNat else (2 * r).toNat) = _
  exact if_neg (by decide +kernel)
theorem dRow_col (c r : Int) : dRow (colD c r) = (2 * r + 1).toNat := by
  show (if ("column" : Str) = "column" then (2 * r + 1).toNat else (2 * r).toNat) = _
  exact if_pos rfl
theorem dCol_row (c r : Int) : dCol (rowD c r) = (2 * c + 1).toNat := by
  show (if ("row" : Str) = "row" then (2 * c + 1).toNat else (2 * c).toNat) = _
  exact if_pos rfl
theorem dCol_col (c r : Int) : dCol (colD c r) = (2 * c).toNat := by
  show (if ("column" : Str) = "row" then (2 * c + 1).toNat else (2 * c).toNat) = _
  exact if_neg (by decide +kernel)
theorem dRow_lt {w h : Nat} {k : List Key} (hk : k ∈ doors w h) : dRow k < 2 * h - 1 := by
  rcases door_cases hk with ⟨c, r, rfl, h1, h2, h3, h4⟩ | ⟨c, r, rfl, h1, h2, h3, h4⟩
  · rw [dRow_row]; omega
  · rw [dRow_col]; omega
theorem dCol_lt {w h : Nat} {k : List Key} (hk : k ∈ doors w h) : dCol k < 2 * w - 1 := by
  rcases door_cases hk with ⟨c, r, rfl, h1, h2, h3, h4⟩ | ⟨c, r, rfl, h1, h2, h3, h4⟩
  · rw [dCol_row]; omega
  · rw [dCol_col]; omega
theorem d_inj {w h : Nat} {k j : List Key} (hk : k ∈ doors w h) (hj : j ∈ doors w h) (e1 : dRow k = dRow j) (e2 : dCol k = dCol j) : k = j := by
  rcases door_cases hk with ⟨c, r, rfl, h1, h2, h3, h4⟩ | ⟨c, r, rfl, h1, h2, h3, h4⟩ <;> rcases door_cases hj with ⟨c', r', rfl, g1, g2, g3, g4⟩ | ⟨c', r', rfl, g1, g2, g3, g4⟩
  · rw [dRow_row, dRow_row] at e1
    rw [dCol_row, dCol_row] at e2
    rw [show c = c' by omega, show r = r' by omega]
  · rw [dRow_row, dRow_col] at e1
    omega
  · rw [dRow_col, dRow_row] at e1
    omega
  · rw [dRow_col, dRow_col] at e1
    rw [dCol_col, dCol_col] at e2
    rw [show c = c' by omega, show r = r' by omega]
theorem ch_off {w h : Nat} {kvs : List (List Key × V)} {d a : Nat} (hd : d < 2 * h - 1) (ha : a < 2 * w - 1) (hn : ∀ k ∈ doors w h, ¬ (dRow k = d ∧ dCol k = a)) : chN kvs d a = bareN d a := by
  unfold chN bareN
  rcases Nat.mod_two_eq_zero_or_one d with e1 | e1 <;> rcases Nat.mod_two_eq_zero_or_one a with e2 | e2
  · rw [if_pos ⟨e1, e2⟩, if_pos e1, if_pos e2]
  · exfalso
    refine hn (rowD (a / 2 : Nat) (d / 2 : Nat)) (mem_rowD.mpr ⟨by omega, by omega, by omega, by omega⟩) ⟨?_, ?_⟩
    · rw [dRow_row]; omega
    · rw [dCol_row]; omega
  · exfalso
    refine hn (colD (a / 2 : Nat) (d / 2 : Nat)) (mem_colD.mpr ⟨by omega, by omega, by omega, by omega⟩) ⟨?_, ?_⟩
    · rw [dRow_col]; omega
    · rw [dCol_col]; omega
  · rw [if_neg (by omega), if_pos ⟨e1, e2⟩, if_neg (by omega), if_neg (by omega)]
theorem ch_on {w h : Nat} {kvs : List (List Key × V)} {k : List Key} (hk : k ∈ doors w h) : chN kvs (dRow k) (dCol k) = sgN (sgAt kvs k) := by
  unfold chN
  rcases door_cases hk with ⟨c, r, rfl, h1, h2, h3, h4⟩ | ⟨c, r, rfl, h1, h2, h3, h4⟩
  · rw [dRow_row, dCol_row, if_neg (by omega), if_neg (by omega), if_pos (by omega)]
    rw [show (((2 * c + 1).toNat / 2 : Nat) : Int) = c by omega, show (((2 * r).toNat / 2 : Nat) : Int) = r by omega]
  · rw [dRow_col, dCol_col, if_neg (by omega), if_neg (by omega), if_neg (by omega)]
    rw [show (((2 * c).toNat / 2 : Nat) : Int) = c by omega, show (((2 * r + 1).toNat / 2 : Nat) : Int) = r by omega]
theorem table_ext {β : Type} {rows : List (List β)} {h w : Nat} {f : Nat → Nat → β} (D : Dim rows h w) (hc : ∀ d a, d < h → a < w → cellB rows d a = some (f d a)) : rows = (List.range h).map fun d => (List.range w).map (f d) := by
  apply List.ext_getElem?
  intro d
  rw [List.getElem?_map]
  by_cases hd : d < h
  · obtain ⟨row, e, l⟩ := D.at hd
    rw [e, List.getElem?_range hd]
    show some row = some _
    congr 1
    apply List.ext_getElem?
    intro a
    rw [List.getElem?_map]
    by_cases ha : a < w
    · rw [List.getElem?_range ha]
      have := hc d a hd ha
      unfold cellB at this
      rw [e] at this
      exact this
    · rw [List.getElem?_eq_none (by omega), List.getElem?_eq_none (by rw [List.length_range]; omega)]
      rfl
  · rw [List.getElem?_eq_none (by rw [D.hi]; omega), List.getElem?_eq_none (by rw [List.length_range]; omega)]
    rfl
theorem alt_list (x y : Nat) : ∀ n, x :: (List.replicate n [y, x]).flatten = (List.range (2 * n + 1)).map fun a => if a % 2 = 0 then x else y
  | 0 => by simp
  | n + 1 => by
    rw [List.replicate_succ', List.flatten_append, show 2 * (n + 1) + 1 = (2 * n + 1) + 1 + 1 by omega, List.range_succ, List.range_succ, List.map_append, List.map_append, ← alt_list x y n]
    simp
def mk1 (c : Nat) : Str := ⟨#[c]⟩
theorem oneS_mk (row : List Nat) : row.map oneS = (row.map mk1).map V.str := by rw [List.map_map]; rfl
theorem join_row (row : List Nat) : Txt.join "" (row.map mk1) = ⟨row.toArray⟩ := by
  show Builtin.Str.glued "" (row.map mk1) = _
  rw [StrLaws.glued_eq_join]
  induction row with
  | nil => rfl
  | cons c r ih =>
    cases r with
    | nil => rfl
    | cons c' r' =>
      show mk1 c ++ "" ++ Str.join "" ((c' :: r').map mk1) = _
      rw [ih]
      show (⟨(#[c] ++ #[]) ++ (c' :: r').toArray⟩ : Str) = _
      simp
end Sl
namespace Sl
open PySem L2
def top (i : Nat) : Stmt := PySem.Challenge.pw_sandline_k18_unread.main.body.getD i (.Pass ⟨0, 0, 0, 0⟩)
abbrev s_is_size : Stmt := top 11
abbrev s_doors_of : Stmt := top 12
abbrev s_init : Stmt := inClass (top 13) 0
abbrev s_demand : Stmt := inClass (top 13) 4
abbrev s_sign : Stmt := inClass (top 13) 2
abbrev s_changed : Stmt := inClass (top 13) 3
abbrev s_doors : Stmt := inClass (top 13) 1
abbrev s_with_signs : Stmt := top 14
abbrev s_door_row : Stmt := top 19
abbrev s_door_place : Stmt := top 20
abbrev s_bare_rows : Stmt := top 18
abbrev s_shown : Stmt := top 16
abbrev s_without_mirrors : Stmt := top 21
abbrev s_read : Stmt := top 17
abbrev s_law_cell_at : Stmt := top 23
abbrev s_law_mix : Stmt := top 24
abbrev s_law_size : Stmt := top 25
abbrev s_law_doors : Stmt := top 26
abbrev s_law_signs : Stmt := top 27
abbrev s_law_rows : Stmt := top 28
abbrev s_law_put : Stmt := top 29
abbrev s_law_large : Stmt := top 30
abbrev s_law_spoiled : Stmt := top 31
abbrev s_law_refused : Stmt := top 32
abbrev s_law : Stmt := top 33
structure Txt (K : PySem.W.Frag) (mg : Str → Option Value) (C : Addr) : Prop where
  cl : Cls K C
  nW : NoAttr K C "wide"
  nH : NoAttr K C "high"
  nS : NoAttr K C "signs"
  along : ∃ t, mg "MOST_ALONG" = some (.int 12 t)
  dots : ∃ t, mg "MOST_DOTS" = some (.int 36 t)
  nomirror : ∃ t, mg "NO_MIRROR" = some (.str "." t)
  range : mg "range" = none
  len : mg "len" = none
  min : mg "min" = none
  isi : mg "isinstance" = none
  int : mg "int" = none
  bool : mg "bool" = none
  tuple : mg "tuple" = none
  list : mg "list" = none
  str : mg "str" = none
  dict : mg "dict" = none
  sorted : mg "sorted" = none
  enum : mg "enumerate" = none
structure SgnT (K : PySem.W.Frag) (mg : Str → Option Value) : Prop where
  signs : ∃ a, mg "SIGNS" = some (.ref a) ∧ ∀ H, SqT K H a [.str ".", .str "|", .str "-"]
structure Turns (P : Program) (w : World) (K : PySem.W.Frag) (mg : Str → Option Value) : Prop where
  ex : ∃ aT t1 t2 t3, mg "TURNS" = some (.ref aT) ∧ ModD P w K aT [(.inr ".", .ref t1), (.inr "|", .ref t2), (.inr "-", .ref t3)] ∧ (∀ H, SqT K H t1 [.int 2, .int 3, .int 0, .int 1]) ∧
    (∀ H, SqT K H t2 [.int 3, .int 2, .int 1, .int 0]) ∧ ∀ H, SqT K H t3 [.int 1, .int 0, .int 3, .int 2]
structure TokN (K : PySem.W.Frag) (mg : Str → Option Value) : Prop where
  ex : ∃ t, mg "NO_MIRROR" = some (.str "." t) ∧ t ≠ 0 ∧ t < lowT K
seal L2.PE L2.PS L2.PSs L2.PA L2.PT L2.PW L2.PG L2.PGs L2.PI L2.PO
section
variable {P : Program} {w : World} {K : PySem.W.Frag} {mg : Str → Option Value} {base : Heap} {C : Addr}
def sizeB (w h : Int) : Bool := decide (1 ≤ w ∧ w ≤ 12 ∧ 1 ≤ h ∧ h ≤ 12 ∧ w * h ≤ 36)
theorem sizeB_ok {w h : Nat} (s : okSize w h) : sizeB w h = true := by
  obtain ⟨a, b, c, d, e⟩ := s
  exact decide_eq_true ⟨by omega, by omega, by omega, by omega, by have : ((w * h : Nat) : Int) ≤ 36 := by omega
                                                                   rw [Int.natCast_mul] at this; exact this⟩
def spSize : Sp := fun vs H Q _ => ∃ (w h : Int), vs = [.int w, .int h] ∧ Q (.bl (sizeB w h)) H
theorem sc_is_size : FnScope ["wide", "high", "along"] ["wide", "high"] (defScope s_is_size) := ⟨rfl, rfl, rfl, by decide +kernel, rfl, by decide +kernel, by decide +kernel⟩
theorem ok_is_size {f : Addr} {fd : FuncData} (F : Fun K "is_size" "is_size" s_is_size f fd) (T : Txt K mg C) : FnOk P w K mg base CX0 1 f fd ["wide", "high"] spSize := by
  obtain ⟨t1, hA⟩ := T.along
  obtain ⟨t2, hD⟩ := T.dots
  refine F.okq sc_is_size (fun vs H Q E h => ?_) (fun cdv A outer s H vs Q E hr h => ?_)
  · obtain ⟨a, b, rfl, _⟩ := h
    rfl
  · obtain ⟨a, b, rfl, k⟩ := h
    refine ⟨_, qss_cons (ps_set (i := 2) sc_is_size.nd rfl (Or.inl rfl) (pe_and (pe_chain op_le op_le pe_int (pv 0) (pe_glob (v := .int 12) rfl hA ⟨_, rfl⟩)) (pe_one (pe_chain op_le op_le pe_int (pv 1) (pe_glob (v := .int 12) rfl hA ⟨_, rfl⟩)))))
      (qss_one (ps_ret (pe_and (pv 2) (pe_one (pe_cmpR op_le (pe_op op_mul (pv 0) (pv 1)) (pe_glob (v := .int 36) rfl hD ⟨_, rfl⟩) (nomark _)))))), ?_⟩
    have no : ∀ {c : Bool}, c = false → ¬ (1 ≤ a ∧ a ≤ 12 ∧ 1 ≤ b ∧ b ≤ 12 ∧ a * b ≤ 36) → Q (.bl c) H := fun e n => by
      rw [show sizeB a b = false from decide_eq_false n] at k
      rw [e]; exact k
    refine ⟨_, rfl, _, _, rfl, rfl, _, rfl, ?_⟩
    refine ite2 (fun h1 => ?_) (fun h1 => ?_)
    · have h1 := of_decide_eq_true h1
      refine ⟨_, _, rfl, rfl, _, rfl, ?_⟩
      refine ite2 (fun h2 => ?_) (fun h2 => ?_)
      · have h2 := of_decide_eq_true h2
        refine ⟨_, rfl, _, _, rfl, rfl, _, rfl, ?_⟩
        refine ite2 (fun h3 => ?_) (fun h3 => ?_)
        · have h3 := of_decide_eq_true h3
          refine ⟨_, _, rfl, rfl, _, rfl, _, rfl, ?_⟩
          refine ite2 (fun h4 => ?_) (fun h4 => ?_)
          · have h4 := of_decide_eq_true h4
            refine ⟨_, rfl, _, rfl, _, _, rfl, rfl, .inl ⟨by omega, by omega⟩, _, _, rfl, rfl, ?_⟩
            have e : sizeB a b = decide (a * b ≤ 36) := by
              unfold sizeB
              by_cases h5 : a * b ≤ 36
              · rw [decide_eq_true h5]; exact decide_eq_true ⟨h1, h2, h3, h4, h5⟩
              · rw [decide_eq_false h5]; exact decide_eq_false fun z => h5 z.2.2.2.2
            rw [e] at k
            exact k
          · exact no rfl fun z => h4 (decide_eq_true z.2.2.2.1)
        · exact ⟨_, rfl, _, rfl, iteF (no rfl fun z => h3 (decide_eq_true z.2.2.1))⟩
      · exact ⟨_, rfl, _, rfl, iteF (no rfl fun z => h2 (decide_eq_true z.2.1))⟩
    · exact ⟨_, rfl, iteF ⟨_, rfl, _, rfl, iteF (no rfl fun z => h1 (decide_eq_true z.1))⟩⟩
def spDoors : Sp := fun vs H Q _ => ∃ (w h : Nat), vs = [.int w, .int h] ∧ okSize w h ∧ ∀ (l : Addr) (xs : List V) (H' : Hp), H l = none → H' l = some (.lst xs) → TL H' xs (doors w h) → Same H H' → Q (.ref l) H'
theorem sc_doors_of : FnScope ["wide", "high", "found", "row", "column"] ["wide", "high"] (defScope s_doors_of) := ⟨rfl, rfl, rfl, by decide +kernel, rfl, by decide +kernel, by decide +kernel⟩
theorem ok_doors_of {f : Addr} {fd : FuncData} (F : Fun K "doors_of" "doors_of" s_doors_of f fd) (T : Txt K mg C) : FnOk P w K mg base CX0 1 f fd ["wide", "high"] spDoors := by
  refine F.okq sc_doors_of (fun vs H Q E h => ?_) (fun cdv A outer s H vs Q E hr h => ?_)
  · obtain ⟨a, b, rfl, _⟩ := h
    rfl
  · obtain ⟨wd, hg, rfl, sz, k⟩ := h
    refine ⟨_, qss_cons (ps_set (i := 2) sc_doors_of.nd rfl (Or.inl rfl) (pe_lst pa_nil))
      (qss_cons (ps_forq PassesOwn.never rfl (pi_range1 rfl T.range (pa (pv 1) pa_nil)) (pg_name (i := 3) sc_doors_of.nd rfl (Or.inl rfl))
        (qss_one (ps_forq PassesOwn.never rfl (pi_range1 rfl T.range (pa (pv 0) pa_nil)) (pg_name (i := 4) sc_doors_of.nd rfl (Or.inl rfl))
          (qss_cons (ps_ifq (pt_cmpR op_lt (pe_op op_add (pv 4) pe_int) (pv 0) (nomark _))
            (qss_one (ps_expr (pe_bm PySem.F.plainAttrs_list PySem.F.slot_list_append PySem.F.type_list_append mt_append (pv 2) (pa (pe_tup (pa pe_str (pa (pv 4) (pa (pv 3) pa_nil)))) pa_nil)))) qss_nil)
          (qss_one (ps_ifq (pt_cmpR op_lt (pe_op op_add (pv 3) pe_int) (pv 1) (nomark _))
            (qss_one (ps_expr (pe_bm PySem.F.plainAttrs_list PySem.F.slot_list_append PySem.F.type_list_append mt_append (pv 2) (pa (pe_tup (pa pe_str (pa (pv 4) (pa (pv 3) pa_nil)))) pa_nil)))) qss_nil))))))
      (qss_one (ps_ret (pv 2)))), ?_⟩
    have sz' := sz
    obtain ⟨w1, w2, h1, h2, wh⟩ := sz'
    refine ⟨Nat.zero_le _, fun l hl => ?_⟩
    refine ⟨_, rfl, (hg : Int), rfl, by omega, by omega, for_range (n := hg) (fun i σ H2 => ∃ (xs : List V) (v3 v4 : Option V), σ = [some (.int wd), some (.int hg), some (.ref l), v3, v4] ∧ i ≤ hg ∧ H2 l = some (.lst xs) ∧ TL H2 xs (doorsTo wd hg i) ∧ Same H H2)
      ⟨[], none, none, rfl, Nat.zero_le _, upd_same, .nil, Same.new (Same.refl H) hl⟩ ?_ ?_⟩
    · rintro i σ H2 hi ⟨xs, v3, v4, rfl, _, hL, tl, sm⟩
      refine ⟨_, rfl, (wd : Int), rfl, by omega, by omega, for_range (n := wd) (fun j σ H3 => ∃ (xs : List V) (v4 : Option V), σ = [some (.int wd), some (.int hg), some (.ref l), some (.int i), v4] ∧ j ≤ wd ∧ H3 l = some (.lst xs) ∧ TL H3 xs (doorsTo wd hg i ++ doorsRow wd hg i j) ∧ Same H H3)
        ⟨xs, v4, by rw [Int.zero_add]; rfl, Nat.zero_le _, hL, by simpa [doorsRow] using tl, sm⟩ ?_ ?_⟩
      · rintro j σ H3 hj ⟨xs, v4, rfl, _, hL, tl, sm⟩
        have hlen : xs.length + 2 < sizeLine := by
          have e1 := tl.length
          have e2 := doorsTo_len wd hg i
          have e3 := doorsRow_len wd hg i j
          have e4 : i * wd ≤ hg * wd := Nat.mul_le_mul_right _ (Nat.le_of_lt hi)
          have e5 : hg * wd = wd * hg := Nat.mul_comm _ _
          have e6 : (1000 : Nat) < sizeLine := small1000 (Nat.le_refl _)
          rw [List.length_append] at e1
          omega
        rw [Int.zero_add]
        have put : ∀ {H4 : Hp} {ys : List V} {ks : List (List Key)} {t : Addr} {kd : List Key}, H4 l = some (.lst ys) → TL H4 ys ks → Same H H4 → H4 t = none →
            (upd (upd H4 t (.tup (kd.map kV))) l (.lst (ys ++ [V.ref t]))) l = some (.lst (ys ++ [V.ref t])) ∧ TL (upd (upd H4 t (.tup (kd.map kV))) l (.lst (ys ++ [V.ref t]))) (ys ++ [V.ref t]) (ks ++ [kd]) ∧ Same H (upd (upd H4 t (.tup (kd.map kV))) l (.lst (ys ++ [V.ref t]))) := by
          intro H4 ys ks t kd h1 h2 h3 h4
          have hlt : l ≠ t := ne_of_none h1 h4
          have hl' : (upd H4 t (.tup (kd.map kV))) l = some (.lst ys) := by rw [upd_ne hlt]; exact h1
          refine ⟨upd_same, ?_, Same.own (Same.new h3 h4) hl⟩
          exact (h2.keep (Tk.lst (Tk.new (Tk.refl _) h4) hl')).snoc ⟨t, rfl, by rw [upd_ne hlt.symm]; exact upd_same⟩
        refine ⟨_, rfl, _, _, rfl, rfl, _, rfl, _, _, rfl, rfl, _, rfl, ?_⟩
        refine ite2 (fun c1 => ?_) (fun c1 => ?_)
        · have c1 := of_decide_eq_true c1
          refine ⟨_, rfl, .inl ⟨rfl, _, SqL.of hL⟩, _, rfl, _, rfl, (by show 3 ≤ sizeLine; decide), fun t ht => ?_⟩
          refine ⟨l, xs, _, rfl, rfl, (by rw [upd_ne (ne_of_none hL ht)]; exact hL), by omega, ?_⟩
          obtain ⟨p1, p2, p3⟩ := put (kd := rowD j i) hL tl sm ht
          refine ⟨_, rfl, _, _, rfl, rfl, _, rfl, _, _, rfl, rfl, _, rfl, ?_⟩
          refine ite2 (fun c2 => ?_) (fun c2 => ?_)
          · have c2 := of_decide_eq_true c2
            refine ⟨_, rfl, .inl ⟨rfl, _, SqL.of p1⟩, _, rfl, _, rfl, (by show 3 ≤ sizeLine; decide), fun t2 ht2 => ?_⟩
            refine ⟨l, _, _, rfl, rfl, (by rw [upd_ne (ne_of_none p1 ht2)]; exact p1), by rw [List.length_append, List.length_singleton]; omega, ?_⟩
            obtain ⟨q1, q2, q3⟩ := put (kd := colD j i) p1 p2 p3 ht2
            refine ⟨_, _, rfl, hj, q1, ?_, q3⟩
            rw [doorsRow_succ, show doorsAt wd hg i j = [rowD j i, colD j i] by unfold doorsAt; rw [if_pos (by omega), if_pos (by omega)]; rfl,
              show ∀ A B : List (List Key), A ++ (B ++ [rowD j i, colD j i]) = (A ++ B ++ [rowD j i]) ++ [colD j i] from fun A B => by simp]
            exact q2
          · have c2 := fun z => c2 (decide_eq_true z)
            refine ⟨_, _, rfl, hj, p1, ?_, p3⟩
            rw [doorsRow_succ, show doorsAt wd hg i j = [rowD j i] by unfold doorsAt; rw [if_pos (by omega), if_neg (fun z => c2 (by omega))]; rfl]
            rw [← List.append_assoc]
            exact p2
        · have c1 := fun z => c1 (decide_eq_true z)
          refine ⟨_, rfl, _, _, rfl, rfl, _, rfl, _, _, rfl, rfl, _, rfl, ?_⟩
          refine ite2 (fun c2 => ?_) (fun c2 => ?_)
          · have c2 := of_decide_eq_true c2
            refine ⟨_, rfl, .inl ⟨rfl, _, SqL.of hL⟩, _, rfl, _, rfl, (by show 3 ≤ sizeLine; decide), fun t2 ht2 => ?_⟩
            refine ⟨l, _, _, rfl, rfl, (by rw [upd_ne (ne_of_none hL ht2)]; exact hL), by omega, ?_⟩
            obtain ⟨q1, q2, q3⟩ := put (kd := colD j i) hL tl sm ht2
            refine ⟨_, _, rfl, hj, q1, ?_, q3⟩
            rw [doorsRow_succ, show doorsAt wd hg i j = [colD j i] by unfold doorsAt; rw [if_neg (fun z => c1 (by omega)), if_pos (by omega)]; rfl]
            rw [← List.append_assoc]
            exact q2
          · have c2 := fun z => c2 (decide_eq_true z)
            refine ⟨_, _, rfl, hj, hL, ?_, sm⟩
            rw [doorsRow_succ, show doorsAt wd hg i j = [] by unfold doorsAt; rw [if_neg (fun z => c1 (by omega)), if_neg (fun z => c2 (by omega))]; rfl]
            rw [List.append_nil]
            exact tl
      · rintro σ H3 ⟨xs, v4, rfl, _, hL, tl, sm⟩
        exact ⟨xs, _, _, rfl, hi, hL, by rw [doorsTo_succ]; exact tl, sm⟩
    · rintro σ H2 ⟨xs, v3, v4, rfl, _, hL, tl, sm⟩
      exact ⟨_, rfl, k l xs H2 hl hL tl sm⟩
def spInit (C : Addr) : Sp := fun vs H Q _ => ∃ (p dx : Addr) (w h : Nat), vs = [.ref p, .int w, .int h] ∧ okSize w h ∧ H p = some (.ins C dx []) ∧
  ∀ (d : Addr) (H' : Hp), H d = none → H' p = some (.ins C dx (flds w h d)) → H' d = some (.dT (bare w h)) → (∀ b o, H b = some o → b ≠ p → H' b = some o) → Q .non H'
theorem bare_take (w h i : Nat) (k : List Key) (e : (doors w h)[i]? = some k) : putK (((doors w h).take i).map fun k => (k, V.str ".")) k (V.str ".") = ((doors w h).take (i + 1)).map fun k => (k, V.str ".") := by
  have hn : ¬ k ∈ (((doors w h).take i).map fun k => (k, V.str ".")).map (·.1) := by
    rw [List.map_map, show ((fun x : List Key × V => x.1) ∘ fun k => (k, V.str ".")) = id from rfl, List.map_id]
    intro m
    obtain ⟨hi, ek⟩ := List.getElem?_eq_some_iff.mp e
    obtain ⟨j, hj, ej⟩ := List.mem_iff_getElem.mp m
    have hj' : j < i := by rw [List.length_take] at hj; omega
    rw [List.getElem_take] at ej
    have := (List.getElem_inj (nd_doors w h)).mp (ej.trans ek.symm)
    omega
  rw [putK_new _ (valV_none hn), List.take_add_one, e, Option.toList_some, List.map_append]
  rfl
theorem sc_init : FnScope ["self", "wide", "high", "door"] ["self", "wide", "high"] (defScope s_init) := ⟨rfl, rfl, rfl, by decide +kernel, rfl, by decide +kernel, by decide +kernel⟩
theorem ok_init {f : Addr} {fd : FuncData} (F : Fun K "__init__" "Board.__init__" s_init f fd) (T : Txt K mg C) (D1 : DefAt P w K mg base 1 "is_size" ["wide", "high"] spSize) (D2 : DefAt P w K mg base 1 "doors_of" ["wide", "high"] spDoors) :
    FnOk P w K mg base CX0 2 f fd ["self", "wide", "high"] (spInit C) := by
  obtain ⟨tk, hN⟩ := T.nomirror
  refine F.okq sc_init (fun vs H Q E h => ?_) (fun cdv A outer s H vs Q E hr h => ?_)
  · obtain ⟨p, dx, a, b, rfl, _⟩ := h
    rfl
  · obtain ⟨p, dx, wd, hg, rfl, sz, hp, k⟩ := h
    have hu := hu_of hr
    refine ⟨_, qss_cons (ps_ifq (pt_not (pt_val (pe_def D1 hr (pa (pv 1) (pa (pv 2) pa_nil))))) qss_never qss_nil)
      (qss_cons (ps_fld (pv 0) (pv 1) rfl) (qss_cons (ps_fld (pv 0) (pv 2) rfl) (qss_cons (ps_fld (pv 0) pe_dnewT rfl)
      (qss_one (ps_forq PassesOwn.never rfl (pi_list (pe_def D2 hr (pa (pv 1) (pa (pv 2) pa_nil)))) (pg_name (i := 3) sc_init.nd rfl (Or.inl rfl))
        (qss_one (ps_dput hu (pe_fld (pv 0) rfl) (pv 3) (pe_glob (v := .str ".") rfl hN ⟨_, rfl⟩) rfl))))))), ?_⟩
    refine ⟨_, rfl, _, rfl, (wd : Int), (hg : Int), rfl, _, rfl, ?_⟩
    rw [sizeB_ok sz]
    refine iteF ?_
    refine ⟨_, rfl, _, rfl, p, C, dx, [], rfl, hp, T.cl, T.nW, (by show 0 < 1000; decide), ?_⟩
    refine ⟨_, rfl, _, rfl, p, C, dx, _, rfl, upd_same, T.cl, T.nH, (by show 1 < 1000; decide), ?_⟩
    intro d hd
    rw [upd_upd] at hd
    have npd : p ≠ d := fun e => by rw [← e, upd_same] at hd; cases hd
    have hd0 : H d = none := by rw [upd_ne npd.symm] at hd; exact hd
    refine ⟨_, rfl, p, C, dx, _, rfl, (by rw [upd_ne npd]; exact upd_same), T.cl, T.nS, ?_, ?_⟩
    · have := length_putF "high" (V.int (hg : Int)) (putF "wide" (V.int (wd : Int)) [])
      have := length_putF "wide" (V.int (wd : Int)) []
      simp at *
      omega
    generalize hH0 : upd (upd (upd (upd H p _) p _) d _) p _ = H0
    have b1 : H0 p = some (.ins C dx (flds wd hg d)) := by rw [← hH0]; exact upd_same
    have b2 : H0 d = some (.dT []) := by rw [← hH0, upd_ne npd.symm]; exact upd_same
    have b3 : ∀ b o, H b = some o → b ≠ p → H0 b = some o := fun b o e n => by
      rw [← hH0, upd_ne n, upd_ne (ne_of_none e hd0), upd_ne n, upd_ne n]
      exact e
    refine ⟨_, rfl, _, rfl, wd, hg, rfl, sz, fun l xs H1 hl hL tl sm => ?_⟩
    refine ⟨l, rfl, ⟨_, SqL.of hL⟩, for_list (K := K) (a := l) (xs := xs) (fun i σ H2 => ∃ v3, σ = [some (.ref p), some (.int wd), some (.int hg), v3] ∧ H2 p = some (.ins C dx (flds wd hg d)) ∧ H2 d = some (.dT (((doors wd hg).take i).map fun k => (k, V.str "."))) ∧
      (∀ b o, H1 b = some o → b ≠ d → H2 b = some o))
      ⟨none, rfl, sm _ _ b1, sm _ _ b2, fun _ _ e _ => e⟩ (fun i σ H2 _ ⟨_, _, _, _, z⟩ => SqL.of (z l _ hL (fun e => by rw [e, b2] at hl; cases hl))) ?_ ?_⟩
    · rintro i x σ H2 hi ⟨v3, rfl, c1, c2, c3⟩
      obtain ⟨kd, ek, a, rfl, ha⟩ := tl.at hi
      have ha2 : H2 a = some (.tup (kd.map kV)) := c3 a _ ha (ne_of ha (sm _ _ b2) (fun z => nomatch z))
      refine ⟨_, rfl, p, C, dx, _, _, rfl, c1, T.cl, T.nS, flds_signs _ _ _, _, rfl, d, _, rfl, DPut.t c2 ha2 ?_, ?_⟩
      · rw [List.length_map, List.length_take]
        have := doors_len sz
        exact small1000 (by omega)
      · refine ⟨_, rfl, by rw [upd_ne npd]; exact c1, by rw [upd_same, bare_take _ _ _ _ ek], fun b o e n => by rw [upd_ne n]; exact c3 b o e n⟩
    · rintro σ H2 ⟨v3, rfl, c1, c2, c3⟩
      refine k d H2 hd0 c1 ?_ fun b o e n => c3 b o (sm _ _ (b3 b o e n)) (ne_of_none e hd0)
      rw [c2, tl.length, List.take_length]
      rfl
def spDemand (C : Addr) : Sp := fun vs H Q _ => ∃ (p a : Addr) (w h : Nat) (kvs : List (List Key × V)) (k : List Key), vs = [.ref p, .ref a] ∧ BoardAt C H p w h kvs ∧ H a = some (.tup (k.map kV)) ∧ k ∈ doors w h ∧ Q .non H
theorem sc_demand : FnScope ["self", "door"] ["self", "door"] (defScope s_demand) := ⟨rfl, rfl, rfl, by decide +kernel, rfl, by decide +kernel, by decide +kernel⟩
theorem ok_demand {f : Addr} {fd : FuncData} (F : Fun K "demand" "Board.demand" s_demand f fd) (T : Txt K mg C) : FnOk P w K mg base CX0 1 f fd ["self", "door"] (spDemand C) := by
  refine F.okq sc_demand (fun vs H Q E h => ?_) (fun cdv A outer s H vs Q E hr h => ?_)
  · obtain ⟨p, a, wd, hg, kvs, kd, rfl, _⟩ := h
    rfl
  · obtain ⟨p, a, wd, hg, kvs, kd, rfl, B, ha, hk, k⟩ := h
    have hu := hu_of hr
    obtain ⟨⟨dx, d, h1, h2⟩, sz, tb⟩ := id B
    refine ⟨_, qss_one (ps_ifq (pt_cmp (pc_dnotin hu (pv 1) (pe_fld (pv 0) rfl))) qss_never qss_nil), ?_⟩
    refine ⟨_, rfl, _, rfl, p, C, dx, _, _, rfl, h1, T.cl, T.nS, flds_signs _ _ _, d, _, rfl, DGet.t h2 ha, _, rfl, ?_⟩
    rw [(tb.sg hk).1]
    exact iteF k
def spSign (C : Addr) : Sp := fun vs H Q _ => ∃ (p a : Addr) (w h : Nat) (kvs : List (List Key × V)) (k : List Key), vs = [.ref p, .ref a] ∧ BoardAt C H p w h kvs ∧ H a = some (.tup (k.map kV)) ∧ k ∈ doors w h ∧ Q (.str (sgAt kvs k)) H
theorem sc_sign : FnScope ["self", "door"] ["self", "door"] (defScope s_sign) := ⟨rfl, rfl, rfl, by decide +kernel, rfl, by decide +kernel, by decide +kernel⟩
theorem board_no {w h : Nat} {d : Addr} {m : Str} (hm : m ∈ ["demand", "sign", "changed", "doors"].map Str.ofString) : (flds w h d).lookup m = none := by
  simp only [List.map_cons, List.map_nil, List.mem_cons, List.not_mem_nil, or_false] at hm
  rcases hm with rfl | rfl | rfl | rfl <;> exact flds_no _ _ _ (by decide +kernel) (by decide +kernel) (by decide +kernel)
theorem ok_sign {f : Addr} {fd : FuncData} (F : Fun K "sign" "Board.sign" s_sign f fd) (T : Txt K mg C) (M1 : MethAt P w K mg base 1 C "demand" ["self", "door"] (spDemand C)) : FnOk P w K mg base CX0 2 f fd ["self", "door"] (spSign C) := by
  refine F.okq sc_sign (fun vs H Q E h => ?_) (fun cdv A outer s H vs Q E hr h => ?_)
  · obtain ⟨p, a, wd, hg, kvs, kd, rfl, _⟩ := h
    rfl
  · obtain ⟨p, a, wd, hg, kvs, kd, rfl, B, ha, hk, k⟩ := h
    have hu := hu_of hr
    obtain ⟨⟨dx, d, h1, h2⟩, sz, tb⟩ := id B
    refine ⟨_, qss_cons (ps_expr (pe_mth (pv 0) T.cl M1 hr (pa (pv 1) pa_nil))) (qss_one (ps_ret (pe_dget hu (pe_fld (pv 0) rfl) (pv 1) (fun _ _ => rfl)))), ?_⟩
    refine ⟨_, rfl, p, dx, _, rfl, h1, board_no (by simp), _, rfl, p, a, wd, hg, kvs, kd, rfl, B, ha, hk, ?_⟩
    refine ⟨_, rfl, p, C, dx, _, _, rfl, h1, T.cl, T.nS, flds_signs _ _ _, _, rfl, d, _, rfl, ?_, k⟩
    have := DGet.t (k := kd) h2 ha
    rw [(tb.sg hk).1] at this
    exact this
def spChanged (C : Addr) : Sp := fun vs H Q _ => ∃ (p a : Addr) (x : Str) (w h : Nat) (kvs : List (List Key × V)) (k : List Key), vs = [.ref p, .ref a, .str x] ∧ BoardAt C H p w h kvs ∧ H a = some (.tup (k.map kV)) ∧ k ∈ doors w h ∧ x ∈ signs3 ∧
  ∀ (p' : Addr) (H' : Hp), H p' = none → Same H H' → BoardAt C H' p' w h (putK kvs k (.str x)) → Q (.ref p') H'
theorem sc_changed : FnScope ["self", "door", "sign", "other"] ["self", "door", "sign"] (defScope s_changed) := ⟨rfl, rfl, rfl, by decide +kernel, rfl, by decide +kernel, by decide +kernel⟩
theorem in_signs {x : Str} (hx : x ∈ signs3) : inV (.str x) [.str ".", .str "|", .str "-"] = true := by
  unfold signs3 at hx
  simp only [List.mem_cons, List.not_mem_nil, or_false] at hx
  rcases hx with rfl | rfl | rfl <;> decide +kernel
theorem ok_changed {f : Addr} {fd : FuncData} (F : Fun K "changed" "Board.changed" s_changed f fd) (T : Txt K mg C) (TS : SgnT K mg) (M1 : MethAt P w K mg base 1 C "demand" ["self", "door"] (spDemand C)) (MB : ClassAt P w K mg base 2 C "Board" ["self", "wide", "high"] (spInit C)) :
    FnOk P w K mg base CX0 4 f fd ["self", "door", "sign"] (spChanged C) := by
  obtain ⟨aS, hS, lS⟩ := TS.signs
  refine F.okq sc_changed (fun vs H Q E h => ?_) (fun cdv A outer s H vs Q E hr h => ?_)
  · obtain ⟨p, a, x, wd, hg, kvs, kd, rfl, _⟩ := h
    rfl
  · obtain ⟨p, a, x, wd, hg, kvs, kd, rfl, B, ha, hk, hx, k⟩ := h
    have hu := hu_of hr
    obtain ⟨⟨dx, d, h1, h2⟩, sz, tb⟩ := id B
    refine ⟨_, qss_cons (ps_expr (pe_mth (pv 0) T.cl M1 hr (pa (pv 1) pa_nil)))
      (qss_cons (ps_ifq (pt_cmpR op_notIn_seq (pv 2) (pe_glob (v := .ref aS) rfl hS rfl) (by with_unfolding_all rfl)) qss_never qss_nil)
      (qss_cons (ps_set (i := 3) sc_changed.nd rfl (Or.inl rfl) (pe_mk MB hr (pa (pe_fld (pv 0) rfl) (pa (pe_fld (pv 0) rfl) pa_nil))))
      (qss_cons (ps_expr (pe_bm PySem.F.plainAttrs_dict PySem.F.slot_dict_update PySem.F.type_dict_update (mt_updT hu) (pe_fld (pv 3) rfl) (pa (pe_fld (pv 0) rfl) pa_nil)))
      (qss_cons (ps_dput hu (pe_fld (pv 3) rfl) (pv 1) (pv 2) rfl)
      (qss_one (ps_ret (pv 3))))))), ?_⟩
    refine ⟨_, rfl, p, dx, _, rfl, h1, board_no (by simp), _, rfl, p, a, wd, hg, kvs, kd, rfl, B, ha, hk, ?_⟩
    refine ⟨_, rfl, aS, _, rfl, .inr (lS H), rfl, rfl, _, rfl, ?_⟩
    rw [in_signs hx]
    refine iteF ?_
    refine ⟨_, rfl, p, C, dx, _, _, rfl, h1, T.cl, T.nW, flds_wide _ _ _, _, rfl, p, C, dx, _, _, rfl, h1, T.cl, T.nH, flds_high _ _ _, fun p' dx' n1 n2 n3 => ?_⟩
    refine ⟨p', dx', wd, hg, rfl, sz, upd_same, fun d' H1 nd' c1 c2 c3 => ⟨rfl, ?_⟩⟩
    have nd0 : H d' = none := by
      by_cases e1 : d' = p'
      · rw [e1, upd_same] at nd'; cases nd'
      · rw [upd_ne e1] at nd'
        by_cases e2 : d' = dx'
        · rw [e2, upd_same] at nd'; cases nd'
        · rw [upd_ne e2] at nd'; exact nd'
    have sm : Same H H1 := fun b o e => c3 b o (by rw [upd_ne (ne_of_none e n1), upd_ne (ne_of_none e n2)]; exact e) (ne_of_none e n1)
    have ndd : d' ≠ d := fun e => by rw [e, h2] at nd0; cases nd0
    have npd : p' ≠ d' := ne_of c1 c2 (fun z => nomatch z)
    have hkeys : (bare wd hg).map (·.1) = kvs.map (·.1) := by rw [bare_keys, tb.keys]
    have l1 : (bare wd hg).length ≤ 72 := (bare_tab wd hg).len sz
    have l2 : kvs.length ≤ 72 := tb.len sz
    have c1' : ∀ o, (upd H1 d' o) p' = some (.ins C dx' (flds wd hg d')) := fun o => by rw [upd_ne npd]; exact c1
    refine ⟨_, rfl, p', C, dx', _, _, rfl, c1, T.cl, T.nS, flds_signs _ _ _, .inr (.inr (.inl ⟨rfl, .inr ⟨_, c2⟩⟩)), _, rfl, p, C, dx, _, _, rfl, sm _ _ h1, T.cl, T.nS, flds_signs _ _ _,
      d', d, _, _, rfl, rfl, ndd, c2, sm _ _ h2, hkeys, Nat.le_of_lt (small1000 (by omega)), ?_⟩
    have ha1 : (upd H1 d' (.dT kvs)) a = some (.tup (kd.map kV)) := by
      rw [upd_ne (ne_of (sm _ _ ha) c2 (fun z => nomatch z))]
      exact sm _ _ ha
    refine ⟨_, rfl, _, rfl, p', C, dx', _, _, rfl, c1' _, T.cl, T.nS, flds_signs _ _ _, _, rfl, d', _, rfl, DPut.t upd_same ha1 (small1000 (by omega)), ?_⟩
    refine ⟨_, rfl, ?_⟩
    rw [upd_upd]
    exact k p' _ n1 (Same.own sm nd0) ⟨⟨dx', d', c1' _, upd_same⟩, sz, tb.put hk hx⟩
def spBDoors (C : Addr) : Sp := fun vs H Q _ => ∃ (p : Addr) (w h : Nat) (kvs : List (List Key × V)), vs = [.ref p] ∧ BoardAt C H p w h kvs ∧ ∀ (l : Addr) (xs : List V) (H' : Hp), H l = none → H' l = some (.lst xs) → TL H' xs (doors w h) → Same H H' → Q (.ref l) H'
theorem sc_doors : FnScope ["self"] ["self"] (defScope s_doors) := ⟨rfl, rfl, rfl, by decide +kernel, rfl, by decide +kernel, by decide +kernel⟩
theorem ok_doors {f : Addr} {fd : FuncData} (F : Fun K "doors" "Board.doors" s_doors f fd) (T : Txt K mg C) : FnOk P w K mg base CX0 1 f fd ["self"] (spBDoors C) := by
  refine F.okq sc_doors (fun vs H Q E h => ?_) (fun cdv A outer s H vs Q E hr h => ?_)
  · obtain ⟨p, wd, hg, kvs, rfl, _⟩ := h
    rfl
  · obtain ⟨p, wd, hg, kvs, rfl, B, k⟩ := h
    obtain ⟨⟨dx, d, h1, h2⟩, sz, tb⟩ := id B
    refine ⟨_, qss_one (ps_ret (pe_ct (call_listT hr.hd) (by rfl) T.list PySem.Pv.boot_list (pa (pe_fld (pv 0) rfl) pa_nil))), ?_⟩
    refine ⟨_, rfl, p, C, dx, _, _, rfl, h1, T.cl, T.nS, flds_signs _ _ _, d, kvs, rfl, Rd.of h2, fun ads ak l hl => ?_⟩
    rw [tb.keys] at ak
    exact k l _ _ hl upd_same ((atKeys_tl ak).keep (Tk.new (Tk.refl _) hl)) (Same.new (Same.refl H) hl)
def spWith (C : Addr) : Sp := fun vs H Q _ => ∃ (l : Addr) (xs : List V) (ps : List (List Key × Str)) (w h : Nat), vs = [.int w, .int h, .ref l] ∧ okSize w h ∧ H l = some (.lst xs) ∧ PL H xs ps ∧ (∀ p ∈ ps, p.1 ∈ doors w h ∧ p.2 ∈ signs3) ∧
  ∀ (p : Addr) (H' : Hp), H p = none → Same H H' → BoardAt C H' p w h (putAll (bare w h) ps) → Q (.ref p) H'
theorem sc_with_signs : FnScope ["wide", "high", "placed", "board", "door", "sign"] ["wide", "high", "placed"] (defScope s_with_signs) := ⟨rfl, rfl, rfl, by decide +kernel, rfl, by decide +kernel, by decide +kernel⟩
theorem ok_with_signs {f : Addr} {fd : FuncData} (F : Fun K "with_signs" "with_signs" s_with_signs f fd) (T : Txt K mg C) (MB : ClassAt P w K mg base 2 C "Board" ["self", "wide", "high"] (spInit C)) (MC : MethAt P w K mg base 4 C "changed" ["self", "door", "sign"] (spChanged C)) :
    FnOk P w K mg base CX0 5 f fd ["wide", "high", "placed"] (spWith C) := by
  refine F.okq sc_with_signs (fun vs H Q E h => ?_) (fun cdv A outer s H vs Q E hr h => ?_)
  · obtain ⟨l, xs, ps, wd, hg, rfl, _⟩ := h
    rfl
  · obtain ⟨l, xs, ps, wd, hg, rfl, sz, hL, pl, hp, k⟩ := h
    refine ⟨_, qss_cons (ps_set (i := 3) sc_with_signs.nd rfl (Or.inl rfl) (pe_mk MB hr (pa (pv 0) (pa (pv 1) pa_nil))))
      (qss_cons (ps_forq PassesOwn.never rfl (pi_list (pv 2)) (pg_tup rfl (pgs_cons (pg_name (i := 4) sc_with_signs.nd rfl (Or.inl rfl)) (pgs_cons (pg_name (i := 5) sc_with_signs.nd rfl (Or.inl rfl)) pgs_nil)))
        (qss_one (ps_set (i := 3) sc_with_signs.nd rfl (Or.inl rfl) (pe_mth (pv 3) T.cl MC hr (pa (pv 4) (pa (pv 5) pa_nil))))))
      (qss_one (ps_ret (pv 3)))), ?_⟩
    refine ⟨_, rfl, _, rfl, fun p dx n1 n2 n3 => ?_⟩
    refine ⟨p, dx, wd, hg, rfl, sz, upd_same, fun d' H1 nd' c1 c2 c3 => ⟨rfl, ?_⟩⟩
    have sm : Same H H1 := fun b o e => c3 b o (by rw [upd_ne (ne_of_none e n1), upd_ne (ne_of_none e n2)]; exact e) (ne_of_none e n1)
    have B0 : BoardAt C H1 p wd hg (bare wd hg) := ⟨⟨dx, d', c1, c2⟩, sz, bare_tab wd hg⟩
    refine ⟨_, rfl, l, rfl, ⟨_, SqL.of (sm _ _ hL)⟩, for_list (K := K) (a := l) (xs := xs) (fun i σ H2 => ∃ (p : Addr) (v4 v5 : Option V), σ = [some (.int wd), some (.int hg), some (.ref l), some (.ref p), v4, v5] ∧ H p = none ∧ BoardAt C H2 p wd hg (putAll (bare wd hg) (ps.take i)) ∧ Same H H2)
      ⟨p, none, none, rfl, n1, B0, sm⟩ (fun i σ H2 _ ⟨_, _, _, _, _, _, z⟩ => SqL.of (z l _ hL)) ?_ ?_⟩
    · rintro i x σ H2 hi ⟨p, v4, v5, rfl, np, B, s2⟩
      obtain ⟨⟨kd, sg⟩, ek, a, ta, rfl, ha, hta⟩ := pl.at hi
      obtain ⟨hm, hsg⟩ := hp _ (List.mem_of_getElem? ek)
      obtain ⟨dx2, d2, o1, o2⟩ := B.ob
      refine ⟨a, _, rfl, SqT.of (s2 _ _ ha), rfl, _, _, rfl, _, _, rfl, rfl, ?_⟩
      refine ⟨_, rfl, p, dx2, _, rfl, o1, board_no (by simp), _, rfl, _, rfl, p, ta, sg, wd, hg, _, kd, rfl, B, s2 _ _ hta, hm, hsg, fun p' H3 np' s3 B3 => ?_⟩
      refine ⟨p', _, _, rfl, s2.free np', ?_, s2.trans s3⟩
      rw [putAll_take ek]
      exact B3
    · rintro σ H2 ⟨p, v4, v5, rfl, np, B, s2⟩
      refine ⟨_, rfl, k p H2 np s2 ?_⟩
      rw [pl.length, List.take_length] at B
      exact B
def spDRow : Sp := fun vs H Q _ => ∃ (a : Addr) (k : List Key) (w h : Nat), vs = [.ref a] ∧ H a = some (.tup (k.map kV)) ∧ k ∈ doors w h ∧ Q (.int (dRow k : Nat)) H
def spDCol : Sp := fun vs H Q _ => ∃ (a : Addr) (k : List Key) (w h : Nat), vs = [.ref a] ∧ H a = some (.tup (k.map kV)) ∧ k ∈ doors w h ∧ Q (.int (dCol k : Nat)) H
theorem sc_door_row : FnScope ["door"] ["door"] (defScope s_door_row) := ⟨rfl, rfl, rfl, by decide +kernel, rfl, by decide +kernel, by decide +kernel⟩
theorem ok_door_row {f : Addr} {fd : FuncData} (F : Fun K "door_row" "door_row" s_door_row f fd) : FnOk P w K mg base CX0 1 f fd ["door"] spDRow := by
  refine F.okq sc_door_row (fun vs H Q E h => ?_) (fun cdv A outer s H vs Q E hr h => ?_)
  · obtain ⟨a, k, wd, hg, rfl, _⟩ := h
    rfl
  · obtain ⟨a, kd, wd, hg, rfl, ha, hk, k⟩ := h
    refine ⟨_, qss_one (ps_ret (pe_op op_add (pe_op op_mul pe_int (pe_ix ix_tup (pv 0) pe_int (fun _ _ => rfl))) (pe_ifExp (pt_cmpR op_eq (pe_ix ix_tup (pv 0) pe_int (fun _ _ => rfl)) pe_str (nomark _)) pe_int pe_int))), ?_⟩
    rcases door_cases hk with ⟨c, r, rfl, h1, h2, h3, h4⟩ | ⟨c, r, rfl, h1, h2, h3, h4⟩
    · refine ⟨_, rfl, a, _, _, _, rfl, rfl, SqT.of ha, rfl, _, _, rfl, rfl, .inl ⟨by decide, by decide⟩, _, rfl, a, _, _, _, rfl, rfl, SqT.of ha, rfl, rfl, _, rfl, ?_⟩
      refine iteN (fun z => row_col_ne (V.str.inj z).symm) ⟨_, _, rfl, rfl, ?_⟩
      rw [dRow_row, show (((2 * r).toNat : Nat) : Int) = (2 : Int) * r + 0 by omega] at k
      exact k
    · refine ⟨_, rfl, a, _, _, _, rfl, rfl, SqT.of ha, rfl, _, _, rfl, rfl, .inl ⟨by decide, by decide⟩, _, rfl, a, _, _, _, rfl, rfl, SqT.of ha, rfl, rfl, _, rfl, ?_⟩
      refine iteE rfl ⟨_, _, rfl, rfl, ?_⟩
      rw [dRow_col, show (((2 * r + 1).toNat : Nat) : Int) = (2 : Int) * r + 1 by omega] at k
      exact k
theorem sc_door_place : FnScope ["door"] ["door"] (defScope s_door_place) := ⟨rfl, rfl, rfl, by decide +kernel, rfl, by decide +kernel, by decide +kernel⟩
theorem ok_door_place {f : Addr} {fd : FuncData} (F : Fun K "door_place" "door_place" s_door_place f fd) : FnOk P w K mg base CX0 1 f fd ["door"] spDCol := by
  refine F.okq sc_door_place (fun vs H Q E h => ?_) (fun cdv A outer s H vs Q E hr h => ?_)
  · obtain ⟨a, k, wd, hg, rfl, _⟩ := h
    rfl
  · obtain ⟨a, kd, wd, hg, rfl, ha, hk, k⟩ := h
    refine ⟨_, qss_one (ps_ret (pe_op op_add (pe_op op_mul pe_int (pe_ix ix_tup (pv 0) pe_int (fun _ _ => rfl))) (pe_ifExp (pt_cmpR op_eq (pe_ix ix_tup (pv 0) pe_int (fun _ _ => rfl)) pe_str (nomark _)) pe_int pe_int))), ?_⟩
    rcases door_cases hk with ⟨c, r, rfl, h1, h2, h3, h4⟩ | ⟨c, r, rfl, h1, h2, h3, h4⟩
    · refine ⟨_, rfl, a, _, _, _, rfl, rfl, SqT.of ha, rfl, _, _, rfl, rfl, .inl ⟨by decide, by decide⟩, _, rfl, a, _, _, _, rfl, rfl, SqT.of ha, rfl, rfl, _, rfl, ?_⟩
      refine iteE rfl ⟨_, _, rfl, rfl, ?_⟩
      rw [dCol_row, show (((2 * c + 1).toNat : Nat) : Int) = (2 : Int) * c + 1 by omega] at k
      exact k
    · refine ⟨_, rfl, a, _, _, _, rfl, rfl, SqT.of ha, rfl, _, _, rfl, rfl, .inl ⟨by decide, by decide⟩, _, rfl, a, _, _, _, rfl, rfl, SqT.of ha, rfl, rfl, _, rfl, ?_⟩
      refine iteN (fun z => row_col_ne (V.str.inj z)) ⟨_, _, rfl, rfl, ?_⟩
      rw [dCol_col, show (((2 * c).toNat : Nat) : Int) = (2 : Int) * c + 0 by omega] at k
      exact k
def bareT (w h : Nat) : List (List Nat) := (List.range (2 * h - 1)).map fun d => (List.range (2 * w - 1)).map (bareN d)
theorem bare_dim (w h : Nat) : Dim (bareT w h) (2 * h - 1) (2 * w - 1) := ⟨by unfold bareT; rw [List.length_map, List.length_range], fun row hr => by
  obtain ⟨d, _, rfl⟩ := List.mem_map.mp hr
  rw [List.length_map, List.length_range]⟩
theorem bare_cell {w h d a : Nat} (hd : d < 2 * h - 1) (ha : a < 2 * w - 1) : cellB (bareT w h) d a = some (bareN d a) := by
  unfold cellB bareT
  rw [List.getElem?_map, List.getElem?_range hd]
  show ((List.range (2 * w - 1)).map (bareN d))[a]? = _
  rw [List.getElem?_map, List.getElem?_range ha]
  rfl
def spBare : Sp := fun vs H Q _ => ∃ (w h : Nat), vs = [.int w, .int h] ∧ okSize w h ∧ ∀ (l : Addr) (xs : List V) (H' : Hp), H l = none → H' l = some (.lst xs) → xs.Nodup → (∀ x ∈ xs, ∃ a, x = V.ref a ∧ H a = none ∧ a ≠ l) → TB oneS H' xs (bareT w h) → Same H H' → Q (.ref l) H'
theorem sc_bare_rows : FnScope ["wide", "high", "dots", "doors"] ["wide", "high"] (defScope s_bare_rows) := ⟨rfl, rfl, rfl, by decide +kernel, rfl, by decide +kernel, by decide +kernel⟩
theorem dots_text {w : Nat} (h : 1 ≤ w) (x y : Nat) (p q : Str) (hp : p.cps.toList = [x]) (hq : q.cps.toList = [y, x]) : (p ++ repS q (w - 1)).cps.toList = (List.range (2 * w - 1)).map fun a => if a % 2 = 0 then x else y := by
  show (p.cps ++ (repS q (w - 1)).cps).toList = _
  rw [Array.toList_append, repS_toList, hp, hq, show 2 * w - 1 = 2 * (w - 1) + 1 by omega, ← alt_list]
  rfl
theorem ok_bare_rows {f : Addr} {fd : FuncData} (F : Fun K "bare_rows" "bare_rows" s_bare_rows f fd) (T : Txt K mg C) : FnOk P w K mg base CX0 1 f fd ["wide", "high"] spBare := by
  refine F.okq sc_bare_rows (fun vs H Q E h => ?_) (fun cdv A outer s H vs Q E hr h => ?_)
  · obtain ⟨wd, hg, rfl, _⟩ := h
    rfl
  · obtain ⟨wd, hg, rfl, sz, k⟩ := h
    obtain ⟨w1, w2, h1, h2, wh⟩ := id sz
    refine ⟨_, qss_cons (ps_set (i := 2) sc_bare_rows.nd rfl (Or.inr rfl) (pe_op op_add_str pe_str (pe_op op_repS pe_str (pe_op op_sub (pv 0) pe_int))))
      (qss_cons (ps_set (i := 3) sc_bare_rows.nd rfl (Or.inr rfl) (pe_op op_add_str pe_str (pe_op op_repS pe_str (pe_op op_sub (pv 0) pe_int))))
      (qss_one (ps_ret (pe_comp (x := "row") (fvs := [("dots", 2), ("doors", 3)]) rfl rfl rfl (by decide +kernel) (by decide +kernel) rfl ⟨rfl, rfl, trivial⟩ rfl ⟨⟨rfl, rfl, rfl⟩, ⟨rfl, rfl, rfl⟩, trivial⟩ (by decide +kernel)
        (pi_range1 rfl T.range (pa (pe_op op_sub (pe_op op_mul pe_int (pv 1)) pe_int) pa_nil))
        (fun C' s' H' fp => pe_ct (call_listS hr.hd) (by rfl) T.list PySem.Pv.boot_list (pa (pe_ifExp (pt_cmpR op_eq (pe_op op_mod (pv 0) pe_int) pe_int (nomark _)) (pv 1) (pv 2)) pa_nil)))))), ?_⟩
    have ew : (wd : Int) - 1 = ((wd - 1 : Nat) : Int) := by omega
    have eh : (2 : Int) * (hg : Int) - 1 = ((2 * hg - 1 : Nat) : Int) := by omega
    have lt : ∀ (p q : Str), p.length ≤ 2 → q.length ≤ 2 → p.length + (repS q (wd - 1)).length ≤ sizeLine := fun p q h3 h4 => by
      rw [repS_length]
      have : (wd - 1) * q.length ≤ 12 * 2 := Nat.mul_le_mul (by omega) h4
      exact Nat.le_of_lt (small1000 (by omega))
    refine ⟨_, rfl, _, _, rfl, rfl, ".o", wd - 1, rfl, (by rw [← ew]), by omega, by decide, by decide, _, _, rfl, rfl, lt _ _ (by decide) (by decide), ?_⟩
    refine ⟨_, rfl, _, _, rfl, rfl, "+.", wd - 1, rfl, (by rw [← ew]), by omega, by decide, by decide, _, _, rfl, rfl, lt _ _ (by decide) (by decide), ?_⟩
    have t1 : (("o" : Str) ++ repS ".o" (wd - 1)).cps.toList = (List.range (2 * wd - 1)).map fun a => if a % 2 = 0 then 111 else 46 := dots_text w1 111 46 _ _ (by decide +kernel) (by decide +kernel)
    have t2 : (("." : Str) ++ repS "+." (wd - 1)).cps.toList = (List.range (2 * wd - 1)).map fun a => if a % 2 = 0 then 46 else 43 := dots_text w1 46 43 _ _ (by decide +kernel) (by decide +kernel)
    generalize ("o" : Str) ++ repS ".o" (wd - 1) = x1 at t1
    generalize ("." : Str) ++ repS "+." (wd - 1) = x2 at t2
    have l1 : x1.length ≤ 1000 := by
      show x1.cps.size ≤ 1000
      rw [← Array.length_toList, t1, List.length_map, List.length_range]; omega
    have l2 : x2.length ≤ 1000 := by
      show x2.cps.size ≤ 1000
      rw [← Array.length_toList, t2, List.length_map, List.length_range]; omega
    refine ⟨_, rfl, _, _, rfl, rfl, .inl ⟨by decide, by decide⟩, _, _, rfl, rfl, (2 * hg - 1 : Nat), (by rw [← eh]), by omega, by omega, fun D hD => ?_⟩
    rw [Int.toNat_natCast]
    refine comp_range (n := 2 * hg - 1) (fun i ys H2 => H2 D = some (.lst ys) ∧ TB oneS H2 ys ((bareT wd hg).take i) ∧ ys.Nodup ∧ (∀ x ∈ ys, ∃ a, x = V.ref a ∧ H a = none ∧ a ≠ D ∧ H2 a ≠ none) ∧ Same H H2) (by omega)
      ⟨upd_same, .nil, .nil, (fun x hx => by cases hx), Same.new (Same.refl H) hD⟩ (fun i ys H2 hi ⟨c1, c2, _⟩ => ⟨c1, by rw [c2.length, List.length_take, (bare_dim wd hg).hi]; omega⟩) ?_ ?_
    · rintro i ys H2 R hi ⟨c1, c2, c3, c4, c5⟩ hR
      have erow : (bareT wd hg)[i]? = some ((List.range (2 * wd - 1)).map (bareN i)) := by
        unfold bareT
        rw [List.getElem?_map, List.getElem?_range hi]
        rfl
      have pick : ∀ (x : Str), x.cps.toList = (List.range (2 * wd - 1)).map (bareN i) → x.length ≤ 1000 → ∃ z : Str, [V.str x] = [V.str z] ∧ z.length ≤ 1000 ∧ ∀ l, H2 l = none → R (.ref l) (upd H2 l (.lst (z.cps.toList.map oneS))) := fun x ex lx => by
        refine ⟨x, rfl, lx, fun q nq => ?_⟩
        rw [ex]
        have hDq : D ≠ q := ne_of_none c1 nq
        have s1 : Same H2 (upd H2 q (.lst (((List.range (2 * wd - 1)).map (bareN i)).map oneS))) := Same.new (Same.refl _) nq
        refine hR _ _ (s1 _ _ c1) ⟨upd_same, ?_, ?_, ?_, ?_⟩
        · rw [List.take_add_one, erow, Option.toList_some]
          refine (c2.keep fun a zs ha e => ?_).snoc ⟨q, rfl, by rw [upd_ne hDq.symm]; exact upd_same⟩
          obtain ⟨a', ea, _, naD, _⟩ := c4 _ ha
          cases ea
          rw [upd_ne naD]
          exact s1 _ _ e
        · refine List.nodup_append.mpr ⟨c3, by simp, fun u hu v hv e => ?_⟩
          have hv' : v = V.ref q := by simpa using hv
          rw [e, hv'] at hu
          obtain ⟨a', ea, _, _, h5⟩ := c4 _ hu
          cases ea
          exact h5 nq
        · intro x hx
          rcases List.mem_append.mp hx with hx | hx
          · obtain ⟨a', ea, h3, h4, h5⟩ := c4 _ hx
            refine ⟨a', ea, h3, h4, ?_⟩
            rw [upd_ne h4]
            cases z : H2 a' with
            | none => exact absurd z h5
            | some o => rw [s1 _ _ z]; exact Option.some_ne_none _
          · cases List.mem_singleton.mp hx
            refine ⟨q, rfl, c5.free nq, hDq.symm, ?_⟩
            rw [upd_ne hDq.symm, upd_same]
            exact Option.some_ne_none _
        · intro b o e
          rw [upd_ne (fun z => by subst z; rw [hD] at e; cases e)]
          exact s1 _ _ (c5 b o e)
      refine ⟨_, rfl, _, _, rfl, rfl, (by show (0 : Int) < 2; decide), rfl, _, rfl, ?_⟩
      have par : decide (V.int ((0 + (i : Int)) % 2) = V.int 0) = (i % 2 == 0) := by
        rcases Nat.mod_two_eq_zero_or_one i with h | h
        · rw [show ((0 + (i : Int)) % 2) = 0 by omega, h, decide_eq_true rfl]; rfl
        · rw [show ((0 + (i : Int)) % 2) = 1 by omega, h]; rfl
      rw [par]
      rcases Nat.mod_two_eq_zero_or_one i with h | h
      · rw [h]
        refine iteT ⟨_, rfl, pick x1 ?_ l1⟩
        rw [t1]
        refine List.map_congr_left fun a _ => ?_
        unfold bareN
        rw [if_pos h]
      · rw [h]
        refine iteF ⟨_, rfl, pick x2 ?_ l2⟩
        rw [t2]
        refine List.map_congr_left fun a _ => ?_
        unfold bareN
        rw [if_neg (show ¬ i % 2 = 0 by omega)]
    · rintro ys H2 ⟨c1, c2, c3, c4, c5⟩
      rw [List.take_of_length_le (by rw [(bare_dim wd hg).hi]; exact Nat.le_refl _)] at c2
      exact k D ys H2 hD c1 c3 (fun x hx => let ⟨a', ea, h3, h4, _⟩ := c4 x hx; ⟨a', ea, h3, h4⟩) c2 c5
def drawT (w h : Nat) (kvs : List (List Key × V)) : List (List Nat) := (List.range (2 * h - 1)).map fun d => (List.range (2 * w - 1)).map (chN kvs d)
def drawS (w h : Nat) (kvs : List (List Key × V)) : List Str := (drawT w h kvs).map fun row => ⟨row.toArray⟩
theorem draw_sum {w h : Nat} (kvs : List (List Key × V)) (sz : okSize w h) : ((drawS w h kvs).map (·.length)).sum + (drawS w h kvs).length ≤ 1048576 := by
  obtain ⟨w1, w2, h1, h2, wh⟩ := id sz
  have hl : (drawS w h kvs).length = 2 * h - 1 := by unfold drawS drawT; rw [List.length_map, List.length_map, List.length_range]
  have hb : ∀ (l : List Nat) (b : Nat), (∀ x ∈ l, x ≤ b) → l.sum ≤ l.length * b := by
    intro l b
    induction l with
    | nil => intro _; simp
    | cons a r ih =>
      intro hx
      have h1 := hx a List.mem_cons_self
      have h2 := ih fun x hx' => hx x (List.mem_cons_of_mem _ hx')
      rw [List.sum_cons, List.length_cons, Nat.succ_mul]
      omega
  have := hb ((drawS w h kvs).map (·.length)) 23 fun x hx => by
    obtain ⟨t, ht, rfl⟩ := List.mem_map.mp hx
    unfold drawS drawT at ht
    obtain ⟨row, hr, rfl⟩ := List.mem_map.mp ht
    obtain ⟨d, _, rfl⟩ := List.mem_map.mp hr
    show ((List.range (2 * w - 1)).map (chN kvs d)).toArray.size ≤ 23
    simp
    omega
  rw [List.length_map, hl] at this
  rw [hl]
  have : (2 * h - 1) * 23 ≤ 23 * 23 := Nat.mul_le_mul_right _ (by omega)
  omega
def spShown (C : Addr) : Sp := fun vs H Q _ => ∃ (p : Addr) (w h : Nat) (kvs : List (List Key × V)), vs = [.ref p] ∧ BoardAt C H p w h kvs ∧ ∀ H' : Hp, Same H H' → Q (.str (Txt.join "\n" (drawS w h kvs))) H'
theorem sc_shown : FnScope ["board", "rows", "door"] ["board"] (defScope s_shown) := ⟨rfl, rfl, rfl, by decide +kernel, rfl, by decide +kernel, by decide +kernel⟩
theorem ok_shown {f : Addr} {fd : FuncData} (F : Fun K "shown" "shown" s_shown f fd) (T : Txt K mg C) (DB : DefAt P w K mg base 1 "bare_rows" ["wide", "high"] spBare) (DR : DefAt P w K mg base 1 "door_row" ["door"] spDRow) (DP : DefAt P w K mg base 1 "door_place" ["door"] spDCol)
    (MD : MethAt P w K mg base 1 C "doors" ["self"] (spBDoors C)) (MS : MethAt P w K mg base 2 C "sign" ["self", "door"] (spSign C)) : FnOk P w K mg base CX0 3 f fd ["board"] (spShown C) := by
  refine F.okq sc_shown (fun vs H Q E h => ?_) (fun cdv A outer s H vs Q E hr h => ?_)
  · obtain ⟨p, wd, hg, kvs, rfl, _⟩ := h
    rfl
  · obtain ⟨p, wd, hg, kvs, rfl, B, k⟩ := h
    obtain ⟨⟨dx, d, o1, o2⟩, sz, tb⟩ := id B
    obtain ⟨w1, w2, h1, h2, wh⟩ := id sz
    refine ⟨_, qss_cons (ps_set (i := 1) sc_shown.nd rfl (Or.inl rfl) (pe_def DB hr (pa (pe_fld (pv 0) rfl) (pa (pe_fld (pv 0) rfl) pa_nil))))
      (qss_cons (ps_forq PassesOwn.never rfl (pi_list (pe_mth0 (pv 0) T.cl MD hr)) (pg_name (i := 2) sc_shown.nd rfl (Or.inl rfl))
        (qss_one (ps_asg (pe_mth (pv 0) T.cl MS hr (pa (pv 2) pa_nil)) (pg_sub (pe_ix ix_list (pv 1) (pe_def DR hr (pa (pv 2) pa_nil)) (fun _ _ => rfl)) (pe_def DP hr (pa (pv 2) pa_nil)) set_list))))
      (qss_one (ps_ret (pe_bm PySem.F.plainAttrs_str PySem.F.slot_str_join PySem.F.type_str_join mt_join pe_str (pa
        (pe_comp (x := "row") (fvs := []) rfl rfl rfl (by decide +kernel) (by decide +kernel) rfl trivial rfl trivial (by decide +kernel) (pi_list (pv 1))
          (fun C' s' H' fp => pe_bmC (K := K) rfl PySem.F.plainAttrs_str PySem.F.slot_str_join PySem.F.type_str_join mt_join pe_str (pa (pv 0) pa_nil))) pa_nil))))), ?_⟩
    refine ⟨_, rfl, p, C, dx, _, _, rfl, o1, T.cl, T.nW, flds_wide _ _ _, _, rfl, p, C, dx, _, _, rfl, o1, T.cl, T.nH, flds_high _ _ _, wd, hg, rfl, sz, fun D ys H1 hD c1 c3 c4 T1 s1 => ?_⟩
    have B1 := B.keep s1
    obtain ⟨⟨dx1, d1, q1, q2⟩, _, _⟩ := id B1
    refine ⟨_, rfl, p, dx1, _, rfl, q1, board_no (by simp), p, wd, hg, kvs, rfl, B1, fun ld ds H2 nld hLd tld s2 => ?_⟩
    have hD2 : H2 D = some (.lst ys) := s2 _ _ c1
    have T2 : TB oneS H2 ys (bareT wd hg) := T1.keep fun a zs _ e => s2 _ _ e
    have live : ∀ a, V.ref a ∈ ys → ∃ zs, H1 a = some (.lst zs) := fun a m => by
      obtain ⟨j, hj⟩ := List.getElem?_of_mem m
      obtain ⟨row, _, b, eb, hb⟩ := T1.at' hj
      cases eb
      exact ⟨_, hb⟩
    have ldY : V.ref ld ∉ ys := fun m => by
      obtain ⟨zs, z⟩ := live _ m
      rw [z] at nld; cases nld
    have DY : V.ref D ∉ ys := fun m => by
      obtain ⟨a', ea, _, h4⟩ := c4 _ m
      cases ea
      exact h4 rfl
    have oY : ∀ b o, H b = some o → V.ref b ∉ ys := fun b o e m => by
      obtain ⟨a', ea, h3, _⟩ := c4 _ m
      cases ea
      rw [e] at h3; cases h3
    have tY : ∀ b us, H2 b = some (.tup us) → V.ref b ∉ ys := fun b us e m => by
      obtain ⟨zs, z⟩ := live _ m
      rw [s2 _ _ z] at e; cases e
    have hdl : ds.length = (doors wd hg).length := tld.length
    refine ⟨ld, rfl, ⟨_, SqL.of hLd⟩, for_list (K := K) (a := ld) (xs := ds) (fun i σ H3 => ∃ (rows : List (List Nat)) (v2 : Option V), σ = [some (.ref p), some (.ref D), v2] ∧ Dim rows (2 * hg - 1) (2 * wd - 1) ∧ TB oneS H3 ys rows ∧
        (∀ kd ∈ (doors wd hg).take i, cellB rows (dRow kd) (dCol kd) = some (sgN (sgAt kvs kd))) ∧ (∀ x y, x < 2 * hg - 1 → y < 2 * wd - 1 → (∀ kd ∈ doors wd hg, ¬ (dRow kd = x ∧ dCol kd = y)) → cellB rows x y = some (bareN x y)) ∧ (∀ b o, H2 b = some o → V.ref b ∉ ys → H3 b = some o))
      ⟨_, none, rfl, bare_dim wd hg, T2, (fun kd hk => by cases hk), (fun x y hx hy _ => bare_cell hx hy), fun _ _ e _ => e⟩ (fun i σ H3 _ ⟨_, _, _, _, _, _, _, z⟩ => SqL.of (z _ _ hLd ldY)) ?_ ?_⟩
    · rintro i x σ H3 hi ⟨rows, v2, rfl, g1, g2, g3, g4, g5⟩
      obtain ⟨kd, ek, ta, rfl, hta⟩ := tld.at hi
      have hm : kd ∈ doors wd hg := List.mem_of_getElem? ek
      have hta3 : H3 ta = some (.tup (kd.map kV)) := g5 _ _ hta (tY _ _ hta)
      have B3 : BoardAt C H3 p wd hg kvs := B.keep fun b o e => g5 b o (s2 _ _ (s1 _ _ e)) (oY b o e)
      obtain ⟨⟨dx3, d3, q3, q4⟩, _, _⟩ := id B3
      obtain ⟨_, sg2⟩ := tb.sg hm
      refine ⟨_, rfl, p, dx3, _, rfl, q3, board_no (by simp), _, rfl, p, ta, wd, hg, kvs, kd, rfl, B3, hta3, hm, ?_⟩
      obtain ⟨row, erow, lrow⟩ := g1.at (dRow_lt hm)
      obtain ⟨xr, exr, ar, rfl, har⟩ := g2.at erow
      refine ⟨_, rfl, _, rfl, ta, kd, wd, hg, rfl, hta3, hm, D, _, _, V.ref ar, rfl, rfl, SqL.of (g5 _ _ hD2 DY), atI_nat exr, ?_⟩
      refine ⟨_, rfl, ta, kd, wd, hg, rfl, hta3, hm, ar, _, _, dCol kd, rfl, rfl, har, (by rw [List.length_map, lrow]; exact ixN_in (dCol_lt hm)), ?_⟩
      refine ⟨setB rows (dRow kd) (dCol kd) (sgN (sgAt kvs kd)), _, rfl, g1.set _ _ (dRow_lt hm), ?_, ?_, ?_, fun b o e n => ?_⟩
      · have e1 : (row.map oneS).set (dCol kd) (V.str (sgAt kvs kd)) = (row.set (dCol kd) (sgN (sgAt kvs kd))).map oneS := by
          rw [List.map_set]
          congr 1
          show V.str _ = V.str ⟨#[sgN (sgAt kvs kd)]⟩
          rw [sgN_eq sg2]
        have e2 : rows.getD (dRow kd) [] = row := by rw [List.getD_eq_getElem?_getD, erow]; rfl
        rw [e1]
        unfold setB
        rw [e2]
        exact g2.set c3 exr
      · intro kj hj
        rw [cell_set g1 (dRow_lt hm) (dCol_lt hm)]
        have hjm : kj ∈ doors wd hg := List.mem_of_mem_take hj
        by_cases e : dRow kj = dRow kd ∧ dCol kj = dCol kd
        · rw [if_pos e, d_inj hjm hm e.1 e.2]
        · rw [if_neg e]
          refine g3 kj ?_
          rw [List.take_add_one, ek, Option.toList_some] at hj
          rcases List.mem_append.mp hj with hj | hj
          · exact hj
          · cases List.mem_singleton.mp hj
            exact absurd ⟨rfl, rfl⟩ e
      · intro x y hx hy hn
        rw [cell_set g1 (dRow_lt hm) (dCol_lt hm), if_neg (fun z => hn kd hm ⟨z.1.symm, z.2.symm⟩)]
        exact g4 x y hx hy hn
      · rw [upd_ne (fun z => n (by rw [z]; exact List.mem_of_getElem? exr))]
        exact g5 b o e n
    · rintro σ H3 ⟨rows, v2, rfl, g1, g2, g3, g4, g5⟩
      have erows : rows = drawT wd hg kvs := table_ext g1 fun x y hx hy => by
        by_cases hn : ∀ kd ∈ doors wd hg, ¬ (dRow kd = x ∧ dCol kd = y)
        · rw [g4 x y hx hy hn, ch_off hx hy hn]
        · have : ∃ kd, kd ∈ doors wd hg ∧ dRow kd = x ∧ dCol kd = y := by
            apply Classical.byContradiction
            intro h
            exact hn fun kd hk e => h ⟨kd, hk, e⟩
          obtain ⟨kd, hk, rfl, rfl⟩ := this
          rw [ch_on hk]
          refine g3 kd ?_
          rw [hdl, List.take_length]
          exact hk
      subst erows
      have hD3 : H3 D = some (.lst ys) := g5 _ _ hD2 DY
      have hyl : ys.length = 2 * hg - 1 := by rw [g2.length, g1.hi]
      refine ⟨rfl, _, rfl, D, rfl, ⟨_, SqL.of hD3⟩, fun E' hE => ?_⟩
      refine comp_list (K := K) (a := D) (xs := ys) (fun i zs H4 => H4 E' = some (.lst zs) ∧ zs = ((drawS wd hg kvs).take i).map V.str ∧ i ≤ ys.length ∧ Same H3 H4) (by omega)
        ⟨upd_same, rfl, Nat.zero_le _, Same.new (Same.refl _) hE⟩ (fun i zs H4 hi ⟨u1, u2, _, u4⟩ => ⟨SqL.of (u4 _ _ hD3), u1, ?_⟩) ?_ ?_
      · rw [u2, List.length_map, List.length_take]
        have : (drawS wd hg kvs).length = 2 * hg - 1 := by unfold drawS; rw [List.length_map]; exact g1.hi
        omega
      · rintro i x zs H4 R hi ⟨u1, u2, u3, u4⟩ hR
        obtain ⟨row, er, a, rfl, ha⟩ := g2.at' hi
        have har : H4 a = some (.lst ((row.map mk1).map V.str)) := by rw [← oneS_mk]; exact u4 _ _ ha
        have lr : row.length = 2 * wd - 1 := g1.wd _ (List.mem_of_getElem? er)
        refine ⟨rfl, _, rfl, "", a, row.map mk1, rfl, rfl, har, by decide, ?_, ?_⟩
        · rw [List.map_map, show ((fun z : Str => z.length) ∘ mk1) = fun _ => 1 from rfl, List.length_map]
          have : (row.map fun _ => 1).sum = row.length := by
            clear er ha har lr hi
            induction row with
            | nil => rfl
            | cons a r ih => rw [List.map_cons, List.sum_cons, ih, List.length_cons]; omega
          omega
        · rw [join_row]
          have hil : i < ys.length := (List.getElem?_eq_some_iff.mp hi).1
          refine hR _ _ u1 ⟨upd_same, ?_, hil, Same.own u4 hE⟩
          rw [u2, List.take_add_one, List.map_append]
          congr 1
          unfold drawS
          rw [List.getElem?_map, er]
          rfl
      · rintro zs H4 ⟨u1, u2, _, u4⟩
        have e1 : (drawS wd hg kvs).take ys.length = drawS wd hg kvs := List.take_of_length_le (by unfold drawS; rw [List.length_map, g1.hi]; omega)
        rw [e1] at u2
        subst u2
        refine ⟨"\n", E', drawS wd hg kvs, rfl, rfl, u1, by decide, draw_sum kvs sz, ?_⟩
        exact k H4 fun b o e => u4 _ _ (g5 b o (s2 _ _ (s1 _ _ e)) (oY b o e))
theorem sg_bare {w h : Nat} {k : List Key} (hk : k ∈ doors w h) : sgAt (bare w h) k = "." := by
  obtain ⟨v, e⟩ := valV_some (kvs := bare w h) (k := k) (by rw [bare_keys]; exact hk)
  have hm := valV_mem e
  unfold bare at hm
  obtain ⟨k', _, e'⟩ := List.mem_map.mp hm
  injection e' with e1 e2
  subst e2
  exact sgAt_of e
theorem sgN_map {x : Str} (hx : x ∈ signs3) : mapc (sgN x) = 46 := by
  unfold signs3 at hx
  simp only [List.mem_cons, List.not_mem_nil, or_false] at hx
  rcases hx with rfl | rfl | rfl <;> decide +kernel
theorem bare_on {w h : Nat} {k : List Key} (hk : k ∈ doors w h) : bareN (dRow k) (dCol k) = 46 := by
  unfold bareN
  rcases door_cases hk with ⟨c, r, rfl, h1, h2, h3, h4⟩ | ⟨c, r, rfl, h1, h2, h3, h4⟩
  · rw [dRow_row, dCol_row, if_pos (by omega), if_neg (by omega)]
  · rw [dRow_col, dCol_col, if_neg (by omega), if_pos (by omega)]
theorem mapc_bare (d a : Nat) : mapc (bareN d a) = bareN d a := by
  unfold bareN
  split <;> split <;> decide +kernel
theorem at_door (w h d a : Nat) : (∃ k ∈ doors w h, dRow k = d ∧ dCol k = a) ∨ ∀ k ∈ doors w h, ¬ (dRow k = d ∧ dCol k = a) := by
  by_cases hn : ∃ k ∈ doors w h, dRow k = d ∧ dCol k = a
  · exact .inl hn
  · exact .inr fun k hk e => hn ⟨k, hk, e⟩
theorem ch_map {w h : Nat} {kvs : List (List Key × V)} (tb : Tab w h kvs) {d a : Nat} (hd : d < 2 * h - 1) (ha : a < 2 * w - 1) : mapc (chN kvs d a) = bareN d a := by
  rcases at_door w h d a with ⟨k, hk, rfl, rfl⟩ | hn
  · rw [ch_on hk, bare_on hk, sgN_map (tb.sg hk).2]
  · rw [ch_off hd ha hn, mapc_bare]
theorem ch_bare {w h d a : Nat} (hd : d < 2 * h - 1) (ha : a < 2 * w - 1) : chN (bare w h) d a = bareN d a := by
  rcases at_door w h d a with ⟨k, hk, rfl, rfl⟩ | hn
  · rw [ch_on hk, bare_on hk, sg_bare hk]
    decide +kernel
  · exact ch_off hd ha hn
theorem drawS_len (w h : Nat) (kvs : List (List Key × V)) : (drawS w h kvs).length = 2 * h - 1 := by unfold drawS drawT; rw [List.length_map, List.length_map, List.length_range]
theorem drawS_at {w h d : Nat} (kvs : List (List Key × V)) (hd : d < 2 * h - 1) : (drawS w h kvs)[d]? = some ⟨((List.range (2 * w - 1)).map (chN kvs d)).toArray⟩ := by
  unfold drawS drawT
  rw [List.getElem?_map, List.getElem?_map, List.getElem?_range hd]
  rfl
theorem drawS_row {w h : Nat} {kvs : List (List Key × V)} {p : Str} (hp : p ∈ drawS w h kvs) : ∃ d, d < 2 * h - 1 ∧ p.cps.toList = (List.range (2 * w - 1)).map (chN kvs d) := by
  obtain ⟨d, hd⟩ := List.getElem?_of_mem hp
  have hl := (List.getElem?_eq_some_iff.mp hd).1
  rw [drawS_len] at hl
  rw [drawS_at kvs hl] at hd
  cases hd
  exact ⟨d, hl, by simp⟩
theorem bareN_nl (d a : Nat) : bareN d a ≠ 10 := by
  unfold bareN
  split <;> split <;> decide +kernel
theorem draw_nl {w h : Nat} {kvs : List (List Key × V)} (tb : Tab w h kvs) : ∀ p ∈ drawS w h kvs, 10 ∉ p.cps.toList := fun p hp hm => by
  obtain ⟨d, hd, e⟩ := drawS_row hp
  rw [e] at hm
  obtain ⟨a, ha, ea⟩ := List.mem_map.mp hm
  have := ch_map tb hd (List.mem_range.mp ha)
  rw [ea] at this
  exact bareN_nl d a (by rw [← this]; decide +kernel)
theorem draw_split {w h : Nat} {kvs : List (List Key × V)} (sz : okSize w h) (tb : Tab w h kvs) : Txt.split (Txt.join "\n" (drawS w h kvs)) "\n" = drawS w h kvs := by
  rw [lit_nl]
  refine split_join 10 _ (fun e => ?_) (draw_nl tb)
  have := drawS_len w h kvs
  rw [e] at this
  obtain ⟨_, _, h1, _⟩ := sz
  simp at this
  omega
theorem join_toList (c : Nat) (R : List Str) : (Txt.join ⟨#[c]⟩ R).cps.toList = (Str.join ⟨#[c]⟩ R).cps.toList := by
  show (Builtin.Str.glued _ _).cps.toList = _
  rw [StrLaws.glued_eq_join]
theorem draw_unM {w h : Nat} {kvs : List (List Key × V)} (tb : Tab w h kvs) : unM (Txt.join "\n" (drawS w h kvs)) = Txt.join "\n" (drawS w h (bare w h)) := by
  refine Str.ext' (Array.toList_inj.mp ?_)
  rw [unM_toList, lit_nl, join_toList, join_toList, join_map 10 mapc (by decide +kernel)]
  congr 3
  unfold drawS drawT
  rw [List.map_map, List.map_map, List.map_map]
  refine List.map_congr_left fun d hd => ?_
  show (⟨((((List.range (2 * w - 1)).map (chN kvs d)).toArray.toList).map mapc).toArray⟩ : Str) = ⟨((List.range (2 * w - 1)).map (chN (bare w h) d)).toArray⟩
  congr 2
  simp only [List.map_map]
  refine List.map_congr_left fun a ha => ?_
  show mapc (chN kvs d a) = chN (bare w h) d a
  rw [ch_map tb (List.mem_range.mp hd) (List.mem_range.mp ha), ch_bare (List.mem_range.mp hd) (List.mem_range.mp ha)]
theorem join_len (c : Nat) : ∀ R : List Str, (Str.join ⟨#[c]⟩ R).cps.toList.length ≤ (R.map (·.length)).sum + R.length
  | [] => by
    show ([] : List Nat).length ≤ _
    simp
  | [p] => by
    show p.cps.toList.length ≤ (p.cps.size + 0) + 1
    rw [Array.length_toList]
    omega
  | p :: q :: r => by
    have ih := join_len c (q :: r)
    rw [join_cons2, List.length_append, List.length_append, List.map_cons, List.sum_cons, Array.length_toList]
    rw [List.length_cons (a := p)]
    show p.cps.size + (1 + _) ≤ p.cps.size + _ + _
    omega
theorem text_len {R : List Str} (hs : (R.map (·.length)).sum + R.length ≤ 1048576) : (Txt.join "\n" R).length ≤ 1048576 := by
  show (Txt.join "\n" R).cps.size ≤ _
  rw [← Array.length_toList, lit_nl, join_toList]
  exact Nat.le_trans (join_len 10 R) hs
theorem drawS_rowlen {w d : Nat} (kvs : List (List Key × V)) : (⟨((List.range (2 * w - 1)).map (chN kvs d)).toArray⟩ : Str).length = 2 * w - 1 := by
  show ((List.range (2 * w - 1)).map (chN kvs d)).toArray.size = _
  simp
def spUnM : Sp := fun vs H Q _ => ∃ t : Str, vs = [.str t] ∧ t.length ≤ 1048576 ∧ Q (.str (unM t)) H
theorem sc_without_mirrors : FnScope ["text"] ["text"] (defScope s_without_mirrors) := ⟨rfl, rfl, rfl, by decide +kernel, rfl, by decide +kernel, by decide +kernel⟩
theorem ok_without_mirrors {f : Addr} {fd : FuncData} (F : Fun K "without_mirrors" "without_mirrors" s_without_mirrors f fd) (TN : TokN K mg) : FnOk P w K mg base CX0 1 f fd ["text"] spUnM := by
  obtain ⟨tk, hm, h0, hlow⟩ := TN.ex
  refine F.okq sc_without_mirrors (fun vs H Q E h => ?_) (fun cdv A outer s H vs Q E hr h => ?_)
  · obtain ⟨t, rfl, _⟩ := h
    rfl
  · obtain ⟨t, rfl, hl, k⟩ := h
    refine ⟨_, qss_one (ps_ret (pe_replace (y := "-") (z := ".") rfl hm h0 hlow (by decide +kernel) (by decide) (by decide) (pe_replace (y := "|") (z := ".") rfl hm h0 hlow (by decide +kernel) (by decide) (by decide) (pv 0)))), ?_⟩
    refine ⟨_, rfl, t, rfl, hl, _, rfl, ?_, k⟩
    rw [lit_bar, lit_dot, replace_len]
    exact hl
def spRead (C : Addr) : Sp := fun vs H Q _ => ∃ (wd hg : Nat) (kvs : List (List Key × V)), vs = [.str (Txt.join "\n" (drawS wd hg kvs))] ∧ okSize wd hg ∧ Tab wd hg kvs ∧
  ∀ (p : Addr) (kb : List (List Key × V)) (H' : Hp), H p = none → Same H H' → BoardAt C H' p wd hg kb → (∀ k ∈ doors wd hg, sgAt kb k = sgAt kvs k) → Q (.ref p) H'
theorem sc_read : FnScope ["text", "rows", "wide", "high", "placed"] ["text"] (defScope s_read) := ⟨rfl, rfl, rfl, by decide +kernel, rfl, by decide +kernel, by decide +kernel⟩
theorem ok_read {f : Addr} {fd : FuncData} (F : Fun K "read" "read" s_read f fd) (T : Txt K mg C) (DZ : DefAt P w K mg base 1 "is_size" ["wide", "high"] spSize) (DU : DefAt P w K mg base 1 "without_mirrors" ["text"] spUnM) (DH : DefAt P w K mg base 3 "shown" ["board"] (spShown C))
    (MB : ClassAt P w K mg base 2 C "Board" ["self", "wide", "high"] (spInit C)) (MD : MethAt P w K mg base 1 C "doors" ["self"] (spBDoors C)) (DR : DefAt P w K mg base 1 "door_row" ["door"] spDRow) (DP : DefAt P w K mg base 1 "door_place" ["door"] spDCol)
    (DW : DefAt P w K mg base 5 "with_signs" ["wide", "high", "placed"] (spWith C)) : FnOk P w K mg base CX0 6 f fd ["text"] (spRead C) := by
  refine F.okq sc_read (fun vs H Q E h => ?_) (fun cdv A outer s H vs Q E hr h => ?_)
  · obtain ⟨wd, hg, kvs, rfl, _⟩ := h
    rfl
  · obtain ⟨wd, hg, kvs, rfl, sz, tb, k⟩ := h
    obtain ⟨w1, w2, h1, h2, wh⟩ := id sz
    refine ⟨_, qss_cons (ps_set (i := 1) sc_read.nd rfl (Or.inr rfl) (pe_bm PySem.F.plainAttrs_str PySem.F.slot_str_split PySem.F.type_str_split mt_split (pv 0) (pa pe_str pa_nil)))
      (qss_cons (ps_set (i := 2) sc_read.nd rfl (Or.inl rfl) (pe_op op_fdiv (pe_op op_add (pe_cb call_len (by rfl) T.len PySem.boot_len (pa (pe_ix ix_list (pv 1) pe_int (fun _ _ => rfl)) pa_nil)) pe_int) pe_int))
      (qss_cons (ps_set (i := 3) sc_read.nd rfl (Or.inl rfl) (pe_op op_fdiv (pe_op op_add (pe_cb call_len (by rfl) T.len PySem.boot_len (pa (pv 1) pa_nil)) pe_int) pe_int))
      (qss_cons (ps_ifq (PW.pt (pw_or (pt_not (pt_val (pe_def DZ hr (pa (pv 2) (pa (pv 3) pa_nil)))))
        (pw_or1 (pt_cmpR op_ne (pe_def DU hr (pa (pv 0) pa_nil)) (pe_def DH hr (pa (pe_mk MB hr (pa (pv 2) (pa (pv 3) pa_nil))) pa_nil)) (nomark _))))) qss_never qss_nil)
      (qss_cons (ps_setComp (i := 4) (x := "door") (fvs := [("rows", 1)]) sc_read.nd rfl (Or.inl rfl) rfl rfl rfl (by decide +kernel) (by decide +kernel) rfl ⟨rfl, trivial⟩ rfl ⟨⟨rfl, rfl, rfl⟩, trivial⟩ (by decide +kernel)
          (pi_list (pe_mth0 (pe_mk MB hr (pa (pv 2) (pa (pv 3) pa_nil))) T.cl MD hr))
          (fun C' s' H' fp => pe_tup (pa (pv 0) (pa (pe_ix ix_str (pe_ix (ix_listC (K := K) rfl) (pv 1) (pe_def DR hr (pa (pv 0) pa_nil)) (fun _ _ => rfl)) (pe_def DP hr (pa (pv 0) pa_nil)) (fun _ _ => rfl)) pa_nil))))
      (qss_one (ps_ret (pe_def DW hr (pa (pv 2) (pa (pv 3) (pa (pv 4) pa_nil)))))))))), ?_⟩
    refine ⟨_, rfl, rfl, _, _, rfl, rfl, by decide, text_len (draw_sum kvs sz), fun lr nlr => ?_⟩
    rw [draw_split sz tb]
    have s1 : Same H (upd H lr (.lst ((drawS wd hg kvs).map V.str))) := Same.new (Same.refl _) nlr
    have hR1 : (upd H lr (.lst ((drawS wd hg kvs).map V.str))) lr = some (.lst ((drawS wd hg kvs).map V.str)) := upd_same
    generalize upd H lr (.lst ((drawS wd hg kvs).map V.str)) = H1 at s1 hR1
    have row0 : ((drawS wd hg kvs).map V.str)[0]? = some (.str ⟨((List.range (2 * wd - 1)).map (chN kvs 0)).toArray⟩) := by
      rw [List.getElem?_map, drawS_at kvs (by omega)]
      rfl
    refine ⟨_, rfl, lr, _, _, _, rfl, rfl, SqL.of hR1, atI_nat row0, _, _, rfl, ⟨?_, rfl⟩, _, _, rfl, rfl, _, _, rfl, rfl, ⟨by decide, by decide⟩, ?_⟩
    · rw [drawS_rowlen, sizeLine_eq]
      omega
    rw [drawS_rowlen]
    refine ⟨_, rfl, _, _, rfl, .inl ⟨_, SqL.of hR1, rfl⟩, _, _, rfl, rfl, _, _, rfl, rfl, ⟨by decide, by decide⟩, ?_⟩
    dsimp only
    rw [List.length_map, drawS_len, show (((2 * wd - 1 : Nat) : Int) + 1) / 2 = (wd : Int) by omega, show (((2 * hg - 1 : Nat) : Int) + 1) / 2 = (hg : Int) by omega]
    refine ⟨_, rfl, _, rfl, _, _, rfl, _, rfl, ?_⟩
    rw [sizeB_ok sz]
    refine iteF ?_
    refine ⟨_, rfl, _, rfl, text_len (draw_sum kvs sz), ?_⟩
    refine ⟨_, rfl, _, rfl, fun p dx n1 n2 n3 => ?_⟩
    refine ⟨p, dx, wd, hg, rfl, sz, upd_same, fun d' H2 nd' c1 c2 c3 => ⟨rfl, ?_⟩⟩
    have sm : Same H1 H2 := fun b o e => c3 b o (by rw [upd_ne (ne_of_none e n1), upd_ne (ne_of_none e n2)]; exact e) (ne_of_none e n1)
    have B0 : BoardAt C H2 p wd hg (bare wd hg) := ⟨⟨dx, d', c1, c2⟩, sz, bare_tab wd hg⟩
    refine ⟨p, wd, hg, _, rfl, B0, fun H3 s3 => ?_⟩
    refine ⟨rfl, _, rfl, ?_⟩
    refine iteNS (congrArg V.str (draw_unM tb)) ?_
    have s03 : Same H1 H3 := sm.trans s3
    refine ⟨_, rfl, _, rfl, fun p2 dx2 m1 m2 m3 => ?_⟩
    refine ⟨p2, dx2, wd, hg, rfl, sz, upd_same, fun d2 H4 nd2 g1 g2 g3 => ⟨rfl, ?_⟩⟩
    have sm4 : Same H3 H4 := fun b o e => g3 b o (by rw [upd_ne (ne_of_none e m1), upd_ne (ne_of_none e m2)]; exact e) (ne_of_none e m1)
    have B4 : BoardAt C H4 p2 wd hg (bare wd hg) := ⟨⟨dx2, d2, g1, g2⟩, sz, bare_tab wd hg⟩
    refine ⟨p2, dx2, _, rfl, g1, board_no (by simp), p2, wd, hg, _, rfl, B4, fun ld ys H5 nl hL5 tl s5 => ?_⟩
    have s15 : Same H1 H5 := (s03.trans sm4).trans s5
    have s05 : Same H H5 := s1.trans s15
    have hlen : ys.length ≤ 72 := by rw [tl.length]; exact doors_len sz
    refine ⟨ld, rfl, ⟨_, SqL.of hL5⟩, fun D hD => ?_⟩
    refine comp_list (K := K) (a := ld) (xs := ys) (fun i zs H6 => H6 D = some (.lst zs) ∧ PL H6 zs ((movedPs id id wd hg kvs).take i) ∧ Same H5 H6) (by omega)
      ⟨upd_same, .nil, Same.new (Same.refl _) hD⟩ (fun i zs H6 hi ⟨c1, c2, c3⟩ => ⟨SqL.of (c3 _ _ hL5), c1, ?_⟩) ?_ ?_
    · have e1 := c2.length
      unfold movedPs at e1
      rw [List.length_take, List.length_map, ← tl.length] at e1
      omega
    · rintro i x zs H6 R hi ⟨c1, c2, c3⟩ hR
      obtain ⟨kd, ek, ta, rfl, hta⟩ := tl.at hi
      have hm : kd ∈ doors wd hg := List.mem_of_getElem? ek
      have ht : H6 ta = some (.tup (kd.map kV)) := c3 _ _ hta
      have erow : ((drawS wd hg kvs).map V.str)[dRow kd]? = some (.str ⟨((List.range (2 * wd - 1)).map (chN kvs (dRow kd))).toArray⟩) := by
        rw [List.getElem?_map, drawS_at kvs (dRow_lt hm)]
        rfl
      have ecol : (⟨((List.range (2 * wd - 1)).map (chN kvs (dRow kd))).toArray⟩ : Str).cps.toList[dCol kd]? = some (sgN (sgAt kvs kd)) := by
        rw [← ch_on hm]
        show ((List.range (2 * wd - 1)).map (chN kvs (dRow kd))).toArray.toList[dCol kd]? = _
        rw [List.toList_toArray, List.getElem?_map, List.getElem?_range (dCol_lt hm)]
        rfl
      refine ⟨_, rfl, _, rfl, _, rfl, ta, kd, wd, hg, rfl, ht, hm, lr, _, _, _, rfl, rfl, SqL.of (c3 _ _ (s15 _ _ hR1)), atI_nat erow, ?_⟩
      refine ⟨_, rfl, ta, kd, wd, hg, rfl, ht, hm, _, _, _, rfl, rfl, ?_, atI_nat ecol, ?_⟩
      · rw [drawS_rowlen, sizeLine_eq]
        omega
      rw [sgN_eq (tb.sg hm).2]
      refine ⟨(by show 2 ≤ sizeLine; decide), fun q nq => ?_⟩
      have hDq : D ≠ q := ne_of_none c1 nq
      have hD4 : (upd H6 q (.tup [.ref ta, .str (sgAt kvs kd)])) D = some (.lst zs) := by rw [upd_ne hDq]; exact c1
      refine hR _ _ hD4 ⟨upd_same, ?_, ?_⟩
      · have e6 : (movedPs id id wd hg kvs).take (i + 1) = (movedPs id id wd hg kvs).take i ++ [(kd, sgAt kvs kd)] := by
          rw [List.take_add_one]
          unfold movedPs
          rw [List.getElem?_map, ek]
          rfl
        rw [e6]
        refine ((c2.keep (Tk.new (Tk.refl _) nq)).keep (Tk.lst (Tk.refl _) hD4)).snoc ⟨q, ta, rfl, ?_, ?_⟩
        · rw [upd_ne hDq.symm, upd_same]
        · rw [upd_ne (ne_of ht c1 (fun z => nomatch z)), upd_ne (ne_of_none ht nq)]
          exact ht
      · intro b o e
        rw [upd_ne (fun z => by subst z; rw [hD] at e; cases e), upd_ne (ne_of_none (c3 b o e) nq)]
        exact c3 b o e
    · rintro zs H6 ⟨c1, c2, c3⟩
      have e1 : (movedPs id id wd hg kvs).take ys.length = movedPs id id wd hg kvs := List.take_of_length_le (by unfold movedPs; rw [List.length_map, tl.length]; exact Nat.le_refl _)
      rw [e1] at c2
      refine ⟨_, rfl, _, rfl, _, rfl, D, zs, _, wd, hg, rfl, sz, c1, c2, ?_, fun p' H7 np s7 B7 => ?_⟩
      · rintro pr hpr
        obtain ⟨kd, hm, rfl⟩ := List.mem_map.mp hpr
        exact ⟨hm, (tb.sg hm).2⟩
      · exact k p' _ H7 ((s05.trans c3).free np) (s05.trans (c3.trans s7)) B7 (moved_of (m := id) (g := id) fun a ha b hb e => e)
def gW (t : Str) : Nat := (((Txt.split t "\n").headD "").length + 1) / 2
def gH (t : Str) : Nat := ((Txt.split t "\n").length + 1) / 2
def goodT (t : Str) : Prop := okSize (gW t) (gH t) ∧ unM t = Txt.join "\n" (drawS (gW t) (gH t) (bare (gW t) (gH t)))
theorem mapc_nl {k : Nat} (h : mapc k = 10) : k = 10 := by
  unfold mapc sub1 at h
  split at h
  · split at h <;> omega
  · split at h <;> omega
theorem good_rows {B : List Str} (hne : B ≠ []) (hnl : ∀ p ∈ B, 10 ∉ p.cps.toList) (g : goodT (Txt.join "\n" B)) :
    ∃ w h, okSize w h ∧ B.length = 2 * h - 1 ∧ (∀ r ∈ B, r.length = 2 * w - 1) ∧ ∀ (d : Nat) (r : Str) (a c : Nat), B[d]? = some r → r.cps.toList[a]? = some c → mapc c = bareN d a := by
  obtain ⟨sz, e⟩ := g
  generalize gW (Txt.join "\n" B) = w at sz e
  generalize gH (Txt.join "\n" B) = h at sz e
  have e2 := congrArg (fun z : Str => z.cps.toList) e
  rw [unM_toList, lit_nl, join_toList, join_toList, join_map 10 mapc (by decide +kernel)] at e2
  have hn2 : drawS w h (bare w h) ≠ [] := fun z => by
    have := drawS_len w h (bare w h)
    rw [z] at this
    obtain ⟨_, _, h1, _⟩ := sz
    simp at this
    omega
  have e3 := join_inj 10 _ _ (by simpa using hne) hn2 (fun p hp hm => by
    obtain ⟨q, hq, rfl⟩ := List.mem_map.mp hp
    have hm' : 10 ∈ q.cps.toList.map mapc := by simpa using hm
    obtain ⟨k, hk, ek⟩ := List.mem_map.mp hm'
    exact hnl q hq (mapc_nl ek ▸ hk)) (draw_nl (bare_tab w h)) e2
  have row : ∀ (d : Nat) (r : Str), B[d]? = some r → d < 2 * h - 1 ∧ r.cps.toList.map mapc = (List.range (2 * w - 1)).map (chN (bare w h) d) := fun d r er => by
    have e4 : (drawS w h (bare w h))[d]? = some ⟨(r.cps.toList.map mapc).toArray⟩ := by rw [← e3, List.getElem?_map, er]; rfl
    have hd : d < 2 * h - 1 := by have := (List.getElem?_eq_some_iff.mp e4).1; rw [drawS_len] at this; exact this
    rw [drawS_at _ hd] at e4
    injection e4 with e4
    have e5 := congrArg (fun z : Str => z.cps.toList) e4
    simp only [List.toList_toArray] at e5
    exact ⟨hd, e5.symm⟩
  refine ⟨w, h, sz, ?_, fun r hr => ?_, fun d r a c er ec => ?_⟩
  · have := congrArg List.length e3
    rw [List.length_map, drawS_len] at this
    exact this
  · obtain ⟨d, hd⟩ := List.getElem?_of_mem hr
    have := congrArg List.length (row d r hd).2
    rw [List.length_map, List.length_map, List.length_range, Array.length_toList] at this
    exact this
  · obtain ⟨hd, er'⟩ := row d r er
    have e6 : (r.cps.toList.map mapc)[a]? = some (mapc c) := by rw [List.getElem?_map, ec]; rfl
    rw [er', List.getElem?_map] at e6
    have ha : a < 2 * w - 1 := by
      by_cases z : a < 2 * w - 1
      · exact z
      · rw [List.getElem?_eq_none (by rw [List.length_range]; omega)] at e6
        cases e6
    rw [List.getElem?_range ha] at e6
    have e7 : chN (bare w h) d a = mapc c := Option.some.inj e6
    rw [← e7, ch_bare hd ha]
theorem lit_empty : ("" : Str) = ⟨#[]⟩ := by decide +kernel
theorem bad_nil : ¬ goodT (Txt.join "\n" []) := fun ⟨sz, _⟩ => by
  have e : Txt.split (Txt.join "\n" []) "\n" = [("" : Str)] := by
    rw [lit_nl, lit_empty]
    exact split_join 10 [⟨#[]⟩] (by simp) (fun p hp => by rw [List.mem_singleton.mp hp]; simp)
  unfold gW at sz
  rw [e] at sz
  obtain ⟨h1, _⟩ := sz
  revert h1
  decide +kernel
theorem bad_even {B : List Str} (hnl : ∀ p ∈ B, 10 ∉ p.cps.toList) (he : B.length % 2 = 0) : ¬ goodT (Txt.join "\n" B) := fun g => by
  by_cases hne : B = []
  · subst hne
    exact bad_nil g
  · obtain ⟨w, h, ⟨_, _, h1, _⟩, hl, _⟩ := good_rows hne hnl g
    omega
theorem bad_row {B : List Str} (hnl : ∀ p ∈ B, 10 ∉ p.cps.toList) {r : Str} (hr : r ∈ B) (he : r.length % 2 = 0) : ¬ goodT (Txt.join "\n" B) := fun g => by
  obtain ⟨w, h, ⟨h1, _⟩, _, hl, _⟩ := good_rows (List.ne_nil_of_mem hr) hnl g
  have := hl r hr
  omega
theorem bad_sign {B : List Str} (hnl : ∀ p ∈ B, 10 ∉ p.cps.toList) {d a c : Nat} {r : Str} (er : B[d]? = some r) (ec : r.cps.toList[a]? = some c) (hc : mapc c ≠ bareN d a) : ¬ goodT (Txt.join "\n" B) := fun g => by
  obtain ⟨w, h, _, _, _, hs⟩ := good_rows (List.ne_nil_of_mem (List.mem_of_getElem? er)) hnl g
  exact hc (hs d r a c er ec)
theorem bad_size {B : List Str} (hnl : ∀ p ∈ B, 10 ∉ p.cps.toList) {w h : Nat} {r : Str} (hr : r ∈ B) (e1 : r.length = 2 * w - 1) (e2 : B.length = 2 * h - 1) (hw : 1 ≤ w) (hh : 1 ≤ h) (ns : ¬ okSize w h) : ¬ goodT (Txt.join "\n" B) := fun g => by
  obtain ⟨w', h', sz, hl, hr', _⟩ := good_rows (List.ne_nil_of_mem hr) hnl g
  have := hr' r hr
  obtain ⟨a1, a2, a3, a4, a5⟩ := id sz
  have ew : w' = w := by omega
  have eh : h' = h := by omega
  subst ew eh
  exact ns sz
structure Dr (w h : Nat) (R : List Str) : Prop where
  len : R.length = 2 * h - 1
  rl : ∀ r ∈ R, r.length = 2 * w - 1
  nl : ∀ r ∈ R, 10 ∉ r.cps.toList
  ch : ∀ (d : Nat) (r : Str) (a c : Nat), R[d]? = some r → r.cps.toList[a]? = some c → mapc c = bareN d a
theorem dr_draw {w h : Nat} {kvs : List (List Key × V)} (tb : Tab w h kvs) : Dr w h (drawS w h kvs) where
  len := drawS_len w h kvs
  rl := fun r hr => by
    obtain ⟨d, _, e⟩ := drawS_row hr
    show r.cps.size = _
    rw [← Array.length_toList, e, List.length_map, List.length_range]
  nl := draw_nl tb
  ch := fun d r a c er ec => by
    have hd : d < 2 * h - 1 := by have := (List.getElem?_eq_some_iff.mp er).1; rw [drawS_len] at this; exact this
    rw [drawS_at kvs hd] at er
    cases er
    have ec' : ((List.range (2 * w - 1)).map (chN kvs d))[a]? = some c := by simpa using ec
    rw [List.getElem?_map] at ec'
    have ha : a < 2 * w - 1 := by
      by_cases z : a < 2 * w - 1
      · exact z
      · rw [List.getElem?_eq_none (by rw [List.length_range]; omega)] at ec'
        cases ec'
    rw [List.getElem?_range ha] at ec'
    have e7 : chN kvs d a = c := Option.some.inj ec'
    rw [← e7]
    exact ch_map tb hd ha
def putS (r : Str) (a c : Nat) : Str := ⟨(r.cps.toList.set a c).toArray⟩
theorem mem_set' {α : Type} {l : List α} {i : Nat} {x y : α} (h : y ∈ l.set i x) : y ∈ l ∨ y = x := List.mem_or_eq_of_mem_set h
theorem put_bad {w h : Nat} {R : List Str} (D : Dr w h R) {d a c : Nat} {r : Str} (er : R[d]? = some r) (ha : a < 2 * w - 1) (hc : c ≠ 10) (hm : mapc c ≠ bareN d a) : ¬ goodT (Txt.join "\n" (R.set d (putS r a c))) := by
  have hl : d < R.length := (List.getElem?_eq_some_iff.mp er).1
  have lr := D.rl r (List.mem_of_getElem? er)
  refine bad_sign (fun p hp hm => ?_) (d := d) (a := a) (c := c) (r := putS r a c) (by rw [List.getElem?_set_self hl]) ?_ hm
  · rcases mem_set' hp with hp | rfl
    · exact D.nl p hp hm
    · have hm' : 10 ∈ r.cps.toList.set a c := by simpa [putS] using hm
      rcases mem_set' hm' with hm' | hm'
      · exact D.nl r (List.mem_of_getElem? er) hm'
      · exact hc hm'.symm
  · show ((r.cps.toList.set a c).toArray.toList)[a]? = some c
    rw [List.toList_toArray, List.getElem?_set_self]
    rw [Array.length_toList]
    show a < r.length
    omega
def bound (B : List Str) : Prop := (B.map (·.length)).sum + B.length ≤ 1048576
theorem iteNT {A B : Prop} {x y : V} (e : ¬ x = y) (h : A) : if (!decide (x = y)) = true then A else B := by rw [decide_eq_false e]; exact h
theorem sizeB_no {w h : Nat} (s : ¬ okSize w h) : sizeB w h = false := by
  refine decide_eq_false fun ⟨a, b, c, d, e⟩ => s ⟨by omega, by omega, by omega, by omega, ?_⟩
  have : ((w * h : Nat) : Int) ≤ 36 := by rw [Int.natCast_mul]; exact e
  omega
theorem part_len (c : Nat) : ∀ (R : List Str) (p : Str), p ∈ R → p.cps.size ≤ (Str.join ⟨#[c]⟩ R).cps.toList.length
  | [], _, h => by cases h
  | [q], p, h => by
    rw [List.mem_singleton.mp h]
    show _ ≤ q.cps.toList.length
    rw [Array.length_toList]
    exact Nat.le_refl _
  | q :: q' :: r, p, h => by
    rw [join_cons2, List.length_append, List.length_append, Array.length_toList]
    rcases List.mem_cons.mp h with rfl | h
    · omega
    · have := part_len c (q' :: r) p h
      omega
theorem split_part {t p : Str} (hp : p ∈ Txt.split t "\n") : p.length ≤ t.length := by
  rw [lit_nl] at hp
  have h1 := part_len 10 _ p hp
  rw [StrLaws.join_split, Array.length_toList] at h1
  exact h1
def spUnread (CW : Addr) : Sp := fun vs H _ E => ∃ t : Str, vs = [.str t] ∧ t.length ≤ 1048576 ∧ ¬ goodT t ∧ ∀ H', Same H H' → E (.ref CW) none H'
theorem ok_read1 {f CW : Addr} {fd : FuncData} (F : Fun K "read" "read" s_read f fd) (T : Txt K mg C) (Z : ExcNm K mg "NoDrawing" CW) (DZ : DefAt P w K mg base 1 "is_size" ["wide", "high"] spSize) (DU : DefAt P w K mg base 1 "without_mirrors" ["text"] spUnM) (DH : DefAt P w K mg base 3 "shown" ["board"] (spShown C))
    (MB : ClassAt P w K mg base 2 C "Board" ["self", "wide", "high"] (spInit C)) : FnOk P w K mg base (CX1 P w) 6 f fd ["text"] (spUnread CW) := by
  obtain ⟨bmB, Bn, newId, initId, q, FB⟩ := Z.ex
  refine F.ok1 sc_read (fun vs H Q E h => ?_) (fun cdv A outer s H vs Q E hr h => ?_)
  · obtain ⟨t, rfl, _⟩ := h
    rfl
  · obtain ⟨t, rfl, hl, nb, k⟩ := h
    refine ⟨_, qss_cons (ps_set (i := 1) sc_read.nd rfl (Or.inr rfl) (pe_bm PySem.F.plainAttrs_str PySem.F.slot_str_split PySem.F.type_str_split mt_split (pv 0) (pa pe_str pa_nil)))
      (qss_cons (ps_set (i := 2) sc_read.nd rfl (Or.inl rfl) (pe_op op_fdiv (pe_op op_add (pe_cb call_len (by rfl) T.len PySem.boot_len (pa (pe_ix ix_list (pv 1) pe_int (fun _ _ => rfl)) pa_nil)) pe_int) pe_int))
      (qss_cons (ps_set (i := 3) sc_read.nd rfl (Or.inl rfl) (pe_op op_fdiv (pe_op op_add (pe_cb call_len (by rfl) T.len PySem.boot_len (pa (pv 1) pa_nil)) pe_int) pe_int))
      (qss_cons (ps_ifq (PW.pt (pw_or (pt_not (pt_val (pe_def DZ hr (pa (pv 2) (pa (pv 3) pa_nil)))))
        (pw_or1 (pt_cmpR op_ne (pe_def DU hr (pa (pv 0) pa_nil)) (pe_def DH hr (pa (pe_mk MB hr (pa (pv 2) (pa (pv 3) pa_nil))) pa_nil)) (nomark _))))) (qss_one (ps_raise raises1 hr.hd (by rfl) Z.mg q FB (pa pe_str pa_nil))) qss_nil)
      qss_never))), ?_⟩
    refine ⟨_, rfl, rfl, _, _, rfl, rfl, by decide, hl, fun lr nlr => ?_⟩
    have s1 : Same H (upd H lr (.lst ((Txt.split t "\n").map V.str))) := Same.new (Same.refl _) nlr
    have hR1 : (upd H lr (.lst ((Txt.split t "\n").map V.str))) lr = some (.lst ((Txt.split t "\n").map V.str)) := upd_same
    generalize upd H lr (.lst ((Txt.split t "\n").map V.str)) = H1 at s1 hR1
    obtain ⟨r0, rs, er⟩ : ∃ r0 rs, Txt.split t "\n" = r0 :: rs := by
      cases e : Txt.split t "\n" with
      | nil => exact absurd e (split_ne _ _)
      | cons a b => exact ⟨a, b, rfl⟩
    have row0 : ((Txt.split t "\n").map V.str)[0]? = some (.str r0) := by rw [er]; rfl
    have hr0 : r0.length ≤ sizeLine := by
      have := split_part (t := t) (p := r0) (by rw [er]; exact List.mem_cons_self)
      rw [sizeLine_eq]
      omega
    refine ⟨_, rfl, lr, _, _, _, rfl, rfl, SqL.of hR1, atI_nat row0, _, _, rfl, ⟨hr0, rfl⟩, _, _, rfl, rfl, _, _, rfl, rfl, ⟨by decide, by decide⟩, ?_⟩
    refine ⟨_, rfl, _, _, rfl, .inl ⟨_, SqL.of hR1, rfl⟩, _, _, rfl, rfl, _, _, rfl, rfl, ⟨by decide, by decide⟩, ?_⟩
    have ew : ((r0.length : Int) + 1) / 2 = ((gW t : Nat) : Int) := by
      unfold gW
      rw [er]
      show _ = (((r0.length + 1) / 2 : Nat) : Int)
      omega
    have eh : ((((Txt.split t "\n").map V.str).length : Int) + 1) / 2 = ((gH t : Nat) : Int) := by
      unfold gH
      rw [List.length_map]
      omega
    dsimp only
    rw [ew, eh]
    refine ⟨_, rfl, _, rfl, _, _, rfl, _, rfl, ?_⟩
    by_cases sz : okSize (gW t) (gH t)
    · rw [sizeB_ok sz]
      refine iteF ?_
      refine ⟨_, rfl, _, rfl, hl, ?_⟩
      refine ⟨_, rfl, _, rfl, fun p dx n1 n2 n3 => ?_⟩
      refine ⟨p, dx, gW t, gH t, rfl, sz, upd_same, fun d' H2 nd' c1 c2 c3 => ⟨rfl, ?_⟩⟩
      have sm : Same H1 H2 := fun b o e => c3 b o (by rw [upd_ne (ne_of_none e n1), upd_ne (ne_of_none e n2)]; exact e) (ne_of_none e n1)
      have B0 : BoardAt C H2 p (gW t) (gH t) (bare (gW t) (gH t)) := ⟨⟨dx, d', c1, c2⟩, sz, bare_tab _ _⟩
      refine ⟨p, gW t, gH t, _, rfl, B0, fun H3 s3 => ?_⟩
      refine ⟨rfl, _, rfl, ?_⟩
      refine iteNT (fun z => nb ⟨sz, V.str.inj z⟩) ?_
      exact ⟨(by show 1 ≤ sizeLine; decide), k H3 (s1.trans (sm.trans s3))⟩
    · rw [sizeB_no sz]
      exact iteT ⟨(by show 1 ≤ sizeLine; decide), k H1 s1⟩
def spCell (K : PySem.W.Frag) : Sp := fun vs H Q _ => ∃ (a : Addr) (ns : List Int) (n : Int), vs = [.ref a, .int n] ∧ 0 ≤ n ∧ n < 1000 ∧ SqL K H a (ns.map V.int) ∧ ∀ z : Int, Q (.int z) H
theorem sc_law_cell_at : FnScope ["script", "k"] ["script", "k"] (defScope s_law_cell_at) := ⟨rfl, rfl, rfl, by decide +kernel, rfl, by decide +kernel, by decide +kernel⟩
theorem ok_law_cell_at {f : Addr} {fd : FuncData} (F : Fun K "_law_cell_at" "_law_cell_at" s_law_cell_at f fd) (T : Txt K mg C) : FnOk P w K mg base CX0 1 f fd ["script", "k"] (spCell K) := by
  refine F.okq sc_law_cell_at (fun vs H Q E h => ?_) (fun cdv A outer s H vs Q E hr h => ?_)
  · obtain ⟨a, ns, n, rfl, _⟩ := h
    rfl
  · obtain ⟨a, ns, n, rfl, h0, h1, hS, k⟩ := h
    refine ⟨_, qss_cons (ps_ifq (pt_cmpR op_lt (pv 1) (pe_cb call_len_seq (by rfl) T.len PySem.boot_len (pa (pv 0) pa_nil)) (nomark _)) (qss_one (ps_ret (pe_ix ix_list (pv 0) (pv 1) (fun _ _ => rfl)))) qss_nil)
      (qss_one (ps_ret pe_int)), ?_⟩
    refine ⟨_, rfl, _, rfl, a, _, rfl, .inl hS, _, _, rfl, rfl, _, rfl, ?_⟩
    refine ite2 (fun c => ?_) (fun c => ?_)
    · have c := of_decide_eq_true c
      obtain ⟨m, rfl⟩ := Int.eq_ofNat_of_zero_le h0
      rw [List.length_map] at c
      have hm : m < ns.length := by omega
      refine ⟨_, rfl, _, rfl, a, _, _, V.int ns[m], rfl, rfl, hS, atI_nat ?_, k _⟩
      rw [List.getElem?_map, List.getElem?_eq_getElem hm]
      rfl
    · exact k _
theorem c64 {x : Int} (h1 : -1000000000000 < x) (h2 : x < 1000000000000) : -(2 ^ 64) < x ∧ x < 2 ^ 64 := by omega
def spMix : Sp := fun vs H Q _ => ∃ (c n : Int), vs = [.int c, .int n] ∧ 0 ≤ n ∧ n < 1000 ∧ ∀ z : Int, Q (.int z) H
theorem sc_law_mix : FnScope ["cell", "k", "seed"] ["cell", "k"] (defScope s_law_mix) := ⟨rfl, rfl, rfl, by decide +kernel, rfl, by decide +kernel, by decide +kernel⟩
theorem ok_law_mix {f : Addr} {fd : FuncData} (F : Fun K "_law_mix" "_law_mix" s_law_mix f fd) : FnOk P w K mg base CX0 1 f fd ["cell", "k"] spMix := by
  refine F.okq sc_law_mix (fun vs H Q E h => ?_) (fun cdv A outer s H vs Q E hr h => ?_)
  · obtain ⟨a, n, rfl, _⟩ := h
    rfl
  · obtain ⟨c, n, rfl, h0, h1, k⟩ := h
    refine ⟨_, qss_cons (ps_set (i := 2) sc_law_mix.nd rfl (Or.inl rfl) (pe_op op_mod (pe_op op_add (pv 0) (pe_op op_mul pe_int (pe_op op_add (pv 1) pe_int))) pe_int))
      (qss_cons (ps_set (i := 2) sc_law_mix.nd rfl (Or.inl rfl) (pe_op op_mod (pe_op op_add (pe_op op_add (pe_op op_mul (pv 2) (pv 2)) (pe_op op_mul pe_int (pv 1))) pe_int) pe_int))
      (qss_one (ps_ret (pe_op op_mod (pe_op op_mul (pv 2) (pv 2)) pe_int)))), ?_⟩
    refine ⟨_, rfl, _, rfl, _, _, rfl, rfl, _, _, rfl, rfl, .inl (c64 (by omega) (by omega)), _, _, rfl, rfl, _, _, rfl, rfl, (by show (0 : Int) < 2147483647; omega), ?_⟩
    have m1 : ∀ x : Int, -(2 ^ 64) < x % 2147483647 ∧ x % 2147483647 < 2 ^ 64 := fun x => by omega
    have m2 : ∀ x : Int, -(2 ^ 64) < x % 2147483629 ∧ x % 2147483629 < 2 ^ 64 := fun x => by omega
    refine ⟨_, rfl, _, rfl, _, _, rfl, rfl, .inl (m1 _), _, rfl, _, _, rfl, rfl, .inl (c64 (by omega) (by omega)), _, _, rfl, rfl, _, _, rfl, rfl, _, _, rfl, rfl, (by show (0 : Int) < 2147483629; omega), ?_⟩
    refine ⟨_, rfl, _, rfl, _, _, rfl, rfl, .inl (m2 _), _, _, rfl, rfl, (by show (0 : Int) < 2147483587; omega), k _⟩
def spLawSize : Sp := fun vs H Q _ => ∃ z : Int, vs = [.int z] ∧ ∀ (t : Addr) (w h : Nat) (H' : Hp), okSize w h → Same H H' → H' t = some (.tup [.int w, .int h]) → Q (.ref t) H'
theorem sc_law_size : FnScope ["cell", "way", "more", "pair"] ["cell"] (defScope s_law_size) := ⟨rfl, rfl, rfl, by decide +kernel, rfl, by decide +kernel, by decide +kernel⟩
theorem ok_law_size {f : Addr} {fd : FuncData} (F : Fun K "_law_size" "_law_size" s_law_size f fd) : FnOk P w K mg base CX0 1 f fd ["cell"] spLawSize := by
  refine F.okq sc_law_size (fun vs H Q E h => ?_) (fun cdv A outer s H vs Q E hr h => ?_)
  · obtain ⟨z, rfl, _⟩ := h
    rfl
  · obtain ⟨z, rfl, k⟩ := h
    refine ⟨_, qss_cons (ps_set (i := 1) sc_law_size.nd rfl (Or.inl rfl) (pe_op op_mod (pv 0) pe_int))
      (qss_cons (ps_set (i := 2) sc_law_size.nd rfl (Or.inl rfl) (pe_op op_fdiv (pv 0) pe_int))
      (qss_cons (ps_ifq (pt_cmpR op_eq (pv 1) pe_int (nomark _))
        (qss_cons (ps_set (i := 3) sc_law_size.nd rfl (Or.inl rfl) (pe_ix ix_list (pe_lst (pa (pe_tup (pa pe_int (pa pe_int pa_nil))) (pa (pe_tup (pa pe_int (pa pe_int pa_nil))) (pa (pe_tup (pa pe_int (pa pe_int pa_nil))) (pa (pe_tup (pa pe_int (pa pe_int pa_nil))) pa_nil))))) (pe_op op_mod (pv 2) pe_int) (fun _ _ => rfl)))
        (qss_one (ps_ret (pe_ifExp (pt_cmpR op_eq (pe_op op_mod (pe_op op_fdiv (pv 2) pe_int) pe_int) pe_int (nomark _)) (pv 3) (pe_tup (pa (pe_ix ix_tup (pv 3) pe_int (fun _ _ => rfl)) (pa (pe_ix ix_tup (pv 3) pe_int (fun _ _ => rfl)) pa_nil))))))) qss_nil)
      (qss_cons (ps_ifq (pt_cmpR op_eq (pv 1) pe_int (nomark _)) (qss_one (ps_ret (pe_tup (pa (pe_op op_add pe_int (pe_op op_mod (pv 2) pe_int)) (pa (pe_op op_add pe_int (pe_op op_mod (pe_op op_fdiv (pv 2) pe_int) pe_int)) pa_nil))))) qss_nil)
      (qss_cons (ps_ifq (pt_cmpR op_eq (pv 1) pe_int (nomark _)) (qss_one (ps_ret (pe_tup (pa (pe_op op_add pe_int (pe_op op_mod (pv 2) pe_int)) (pa (pe_op op_add pe_int (pe_op op_mod (pe_op op_fdiv (pv 2) pe_int) pe_int)) pa_nil))))) qss_nil)
      (qss_one (ps_ret (pe_tup (pa (pe_op op_add pe_int (pe_op op_mod (pv 2) pe_int)) (pa (pe_op op_add pe_int (pe_op op_mod (pe_op op_fdiv (pv 2) pe_int) pe_int)) pa_nil))))))))), ?_⟩
    refine ⟨_, rfl, _, _, rfl, rfl, (by show (0 : Int) < 8; decide), ?_⟩
    refine ⟨_, rfl, _, _, rfl, rfl, ⟨by decide, by decide⟩, ?_⟩
    have two : ∀ (a b : Int), 1 ≤ a → a ≤ 12 → 1 ≤ b → b ≤ 12 → a * b ≤ 36 → ∀ t H1, Same H H1 → H1 t = some (.tup [.int a, .int b]) → Q (.ref t) H1 := fun a b a1 a2 b1 b2 ab t H1 s1 ht => by
      obtain ⟨x, rfl⟩ := Int.eq_ofNat_of_zero_le (show 0 ≤ a by omega)
      obtain ⟨y, rfl⟩ := Int.eq_ofNat_of_zero_le (show 0 ≤ b by omega)
      refine k t x y H1 ⟨by omega, by omega, by omega, by omega, ?_⟩ s1 ht
      have : ((x * y : Nat) : Int) ≤ 36 := by rw [Int.natCast_mul]; exact ab
      omega
    have m12 : ∀ x : Int, 0 ≤ x % 12 ∧ x % 12 < 12 := fun x => by omega
    have m3 : ∀ x : Int, 0 ≤ x % 3 ∧ x % 3 < 3 := fun x => by omega
    have m6 : ∀ x : Int, 0 ≤ x % 6 ∧ x % 6 < 6 := fun x => by omega
    have mul_le : ∀ (a b c d : Int), 0 ≤ a → a ≤ c → 0 ≤ b → b ≤ d → a * b ≤ c * d := fun a b c d h1 h2 h3 h4 => Int.mul_le_mul h2 h4 h3 (by omega)
    refine ⟨_, rfl, rfl, _, rfl, ?_⟩
    refine ite2 (fun _ => ?_) (fun _ => ?_)
    ·
      refine ⟨(by show 2 ≤ sizeLine; decide), fun t1 n1 => ⟨(by show 2 ≤ sizeLine; decide), fun t2 n2 => ⟨(by show 2 ≤ sizeLine; decide), fun t3 n3 => ⟨(by show 2 ≤ sizeLine; decide), fun t4 n4 => ⟨(by show 4 ≤ sizeLine; decide), fun l nl => ?_⟩⟩⟩⟩⟩
      generalize hH1 : upd (upd (upd (upd (upd H t1 _) t2 _) t3 _) t4 _) l _ = H1
      have s1 : Same H H1 := by rw [← hH1]; exact Same.new (Same.new (Same.new (Same.new (Same.new (Same.refl H) n1) n2) n3) n4) nl
      have e1 : H1 t1 = some (.tup [.int 7, .int 4]) := by rw [← hH1]; exact (Same.new (Same.new (Same.new (Same.new (Same.refl _) n2) n3) n4) nl) t1 _ upd_same
      have e2 : H1 t2 = some (.tup [.int 8, .int 4]) := by rw [← hH1]; exact (Same.new (Same.new (Same.new (Same.refl _) n3) n4) nl) t2 _ upd_same
      have e3 : H1 t3 = some (.tup [.int 9, .int 4]) := by rw [← hH1]; exact (Same.new (Same.new (Same.refl _) n4) nl) t3 _ upd_same
      have e4 : H1 t4 = some (.tup [.int 7, .int 5]) := by rw [← hH1]; exact (Same.new (Same.refl _) nl) t4 _ upd_same
      have el : H1 l = some (.lst [.ref t1, .ref t2, .ref t3, .ref t4]) := by rw [← hH1]; exact upd_same
      have pick : ∃ (t : Addr) (a b : Int), atI [V.ref t1, V.ref t2, V.ref t3, V.ref t4] (z / 8 % 4) = some (.ref t) ∧ H1 t = some (.tup [.int a, .int b]) ∧ 1 ≤ a ∧ a ≤ 12 ∧ 1 ≤ b ∧ b ≤ 12 ∧ a * b ≤ 36 := by
        have h4 : z / 8 % 4 = 0 ∨ z / 8 % 4 = 1 ∨ z / 8 % 4 = 2 ∨ z / 8 % 4 = 3 := by omega
        rcases h4 with e | e | e | e <;> rw [e]
        · exact ⟨t1, 7, 4, rfl, e1, by decide, by decide, by decide, by decide, by decide⟩
        · exact ⟨t2, 8, 4, rfl, e2, by decide, by decide, by decide, by decide, by decide⟩
        · exact ⟨t3, 9, 4, rfl, e3, by decide, by decide, by decide, by decide, by decide⟩
        · exact ⟨t4, 7, 5, rfl, e4, by decide, by decide, by decide, by decide, by decide⟩
      obtain ⟨t, a, b, hp, ht, a1, a2, b1, b2, ab⟩ := pick
      refine ⟨_, rfl, _, _, rfl, rfl, (by show (0 : Int) < 4; decide), l, _, _, _, rfl, rfl, SqL.of el, hp, ?_⟩
      refine ⟨_, rfl, _, _, rfl, rfl, ⟨by decide, by decide⟩, _, _, rfl, rfl, (by show (0 : Int) < 2; decide), rfl, _, rfl, ?_⟩
      refine ite2 (fun _ => ?_) (fun _ => ?_)
      · exact ⟨_, rfl, two a b a1 a2 b1 b2 ab t H1 s1 ht⟩
      · refine ⟨_, rfl, t, _, _, _, rfl, rfl, SqT.of ht, rfl, _, rfl, t, _, _, _, rfl, rfl, SqT.of ht, rfl, (by show 2 ≤ sizeLine; decide), fun t' n' => ?_⟩
        exact two b a b1 b2 a1 a2 (by rw [Int.mul_comm]; exact ab) t' _ (Same.new s1 n') upd_same
    · refine ⟨_, rfl, rfl, _, rfl, ?_⟩
      refine ite2 (fun _ => ?_) (fun _ => ?_)
      · refine ⟨_, rfl, _, _, rfl, rfl, (by show (0 : Int) < 12; decide), _, _, rfl, rfl, _, rfl, _, _, rfl, rfl, ⟨by decide, by decide⟩, _, _, rfl, rfl, (by show (0 : Int) < 3; decide), _, _, rfl, rfl, (by show 2 ≤ sizeLine; decide), fun t n => ?_⟩
        have q1 := m12 (z / 8)
        have q2 := m3 (z / 8 / 12)
        exact two _ _ (by omega) (by omega) (by omega) (by omega) (mul_le _ _ 12 3 (by omega) (by omega) (by omega) (by omega)) t _ (Same.new (Same.refl H) n) upd_same
      · refine ⟨_, rfl, rfl, _, rfl, ?_⟩
        refine ite2 (fun _ => ?_) (fun _ => ?_)
        · refine ⟨_, rfl, _, _, rfl, rfl, (by show (0 : Int) < 3; decide), _, _, rfl, rfl, _, rfl, _, _, rfl, rfl, ⟨by decide, by decide⟩, _, _, rfl, rfl, (by show (0 : Int) < 12; decide), _, _, rfl, rfl, (by show 2 ≤ sizeLine; decide), fun t n => ?_⟩
          have q1 := m3 (z / 8)
          have q2 := m12 (z / 8 / 3)
          exact two _ _ (by omega) (by omega) (by omega) (by omega) (mul_le _ _ 3 12 (by omega) (by omega) (by omega) (by omega)) t _ (Same.new (Same.refl H) n) upd_same
        · refine ⟨_, rfl, _, _, rfl, rfl, (by show (0 : Int) < 6; decide), _, _, rfl, rfl, _, rfl, _, _, rfl, rfl, ⟨by decide, by decide⟩, _, _, rfl, rfl, (by show (0 : Int) < 6; decide), _, _, rfl, rfl, (by show 2 ≤ sizeLine; decide), fun t n => ?_⟩
          have q1 := m6 (z / 8)
          have q2 := m6 (z / 8 / 6)
          exact two _ _ (by omega) (by omega) (by omega) (by omega) (mul_le _ _ 6 6 (by omega) (by omega) (by omega) (by omega)) t _ (Same.new (Same.refl H) n) upd_same
theorem sc_law_doors : FnScope ["wide", "high", "found", "row", "column"] ["wide", "high"] (defScope s_law_doors) := ⟨rfl, rfl, rfl, by decide +kernel, rfl, by decide +kernel, by decide +kernel⟩
theorem ok_law_doors {f : Addr} {fd : FuncData} (F : Fun K "_law_doors" "_law_doors" s_law_doors f fd) (T : Txt K mg C) : FnOk P w K mg base CX0 1 f fd ["wide", "high"] spDoors := by
  refine F.okq sc_law_doors (fun vs H Q E h => ?_) (fun cdv A outer s H vs Q E hr h => ?_)
  · obtain ⟨a, b, rfl, _⟩ := h
    rfl
  · obtain ⟨wd, hg, rfl, sz, k⟩ := h
    refine ⟨_, qss_cons (ps_set (i := 2) sc_law_doors.nd rfl (Or.inl rfl) (pe_lst pa_nil))
      (qss_cons (ps_forq PassesOwn.never rfl (pi_range1 rfl T.range (pa (pv 1) pa_nil)) (pg_name (i := 3) sc_law_doors.nd rfl (Or.inl rfl))
        (qss_one (ps_forq PassesOwn.never rfl (pi_range1 rfl T.range (pa (pv 0) pa_nil)) (pg_name (i := 4) sc_law_doors.nd rfl (Or.inl rfl))
          (qss_cons (ps_ifq (pt_cmpR op_lt (pe_op op_add (pv 4) pe_int) (pv 0) (nomark _))
            (qss_one (ps_expr (pe_bm PySem.F.plainAttrs_list PySem.F.slot_list_append PySem.F.type_list_append mt_append (pv 2) (pa (pe_tup (pa pe_str (pa (pv 4) (pa (pv 3) pa_nil)))) pa_nil)))) qss_nil)
          (qss_one (ps_ifq (pt_cmpR op_lt (pe_op op_add (pv 3) pe_int) (pv 1) (nomark _))
            (qss_one (ps_expr (pe_bm PySem.F.plainAttrs_list PySem.F.slot_list_append PySem.F.type_list_append mt_append (pv 2) (pa (pe_tup (pa pe_str (pa (pv 4) (pa (pv 3) pa_nil)))) pa_nil)))) qss_nil))))))
      (qss_one (ps_ret (pv 2)))), ?_⟩
    have sz' := sz
    obtain ⟨w1, w2, h1, h2, wh⟩ := sz'
    refine ⟨Nat.zero_le _, fun l hl => ?_⟩
    refine ⟨_, rfl, (hg : Int), rfl, by omega, by omega, for_range (n := hg) (fun i σ H2 => ∃ (xs : List V) (v3 v4 : Option V), σ = [some (.int wd), some (.int hg), some (.ref l), v3, v4] ∧ i ≤ hg ∧ H2 l = some (.lst xs) ∧ TL H2 xs (doorsTo wd hg i) ∧ Same H H2)
      ⟨[], none, none, rfl, Nat.zero_le _, upd_same, .nil, Same.new (Same.refl H) hl⟩ ?_ ?_⟩
    · rintro i σ H2 hi ⟨xs, v3, v4, rfl, _, hL, tl, sm⟩
      refine ⟨_, rfl, (wd : Int), rfl, by omega, by omega, for_range (n := wd) (fun j σ H3 => ∃ (xs : List V) (v4 : Option V), σ = [some (.int wd), some (.int hg), some (.ref l), some (.int i), v4] ∧ j ≤ wd ∧ H3 l = some (.lst xs) ∧ TL H3 xs (doorsTo wd hg i ++ doorsRow wd hg i j) ∧ Same H H3)
        ⟨xs, v4, by rw [Int.zero_add]; rfl, Nat.zero_le _, hL, by simpa [doorsRow] using tl, sm⟩ ?_ ?_⟩
      · rintro j σ H3 hj ⟨xs, v4, rfl, _, hL, tl, sm⟩
        have hlen : xs.length + 2 < sizeLine := by
          have e1 := tl.length
          have e2 := doorsTo_len wd hg i
          have e3 := doorsRow_len wd hg i j
          have e4 : i * wd ≤ hg * wd := Nat.mul_le_mul_right _ (Nat.le_of_lt hi)
          have e5 : hg * wd = wd * hg := Nat.mul_comm _ _
          have e6 : (1000 : Nat) < sizeLine := small1000 (Nat.le_refl _)
          rw [List.length_append] at e1
          omega
        rw [Int.zero_add]
        have put : ∀ {H4 : Hp} {ys : List V} {ks : List (List Key)} {t : Addr} {kd : List Key}, H4 l = some (.lst ys) → TL H4 ys ks → Same H H4 → H4 t = none →
            (upd (upd H4 t (.tup (kd.map kV))) l (.lst (ys ++ [V.ref t]))) l = some (.lst (ys ++ [V.ref t])) ∧ TL (upd (upd H4 t (.tup (kd.map kV))) l (.lst (ys ++ [V.ref t]))) (ys ++ [V.ref t]) (ks ++ [kd]) ∧ Same H (upd (upd H4 t (.tup (kd.map kV))) l (.lst (ys ++ [V.ref t]))) := by
          intro H4 ys ks t kd h1 h2 h3 h4
          have hlt : l ≠ t := ne_of_none h1 h4
          have hl' : (upd H4 t (.tup (kd.map kV))) l = some (.lst ys) := by rw [upd_ne hlt]; exact h1
          refine ⟨upd_same, ?_, Same.own (Same.new h3 h4) hl⟩
          exact (h2.keep (Tk.lst (Tk.new (Tk.refl _) h4) hl')).snoc ⟨t, rfl, by rw [upd_ne hlt.symm]; exact upd_same⟩
        refine ⟨_, rfl, _, _, rfl, rfl, _, rfl, _, _, rfl, rfl, _, rfl, ?_⟩
        refine ite2 (fun c1 => ?_) (fun c1 => ?_)
        · have c1 := of_decide_eq_true c1
          refine ⟨_, rfl, .inl ⟨rfl, _, SqL.of hL⟩, _, rfl, _, rfl, (by show 3 ≤ sizeLine; decide), fun t ht => ?_⟩
          refine ⟨l, xs, _, rfl, rfl, (by rw [upd_ne (ne_of_none hL ht)]; exact hL), by omega, ?_⟩
          obtain ⟨p1, p2, p3⟩ := put (kd := rowD j i) hL tl sm ht
          refine ⟨_, rfl, _, _, rfl, rfl, _, rfl, _, _, rfl, rfl, _, rfl, ?_⟩
          refine ite2 (fun c2 => ?_) (fun c2 => ?_)
          · have c2 := of_decide_eq_true c2
            refine ⟨_, rfl, .inl ⟨rfl, _, SqL.of p1⟩, _, rfl, _, rfl, (by show 3 ≤ sizeLine; decide), fun t2 ht2 => ?_⟩
            refine ⟨l, _, _, rfl, rfl, (by rw [upd_ne (ne_of_none p1 ht2)]; exact p1), by rw [List.length_append, List.length_singleton]; omega, ?_⟩
            obtain ⟨q1, q2, q3⟩ := put (kd := colD j i) p1 p2 p3 ht2
            refine ⟨_, _, rfl, hj, q1, ?_, q3⟩
            rw [doorsRow_succ, show doorsAt wd hg i j = [rowD j i, colD j i] by unfold doorsAt; rw [if_pos (by omega), if_pos (by omega)]; rfl,
              show ∀ A B : List (List Key), A ++ (B ++ [rowD j i, colD j i]) = (A ++ B ++ [rowD j i]) ++ [colD j i] from fun A B => by simp]
            exact q2
          · have c2 := fun z => c2 (decide_eq_true z)
            refine ⟨_, _, rfl, hj, p1, ?_, p3⟩
            rw [doorsRow_succ, show doorsAt wd hg i j = [rowD j i] by unfold doorsAt; rw [if_pos (by omega), if_neg (fun z => c2 (by omega))]; rfl]
            rw [← List.append_assoc]
            exact p2
        · have c1 := fun z => c1 (decide_eq_true z)
          refine ⟨_, rfl, _, _, rfl, rfl, _, rfl, _, _, rfl, rfl, _, rfl, ?_⟩
          refine ite2 (fun c2 => ?_) (fun c2 => ?_)
          · have c2 := of_decide_eq_true c2
            refine ⟨_, rfl, .inl ⟨rfl, _, SqL.of hL⟩, _, rfl, _, rfl, (by show 3 ≤ sizeLine; decide), fun t2 ht2 => ?_⟩
            refine ⟨l, _, _, rfl, rfl, (by rw [upd_ne (ne_of_none hL ht2)]; exact hL), by omega, ?_⟩
            obtain ⟨q1, q2, q3⟩ := put (kd := colD j i) hL tl sm ht2
            refine ⟨_, _, rfl, hj, q1, ?_, q3⟩
            rw [doorsRow_succ, show doorsAt wd hg i j = [colD j i] by unfold doorsAt; rw [if_neg (fun z => c1 (by omega)), if_pos (by omega)]; rfl]
            rw [← List.append_assoc]
            exact q2
          · have c2 := fun z => c2 (decide_eq_true z)
            refine ⟨_, _, rfl, hj, hL, ?_, sm⟩
            rw [doorsRow_succ, show doorsAt wd hg i j = [] by unfold doorsAt; rw [if_neg (fun z => c1 (by omega)), if_neg (fun z => c2 (by omega))]; rfl]
            rw [List.append_nil]
            exact tl
      · rintro σ H3 ⟨xs, v4, rfl, _, hL, tl, sm⟩
        exact ⟨xs, _, _, rfl, hi, hL, by rw [doorsTo_succ]; exact tl, sm⟩
    · rintro σ H2 ⟨xs, v3, v4, rfl, _, hL, tl, sm⟩
      exact ⟨_, rfl, k l xs H2 hl hL tl sm⟩
theorem sign_of : ∀ (a b : Nat), a < 4 → b < 6 → ∃ (z : Str) (c : Nat), ([("......" : Str), ".|-.|-", "....|-", "|-|-|-"])[a]? = some z ∧ z.length = 6 ∧ z.cps.toList[b]? = some c ∧ (⟨#[c]⟩ : Str) ∈ signs3 := by
  have h : ∀ a < 4, ∀ b < 6, (match ([("......" : Str), ".|-.|-", "....|-", "|-|-|-"])[a]? with
      | some z => decide (z.length = 6) && (match z.cps.toList[b]? with | some c => decide ((⟨#[c]⟩ : Str) ∈ signs3) | none => false)
      | none => false) = true := by decide +kernel
  intro a b ha hb
  have := h a ha b hb
  split at this
  · rename_i z e
    rw [Bool.and_eq_true] at this
    obtain ⟨h1, h2⟩ := this
    split at h2
    · rename_i c e2
      exact ⟨z, c, e, of_decide_eq_true h1, e2, of_decide_eq_true h2⟩
    · cases h2
  · cases this
def spSigns (K : PySem.W.Frag) : Sp := fun vs H Q _ => ∃ (a : Addr) (ns : List Int) (w h : Nat), vs = [.ref a, .int w, .int h] ∧ SqL K H a (ns.map V.int) ∧ okSize w h ∧
  ∀ (d : Addr) (kvs : List (List Key × V)) (H' : Hp), H d = none → H' d = some (.dT kvs) → Tab w h kvs → Same H H' → Q (.ref d) H'
theorem sc_law_signs : FnScope ["script", "wide", "high", "signs", "way", "doors", "k", "drawn"] ["script", "wide", "high"] (defScope s_law_signs) := ⟨rfl, rfl, rfl, by decide +kernel, rfl, by decide +kernel, by decide +kernel⟩
theorem ok_law_signs {f : Addr} {fd : FuncData} (F : Fun K "_law_signs" "_law_signs" s_law_signs f fd) (T : Txt K mg C) (DC : DefAt P w K mg base 1 "_law_cell_at" ["script", "k"] (spCell K)) (DM : DefAt P w K mg base 1 "_law_mix" ["cell", "k"] spMix)
    (DD : DefAt P w K mg base 1 "_law_doors" ["wide", "high"] spDoors) : FnOk P w K mg base CX0 2 f fd ["script", "wide", "high"] (spSigns K) := by
  refine F.okq sc_law_signs (fun vs H Q E h => ?_) (fun cdv A outer s H vs Q E hr h => ?_)
  · obtain ⟨a, ns, wd, hg, rfl, _⟩ := h
    rfl
  · obtain ⟨a, ns, wd, hg, rfl, hS, sz, k⟩ := h
    have hu := hu_of hr
    refine ⟨_, qss_cons (ps_set (i := 3) sc_law_signs.nd rfl (Or.inl rfl) pe_dnewT)
      (qss_cons (ps_set (i := 4) sc_law_signs.nd rfl (Or.inl rfl) (pe_op op_mod (pe_def DC hr (pa (pv 0) (pa pe_int pa_nil))) pe_int))
      (qss_cons (ps_set (i := 5) sc_law_signs.nd rfl (Or.inl rfl) (pe_def DD hr (pa (pv 1) (pa (pv 2) pa_nil))))
      (qss_cons (ps_forq PassesOwn.never rfl (pi_range1 rfl T.range (pa (pe_cb call_len_seq (by rfl) T.len PySem.boot_len (pa (pv 5) pa_nil)) pa_nil)) (pg_name (i := 6) sc_law_signs.nd rfl (Or.inl rfl))
        (qss_cons (ps_set (i := 7) sc_law_signs.nd rfl (Or.inl rfl) (pe_op op_fdiv (pe_def DM hr (pa (pe_op op_add (pe_def DC hr (pa (pv 0) (pa (pe_op op_add pe_int (pe_op op_mod (pv 6) pe_int)) pa_nil))) (pe_op op_mul pe_int (pv 6))) (pa (pv 6) pa_nil))) pe_int))
        (qss_one (ps_dput hu (pv 3) (pe_ix ix_list (pv 5) (pv 6) (fun _ _ => rfl)) (pe_ix ix_str (pe_ix ix_list (pe_lst (pa pe_str (pa pe_str (pa pe_str (pa pe_str pa_nil))))) (pv 4) (fun _ _ => rfl)) (pe_op op_mod (pv 7) pe_int) (fun _ _ => rfl)) rfl))))
      (qss_one (ps_ret (pv 3)))))), ?_⟩
    intro d hd
    have s0 : Same H (upd H d (.dT [])) := Same.new (Same.refl H) hd
    refine ⟨_, rfl, a, ns, 1, rfl, by decide, by decide, s0.seq hS, fun z0 => ⟨_, _, rfl, rfl, (by show (0 : Int) < 4; decide), ?_⟩⟩
    have hw4 : 0 ≤ z0 % 4 ∧ z0 % 4 < 4 := by omega
    refine ⟨_, rfl, _, rfl, wd, hg, rfl, sz, fun l xs H1 nl hL tl sm => ?_⟩
    have hd1 := sm _ _ (upd_same (H := H) (a := d) (o := .dT []))
    have ndl : l ≠ d := fun e => by rw [e, upd_same] at nl; cases nl
    have nl0 : H l = none := by rw [upd_ne ndl] at nl; exact nl
    have sm0 : Same H H1 := s0.trans sm
    have hlen : xs.length ≤ 72 := by rw [tl.length]; exact doors_len sz
    refine ⟨_, rfl, l, _, rfl, .inl (SqL.of hL), (xs.length : Int), rfl, by omega, by omega, for_range (n := xs.length) (fun i σ H2 => ∃ (kvs : List (List Key × V)) (v6 v7 : Option V), σ = [some (.ref a), some (.int wd), some (.int hg), some (.ref d), some (.int (z0 % 4)), some (.ref l), v6, v7] ∧ i ≤ xs.length ∧
      H2 d = some (.dT kvs) ∧ kvs.map (·.1) = (doors wd hg).take i ∧ (∀ p ∈ kvs, ∃ x ∈ signs3, p.2 = .str x) ∧ (∀ b o, H1 b = some o → b ≠ d → H2 b = some o))
      ⟨[], none, none, rfl, Nat.zero_le _, hd1, rfl, (fun p hp => by cases hp), fun _ _ e _ => e⟩ ?_ ?_⟩
    · rintro i σ H2 hi ⟨kvs, v6, v7, rfl, _, c1, c2, c3, c4⟩
      rw [Int.zero_add]
      have sm2 : Same H H2 := fun b o e => c4 b o (sm0 b o e) (ne_of_none e hd)
      have hL2 : H2 l = some (.lst xs) := c4 l _ hL ndl
      have i12 : 0 ≤ (i : Int) % 12 ∧ (i : Int) % 12 < 12 := by omega
      refine ⟨_, rfl, _, rfl, _, _, rfl, rfl, (by show (0 : Int) < 12; decide), _, _, rfl, rfl, a, ns, _, rfl, by omega, by omega, sm2.seq hS, fun z1 => ?_⟩
      refine ⟨_, rfl, _, _, rfl, rfl, .inl ⟨by decide, by decide⟩, _, _, rfl, rfl, _, rfl, _, _, rfl, by omega, by omega, fun z2 => ?_⟩
      refine ⟨_, _, rfl, rfl, ⟨by decide, by decide⟩, ?_⟩
      have hd6 : 0 ≤ z2 / 7 % 6 ∧ z2 / 7 % 6 < 6 := by omega
      refine ⟨(by show 4 ≤ sizeLine; decide), fun l2 n2 => ?_⟩
      obtain ⟨wn, ewn⟩ := Int.eq_ofNat_of_zero_le hw4.1
      obtain ⟨dn, edn⟩ := Int.eq_ofNat_of_zero_le hd6.1
      obtain ⟨z, c, ez, lz, ec, hc⟩ := sign_of wn dn (by omega) (by omega)
      have ez' : ∀ z, ([("......" : Str), ".|-.|-", "....|-", "|-|-|-"])[wn]? = some z → ([V.str "......", V.str ".|-.|-", V.str "....|-", V.str "|-|-|-"])[wn]? = some (V.str z) := fun z e => by
        have : ([("......" : Str), ".|-.|-", "....|-", "|-|-|-"].map V.str)[wn]? = some (V.str z) := by rw [List.getElem?_map, e]; rfl
        exact this
      refine ⟨_, rfl, l2, _, _, V.str z, rfl, rfl, SqL.of upd_same, (by rw [ewn]; refine atI_nat ?_; exact ez' z ez), ?_⟩
      refine ⟨_, rfl, _, _, rfl, rfl, (by show (0 : Int) < 6; decide), z, _, c, rfl, rfl, ?_, ?_, ?_⟩
      · rw [lz]; decide
      · rw [edn]; exact atI_nat ec
      obtain ⟨x, hx⟩ : ∃ x, xs[i]? = some x := ⟨xs[i], List.getElem?_eq_getElem hi⟩
      obtain ⟨kd, ek, ta, rfl, hta⟩ := tl.at hx
      have nl2 : H2 l2 = none := n2
      have hL3 : (upd H2 l2 (.lst [.str "......", .str ".|-.|-", .str "....|-", .str "|-|-|-"])) l = some (.lst xs) := by rw [upd_ne (ne_of_none hL2 nl2)]; exact hL2
      have hta2 : H2 ta = some (.tup (kd.map kV)) := c4 ta _ hta (ne_of hta hd1 (fun z => nomatch z))
      have hta3 : (upd H2 l2 (.lst [.str "......", .str ".|-.|-", .str "....|-", .str "|-|-|-"])) ta = some (.tup (kd.map kV)) := by rw [upd_ne (ne_of_none hta2 nl2)]; exact hta2
      have hd3 : (upd H2 l2 (.lst [.str "......", .str ".|-.|-", .str "....|-", .str "|-|-|-"])) d = some (.dT kvs) := by rw [upd_ne (ne_of_none c1 nl2)]; exact c1
      have hkl : kvs.length ≤ 72 := by
        have e1 := congrArg List.length c2
        rw [List.length_map, List.length_take] at e1
        have := doors_len sz
        omega
      have hkn : ¬ kd ∈ kvs.map (·.1) := by
        rw [c2]
        intro m
        obtain ⟨hi', ek'⟩ := List.getElem?_eq_some_iff.mp ek
        obtain ⟨j, hj, ej⟩ := List.mem_iff_getElem.mp m
        have hj' : j < i := by rw [List.length_take] at hj; omega
        rw [List.getElem_take] at ej
        have := (List.getElem_inj (nd_doors wd hg)).mp (ej.trans ek'.symm)
        omega
      refine ⟨_, rfl, _, rfl, _, rfl, l, _, _, _, rfl, rfl, SqL.of hL3, atI_nat hx, d, _, rfl, DPut.t hd3 hta3 (small1000 (by omega)), ?_⟩
      refine ⟨putK kvs kd (V.str ⟨#[c]⟩), _, _, rfl, hi, upd_same, ?_, ?_, fun b o e n => ?_⟩
      · rw [putK_new _ (valV_none hkn), List.map_append, c2, List.take_add_one, ek]
        rfl
      · intro p hp
        rw [putK_new _ (valV_none hkn)] at hp
        rcases List.mem_append.mp hp with hp | hp
        · exact c3 p hp
        · cases List.mem_singleton.mp hp
          exact ⟨_, hc, rfl⟩
      · rw [upd_ne n, upd_ne (ne_of_none (c4 b o e n) nl2)]
        exact c4 b o e n
    · rintro σ H2 ⟨kvs, v6, v7, rfl, _, c1, c2, c3, c4⟩
      refine ⟨_, rfl, k d kvs H2 hd c1 ⟨?_, c3⟩ fun b o e => c4 b o (sm0 b o e) (ne_of_none e hd)⟩
      rw [c2, tl.length, List.take_length]
def lgSize (w h : Nat) : Prop := 1 ≤ w ∧ w ≤ 40 ∧ 1 ≤ h ∧ h ≤ 40 ∧ w * h ≤ 60
def spDoorsG : Sp := fun vs H Q _ => ∃ (w h : Nat), vs = [.int w, .int h] ∧ lgSize w h ∧ ∀ (l : Addr) (xs : List V) (H' : Hp), H l = none → H' l = some (.lst xs) → TL H' xs (doors w h) → Same H H' → Q (.ref l) H'
theorem sc_law_doorsG : FnScope ["wide", "high", "found", "row", "column"] ["wide", "high"] (defScope s_law_doors) := ⟨rfl, rfl, rfl, by decide +kernel, rfl, by decide +kernel, by decide +kernel⟩
theorem ok_law_doorsG {f : Addr} {fd : FuncData} (F : Fun K "_law_doors" "_law_doors" s_law_doors f fd) (T : Txt K mg C) : FnOk P w K mg base CX0 1 f fd ["wide", "high"] spDoorsG := by
  refine F.okq sc_law_doorsG (fun vs H Q E h => ?_) (fun cdv A outer s H vs Q E hr h => ?_)
  · obtain ⟨a, b, rfl, _⟩ := h
    rfl
  · obtain ⟨wd, hg, rfl, sz, k⟩ := h
    refine ⟨_, qss_cons (ps_set (i := 2) sc_law_doorsG.nd rfl (Or.inl rfl) (pe_lst pa_nil))
      (qss_cons (ps_forq PassesOwn.never rfl (pi_range1 rfl T.range (pa (pv 1) pa_nil)) (pg_name (i := 3) sc_law_doorsG.nd rfl (Or.inl rfl))
        (qss_one (ps_forq PassesOwn.never rfl (pi_range1 rfl T.range (pa (pv 0) pa_nil)) (pg_name (i := 4) sc_law_doorsG.nd rfl (Or.inl rfl))
          (qss_cons (ps_ifq (pt_cmpR op_lt (pe_op op_add (pv 4) pe_int) (pv 0) (nomark _))
            (qss_one (ps_expr (pe_bm PySem.F.plainAttrs_list PySem.F.slot_list_append PySem.F.type_list_append mt_append (pv 2) (pa (pe_tup (pa pe_str (pa (pv 4) (pa (pv 3) pa_nil)))) pa_nil)))) qss_nil)
          (qss_one (ps_ifq (pt_cmpR op_lt (pe_op op_add (pv 3) pe_int) (pv 1) (nomark _))
            (qss_one (ps_expr (pe_bm PySem.F.plainAttrs_list PySem.F.slot_list_append PySem.F.type_list_append mt_append (pv 2) (pa (pe_tup (pa pe_str (pa (pv 4) (pa (pv 3) pa_nil)))) pa_nil)))) qss_nil))))))
      (qss_one (ps_ret (pv 2)))), ?_⟩
    have sz' := sz
    obtain ⟨w1, w2, h1, h2, wh⟩ := sz'
    refine ⟨Nat.zero_le _, fun l hl => ?_⟩
    refine ⟨_, rfl, (hg : Int), rfl, by omega, by omega, for_range (n := hg) (fun i σ H2 => ∃ (xs : List V) (v3 v4 : Option V), σ = [some (.int wd), some (.int hg), some (.ref l), v3, v4] ∧ i ≤ hg ∧ H2 l = some (.lst xs) ∧ TL H2 xs (doorsTo wd hg i) ∧ Same H H2)
      ⟨[], none, none, rfl, Nat.zero_le _, upd_same, .nil, Same.new (Same.refl H) hl⟩ ?_ ?_⟩
    · rintro i σ H2 hi ⟨xs, v3, v4, rfl, _, hL, tl, sm⟩
      refine ⟨_, rfl, (wd : Int), rfl, by omega, by omega, for_range (n := wd) (fun j σ H3 => ∃ (xs : List V) (v4 : Option V), σ = [some (.int wd), some (.int hg), some (.ref l), some (.int i), v4] ∧ j ≤ wd ∧ H3 l = some (.lst xs) ∧ TL H3 xs (doorsTo wd hg i ++ doorsRow wd hg i j) ∧ Same H H3)
        ⟨xs, v4, by rw [Int.zero_add]; rfl, Nat.zero_le _, hL, by simpa [doorsRow] using tl, sm⟩ ?_ ?_⟩
      · rintro j σ H3 hj ⟨xs, v4, rfl, _, hL, tl, sm⟩
        have hlen : xs.length + 2 < sizeLine := by
          have e1 := tl.length
          have e2 := doorsTo_len wd hg i
          have e3 := doorsRow_len wd hg i j
          have e4 : i * wd ≤ hg * wd := Nat.mul_le_mul_right _ (Nat.le_of_lt hi)
          have e5 : hg * wd = wd * hg := Nat.mul_comm _ _
          have e6 : (1000 : Nat) < sizeLine := small1000 (Nat.le_refl _)
          rw [List.length_append] at e1
          omega
        rw [Int.zero_add]
        have put : ∀ {H4 : Hp} {ys : List V} {ks : List (List Key)} {t : Addr} {kd : List Key}, H4 l = some (.lst ys) → TL H4 ys ks → Same H H4 → H4 t = none →
            (upd (upd H4 t (.tup (kd.map kV))) l (.lst (ys ++ [V.ref t]))) l = some (.lst (ys ++ [V.ref t])) ∧ TL (upd (upd H4 t (.tup (kd.map kV))) l (.lst (ys ++ [V.ref t]))) (ys ++ [V.ref t]) (ks ++ [kd]) ∧ Same H (upd (upd H4 t (.tup (kd.map kV))) l (.lst (ys ++ [V.ref t]))) := by
          intro H4 ys ks t kd h1 h2 h3 h4
          have hlt : l ≠ t := ne_of_none h1 h4
          have hl' : (upd H4 t (.tup (kd.map kV))) l = some (.lst ys) := by rw [upd_ne hlt]; exact h1
          refine ⟨upd_same, ?_, Same.own (Same.new h3 h4) hl⟩
          exact (h2.keep (Tk.lst (Tk.new (Tk.refl _) h4) hl')).snoc ⟨t, rfl, by rw [upd_ne hlt.symm]; exact upd_same⟩
        refine ⟨_, rfl, _, _, rfl, rfl, _, rfl, _, _, rfl, rfl, _, rfl, ?_⟩
        refine ite2 (fun c1 => ?_) (fun c1 => ?_)
        · have c1 := of_decide_eq_true c1
          refine ⟨_, rfl, .inl ⟨rfl, _, SqL.of hL⟩, _, rfl, _, rfl, (by show 3 ≤ sizeLine; decide), fun t ht => ?_⟩
          refine ⟨l, xs, _, rfl, rfl, (by rw [upd_ne (ne_of_none hL ht)]; exact hL), by omega, ?_⟩
          obtain ⟨p1, p2, p3⟩ := put (kd := rowD j i) hL tl sm ht
          refine ⟨_, rfl, _, _, rfl, rfl, _, rfl, _, _, rfl, rfl, _, rfl, ?_⟩
          refine ite2 (fun c2 => ?_) (fun c2 => ?_)
          · have c2 := of_decide_eq_true c2
            refine ⟨_, rfl, .inl ⟨rfl, _, SqL.of p1⟩, _, rfl, _, rfl, (by show 3 ≤ sizeLine; decide), fun t2 ht2 => ?_⟩
            refine ⟨l, _, _, rfl, rfl, (by rw [upd_ne (ne_of_none p1 ht2)]; exact p1), by rw [List.length_append, List.length_singleton]; omega, ?_⟩
            obtain ⟨q1, q2, q3⟩ := put (kd := colD j i) p1 p2 p3 ht2
            refine ⟨_, _, rfl, hj, q1, ?_, q3⟩
            rw [doorsRow_succ, show doorsAt wd hg i j = [rowD j i, colD j i] by unfold doorsAt; rw [if_pos (by omega), if_pos (by omega)]; rfl,
              show ∀ A B : List (List Key), A ++ (B ++ [rowD j i, colD j i]) = (A ++ B ++ [rowD j i]) ++ [colD j i] from fun A B => by simp]
            exact q2
          · have c2 := fun z => c2 (decide_eq_true z)
            refine ⟨_, _, rfl, hj, p1, ?_, p3⟩
            rw [doorsRow_succ, show doorsAt wd hg i j = [rowD j i] by unfold doorsAt; rw [if_pos (by omega), if_neg (fun z => c2 (by omega))]; rfl]
            rw [← List.append_assoc]
            exact p2
        · have c1 := fun z => c1 (decide_eq_true z)
          refine ⟨_, rfl, _, _, rfl, rfl, _, rfl, _, _, rfl, rfl, _, rfl, ?_⟩
          refine ite2 (fun c2 => ?_) (fun c2 => ?_)
          · have c2 := of_decide_eq_true c2
            refine ⟨_, rfl, .inl ⟨rfl, _, SqL.of hL⟩, _, rfl, _, rfl, (by show 3 ≤ sizeLine; decide), fun t2 ht2 => ?_⟩
            refine ⟨l, _, _, rfl, rfl, (by rw [upd_ne (ne_of_none hL ht2)]; exact hL), by omega, ?_⟩
            obtain ⟨q1, q2, q3⟩ := put (kd := colD j i) hL tl sm ht2
            refine ⟨_, _, rfl, hj, q1, ?_, q3⟩
            rw [doorsRow_succ, show doorsAt wd hg i j = [colD j i] by unfold doorsAt; rw [if_neg (fun z => c1 (by omega)), if_pos (by omega)]; rfl]
            rw [← List.append_assoc]
            exact q2
          · have c2 := fun z => c2 (decide_eq_true z)
            refine ⟨_, _, rfl, hj, hL, ?_, sm⟩
            rw [doorsRow_succ, show doorsAt wd hg i j = [] by unfold doorsAt; rw [if_neg (fun z => c1 (by omega)), if_neg (fun z => c2 (by omega))]; rfl]
            rw [List.append_nil]
            exact tl
      · rintro σ H3 ⟨xs, v4, rfl, _, hL, tl, sm⟩
        exact ⟨xs, _, _, rfl, hi, hL, by rw [doorsTo_succ]; exact tl, sm⟩
    · rintro σ H2 ⟨xs, v3, v4, rfl, _, hL, tl, sm⟩
      exact ⟨_, rfl, k l xs H2 hl hL tl sm⟩
def spLawRows : Sp := fun vs H Q _ => ∃ (d : Addr) (w h : Nat) (kvs : List (List Key × V)), vs = [.int w, .int h, .ref d] ∧ H d = some (.dT kvs) ∧ Tab w h kvs ∧ okSize w h ∧ ∀ (l : Addr) (H' : Hp), H l = none → H' l = some (.lst ((drawS w h kvs).map V.str)) → Same H H' → Q (.ref l) H'
theorem sc_law_rows : FnScope ["wide", "high", "signs", "found", "down", "line", "along"] ["wide", "high", "signs"] (defScope s_law_rows) := ⟨rfl, rfl, rfl, by decide +kernel, rfl, by decide +kernel, by decide +kernel⟩
theorem str_snoc (l : List Nat) (x : Str) (c : Nat) (e : (⟨#[c]⟩ : Str) = x) : (⟨l.toArray⟩ : Str) ++ x = ⟨(l ++ [c]).toArray⟩ := by
  subst e
  show (⟨l.toArray ++ #[c]⟩ : Str) = _
  simp
theorem two_mod {x y : Int} {j n : Nat} (e : x = (j : Int)) (hy : y = (n : Int)) (hn : n < 2) : decide (V.int (x % 2) = V.int y) = decide (j % 2 = n) := by
  subst e hy
  by_cases h : j % 2 = n
  · rw [decide_eq_true h]
    exact decide_eq_true (congrArg V.int (by omega))
  · rw [decide_eq_false h]
    exact decide_eq_false fun z => h (by have := V.int.inj z; omega)
theorem ok_law_rows {f : Addr} {fd : FuncData} (F : Fun K "_law_rows" "_law_rows" s_law_rows f fd) (T : Txt K mg C) : FnOk P w K mg base CX0 1 f fd ["wide", "high", "signs"] spLawRows := by
  refine F.okq sc_law_rows (fun vs H Q E h => ?_) (fun cdv A outer s H vs Q E hr h => ?_)
  · obtain ⟨d, wd, hg, kvs, rfl, _⟩ := h
    rfl
  · obtain ⟨d, wd, hg, kvs, rfl, hd, tb, sz, k⟩ := h
    have hu := hu_of hr
    obtain ⟨w1, w2, h1, h2, wh⟩ := id sz
    refine ⟨_, qss_cons (ps_set (i := 3) sc_law_rows.nd rfl (Or.inl rfl) (pe_lst pa_nil))
      (qss_cons (ps_forq PassesOwn.never rfl (pi_range1 rfl T.range (pa (pe_op op_sub (pe_op op_mul pe_int (pv 1)) pe_int) pa_nil)) (pg_name (i := 4) sc_law_rows.nd rfl (Or.inl rfl))
        (qss_cons (ps_set (i := 5) sc_law_rows.nd rfl (Or.inl rfl) pe_str)
        (qss_cons (ps_forq PassesOwn.never rfl (pi_range1 rfl T.range (pa (pe_op op_sub (pe_op op_mul pe_int (pv 0)) pe_int) pa_nil)) (pg_name (i := 6) sc_law_rows.nd rfl (Or.inl rfl))
          (qss_one (ps_ifq (PW.pt (pw_and (pt_cmpR op_eq (pe_op op_mod (pv 4) pe_int) pe_int (nomark _)) (pw_and1 (pt_cmpR op_eq (pe_op op_mod (pv 6) pe_int) pe_int (nomark _)))))
            (qss_one (ps_set (i := 5) sc_law_rows.nd rfl (Or.inl rfl) (pe_op op_add_str (pv 5) pe_str)))
            (qss_one (ps_ifq (PW.pt (pw_and (pt_cmpR op_eq (pe_op op_mod (pv 4) pe_int) pe_int (nomark _)) (pw_and1 (pt_cmpR op_eq (pe_op op_mod (pv 6) pe_int) pe_int (nomark _)))))
              (qss_one (ps_set (i := 5) sc_law_rows.nd rfl (Or.inl rfl) (pe_op op_add_str (pv 5) pe_str)))
              (qss_one (ps_ifq (pt_cmpR op_eq (pe_op op_mod (pv 4) pe_int) pe_int (nomark _))
                (qss_one (ps_set (i := 5) sc_law_rows.nd rfl (Or.inl rfl) (pe_op op_add_str (pv 5) (pe_dget hu (pv 2) (pe_tup (pa pe_str (pa (pe_op op_fdiv (pv 6) pe_int) (pa (pe_op op_fdiv (pv 4) pe_int) pa_nil)))) (fun _ _ => rfl)))))
                (qss_one (ps_set (i := 5) sc_law_rows.nd rfl (Or.inl rfl) (pe_op op_add_str (pv 5) (pe_dget hu (pv 2) (pe_tup (pa pe_str (pa (pe_op op_fdiv (pv 6) pe_int) (pa (pe_op op_fdiv (pv 4) pe_int) pa_nil)))) (fun _ _ => rfl))))))))))))
        (qss_one (ps_expr (pe_bm PySem.F.plainAttrs_list PySem.F.slot_list_append PySem.F.type_list_append mt_append (pv 3) (pa (pv 5) pa_nil)))))))
      (qss_one (ps_ret (pv 3)))), ?_⟩
    have ew : (2 : Int) * (wd : Int) - 1 = ((2 * wd - 1 : Nat) : Int) := by omega
    have eh : (2 : Int) * (hg : Int) - 1 = ((2 * hg - 1 : Nat) : Int) := by omega
    refine ⟨Nat.zero_le _, fun l nl => ?_⟩
    have s0 : Same H (upd H l (.lst [])) := Same.new (Same.refl _) nl
    have hl0 : (upd H l (.lst [])) l = some (.lst []) := upd_same
    generalize upd H l (.lst []) = H0 at s0 hl0
    refine ⟨_, rfl, _, _, rfl, rfl, .inl ⟨by decide, by decide⟩, _, _, rfl, rfl, (2 * hg - 1 : Nat), (by rw [← eh]), by omega, by omega, ?_⟩
    rw [Int.toNat_natCast]
    refine for_range (n := 2 * hg - 1) (fun i σ H2 => ∃ v4 v5 v6, σ = [some (.int wd), some (.int hg), some (.ref d), some (.ref l), v4, v5, v6] ∧ H2 l = some (.lst (((drawS wd hg kvs).take i).map V.str)) ∧ i ≤ 2 * hg - 1 ∧ Same H H2) ⟨none, none, none, rfl, hl0, Nat.zero_le _, s0⟩ ?_ ?_
    · rintro i σ H2 hi ⟨v4, v5, v6, rfl, c1, _, c2⟩
      refine ⟨_, rfl, _, _, rfl, rfl, .inl ⟨by decide, by decide⟩, _, _, rfl, rfl, (2 * wd - 1 : Nat), (by rw [← ew]), by omega, by omega, ?_⟩
      rw [Int.toNat_natCast, Int.zero_add]
      have hll : (((drawS wd hg kvs).take i).map V.str).length ≤ 100 := by
        rw [List.length_map, List.length_take]
        unfold drawS drawT
        rw [List.length_map, List.length_map, List.length_range]
        omega
      refine for_range (n := 2 * wd - 1) (fun j σ H3 => ∃ v6, σ = [some (.int wd), some (.int hg), some (.ref d), some (.ref l), some (.int (i : Int)), some (.str ⟨((List.range j).map (chN kvs i)).toArray⟩), v6] ∧ H3 l = some (.lst (((drawS wd hg kvs).take i).map V.str)) ∧ j ≤ 2 * wd - 1 ∧ Same H H3) ⟨v6, rfl, c1, Nat.zero_le _, c2⟩ ?_ ?_
      · rintro j σ H3 hj ⟨v6, rfl, g1, _, g2⟩
        rw [Int.zero_add]
        have lj : ∀ x : Str, x.length ≤ 2 → (⟨((List.range j).map (chN kvs i)).toArray⟩ : Str).length + x.length ≤ sizeLine := fun x hx => by
          have : (⟨((List.range j).map (chN kvs i)).toArray⟩ : Str).length = j := by
            show ((List.range j).map (chN kvs i)).toArray.size = j
            simp
          rw [this]
          exact Nat.le_of_lt (small1000 (by omega))
        have snoc : ∀ (x : Str) (H4 : Hp), (⟨#[chN kvs i j]⟩ : Str) = x → H4 l = some (.lst (((drawS wd hg kvs).take i).map V.str)) → Same H H4 → ∃ v6, [some (V.int wd), some (.int hg), some (.ref d), some (.ref l), some (.int (i : Int)), some (.str ((⟨((List.range j).map (chN kvs i)).toArray⟩ : Str) ++ x)), some (.int (j : Int))] =
            [some (V.int wd), some (.int hg), some (.ref d), some (.ref l), some (.int (i : Int)), some (.str ⟨((List.range (j + 1)).map (chN kvs i)).toArray⟩), v6] ∧ H4 l = some (.lst (((drawS wd hg kvs).take i).map V.str)) ∧ j + 1 ≤ 2 * wd - 1 ∧ Same H H4 := fun x H4 e h4 s4 => by
          refine ⟨some (.int (j : Int)), ?_, h4, hj, s4⟩
          rw [str_snoc _ _ _ e, List.range_succ, List.map_append]
          rfl
        have m1 := two_mod (x := (i : Int)) (y := 0) (j := i) (n := 0) rfl rfl (by decide)
        have m2 := two_mod (x := (j : Int)) (y := 0) (j := j) (n := 0) rfl rfl (by decide)
        have m3 := two_mod (x := (i : Int)) (y := 1) (j := i) (n := 1) rfl rfl (by decide)
        have m4 := two_mod (x := (j : Int)) (y := 1) (j := j) (n := 1) rfl rfl (by decide)
        have door : ∀ (kind : Str) (kd : List Key) {D : Ends}, kd = [.inr kind, .inl ((j : Int) / 2), .inl ((i : Int) / 2)] → kd ∈ doors wd hg →
            (∀ H4, H4 l = some (.lst (((drawS wd hg kvs).take i).map V.str)) → Same H H4 → D.nx [some (V.int wd), some (.int hg), some (.ref d), some (.ref l), some (.int (i : Int)), some (.str ((⟨((List.range j).map (chN kvs i)).toArray⟩ : Str) ++ sgAt kvs kd)), some (.int (j : Int))] H4) →
            tAsg (tOp (fun x y H Q => ∃ i j, x = V.str i ∧ y = V.str j ∧ i.length + j.length ≤ sizeLine ∧ Q (V.str (i ++ j)) H) (tVar 5) (tDGet (tVar 2) (tTup (tCons (tC (.str kind)) (tCons (tOp (rI CDiv fun i j => .int (i / j)) (tVar 6) (tC (.int 2))) (tCons (tOp (rI CDiv fun i j => .int (i / j)) (tVar 4) (tC (.int 2))) tNil)))))) (gName 5) D
              [some (V.int wd), some (.int hg), some (.ref d), some (.ref l), some (.int (i : Int)), some (.str ⟨((List.range j).map (chN kvs i)).toArray⟩), some (.int (j : Int))] H3 := by
          intro kind kd D ek hm hR
          obtain ⟨sg1, sg2⟩ := tb.sg hm
          refine ⟨_, rfl, _, rfl, _, rfl, _, _, rfl, rfl, ⟨by decide, by decide⟩, _, rfl, _, _, rfl, rfl, ⟨by decide, by decide⟩, (by show 3 ≤ sizeLine; decide), fun t nt => ?_⟩
          have s4 : Same H3 (upd H3 t (.tup [.str kind, .int ((j : Int) / 2), .int ((i : Int) / 2)])) := Same.new (Same.refl _) nt
          have ht4 : (upd H3 t (.tup [.str kind, .int ((j : Int) / 2), .int ((i : Int) / 2)])) t = some (.tup (kd.map kV)) := by rw [upd_same, ek]; rfl
          have g : DGet (upd H3 t (.tup [.str kind, .int ((j : Int) / 2), .int ((i : Int) / 2)])) d (.ref t) (some (.str (sgAt kvs kd))) := by
            have := DGet.t (k := kd) (s4 _ _ (g2 _ _ hd)) ht4
            rw [sg1] at this
            exact this
          refine ⟨d, _, rfl, g, _, _, rfl, rfl, lj _ ?_, hR _ (s4 _ _ g1) (g2.trans s4)⟩
          rw [← sgN_eq sg2]
          show 1 ≤ 2
          decide
        refine ⟨_, rfl, _, _, rfl, rfl, (by show (0 : Int) < 2; decide), rfl, _, rfl, ?_⟩
        rw [m1]
        rcases Nat.mod_two_eq_zero_or_one i with e1 | e1 <;> rcases Nat.mod_two_eq_zero_or_one j with e2 | e2
        · rw [decide_eq_true e1]
          refine iteT ?_
          refine ⟨_, rfl, _, _, rfl, rfl, (by show (0 : Int) < 2; decide), rfl, _, rfl, ?_⟩
          rw [m2, decide_eq_true e2]
          refine iteT ?_
          refine ⟨_, rfl, _, _, rfl, rfl, lj _ (by decide), snoc _ _ ?_ g1 g2⟩
          unfold chN
          rw [if_pos ⟨e1, e2⟩]
          decide +kernel
        · rw [decide_eq_true e1]
          refine iteT ?_
          refine ⟨_, rfl, _, _, rfl, rfl, (by show (0 : Int) < 2; decide), rfl, _, rfl, ?_⟩
          rw [m2, decide_eq_false (by omega)]
          refine iteF ?_
          refine ⟨_, rfl, _, _, rfl, rfl, (by show (0 : Int) < 2; decide), rfl, _, rfl, ?_⟩
          rw [m3, decide_eq_false (by omega)]
          refine iteF (iteF ?_)
          refine ⟨_, rfl, _, _, rfl, rfl, (by show (0 : Int) < 2; decide), rfl, _, rfl, ?_⟩
          rw [m1, decide_eq_true e1]
          refine iteT ?_
          have ech : chN kvs i j = sgN (sgAt kvs (rowD (j / 2 : Nat) (i / 2 : Nat))) := by unfold chN; rw [if_neg (by omega), if_neg (by omega), if_pos e1]
          refine door "row" (rowD (j / 2 : Nat) (i / 2 : Nat)) (by unfold rowD; simp) (mem_rowD.mpr ⟨by omega, by omega, by omega, by omega⟩) fun H4 h4 s4 => ?_
          refine snoc _ _ ?_ h4 s4
          rw [ech]
          exact sgN_eq (tb.sg (mem_rowD.mpr ⟨by omega, by omega, by omega, by omega⟩)).2
        · rw [decide_eq_false (by omega)]
          refine iteF (iteF ?_)
          refine ⟨_, rfl, _, _, rfl, rfl, (by show (0 : Int) < 2; decide), rfl, _, rfl, ?_⟩
          rw [m3, decide_eq_true e1]
          refine iteT ?_
          refine ⟨_, rfl, _, _, rfl, rfl, (by show (0 : Int) < 2; decide), rfl, _, rfl, ?_⟩
          rw [m4, decide_eq_false (by omega)]
          refine iteF ?_
          refine ⟨_, rfl, _, _, rfl, rfl, (by show (0 : Int) < 2; decide), rfl, _, rfl, ?_⟩
          rw [m1, decide_eq_false (by omega)]
          refine iteF ?_
          have ech : chN kvs i j = sgN (sgAt kvs (colD (j / 2 : Nat) (i / 2 : Nat))) := by unfold chN; rw [if_neg (by omega), if_neg (by omega), if_neg (by omega)]
          refine door "column" (colD (j / 2 : Nat) (i / 2 : Nat)) (by unfold colD; simp) (mem_colD.mpr ⟨by omega, by omega, by omega, by omega⟩) fun H4 h4 s4 => ?_
          refine snoc _ _ ?_ h4 s4
          rw [ech]
          exact sgN_eq (tb.sg (mem_colD.mpr ⟨by omega, by omega, by omega, by omega⟩)).2
        · rw [decide_eq_false (by omega)]
          refine iteF (iteF ?_)
          refine ⟨_, rfl, _, _, rfl, rfl, (by show (0 : Int) < 2; decide), rfl, _, rfl, ?_⟩
          rw [m3, decide_eq_true e1]
          refine iteT ?_
          refine ⟨_, rfl, _, _, rfl, rfl, (by show (0 : Int) < 2; decide), rfl, _, rfl, ?_⟩
          rw [m4, decide_eq_true e2]
          refine iteT ?_
          refine ⟨_, rfl, _, _, rfl, rfl, lj _ (by decide), snoc _ _ ?_ g1 g2⟩
          unfold chN
          rw [if_neg (by omega), if_pos ⟨e1, e2⟩]
          decide +kernel
      · rintro σ H3 ⟨v6, rfl, g1, _, g2⟩
        refine ⟨_, rfl, .inl ⟨rfl, _, SqL.of g1⟩, _, rfl, l, _, _, rfl, rfl, g1, lt_line (by omega), ?_⟩
        refine ⟨_, _, _, rfl, ?_, hi, Same.own g2 nl⟩
        have e6 : (drawS wd hg kvs).take (i + 1) = (drawS wd hg kvs).take i ++ [⟨((List.range (2 * wd - 1)).map (chN kvs i)).toArray⟩] := by
          rw [List.take_add_one]
          unfold drawS drawT
          rw [List.getElem?_map, List.getElem?_map, List.getElem?_range hi]
          rfl
        rw [upd_same, e6, List.map_append]
        rfl
    · rintro σ H2 ⟨v4, v5, v6, rfl, c1, _, c2⟩
      refine ⟨_, rfl, k l H2 nl ?_ c2⟩
      rw [c1, List.take_of_length_le]
      unfold drawS drawT
      rw [List.length_map, List.length_map, List.length_range]
      exact Nat.le_refl _
def spLawRowsG : Sp := fun vs H Q _ => ∃ (d : Addr) (w h : Nat) (kvs : List (List Key × V)), vs = [.int w, .int h, .ref d] ∧ H d = some (.dT kvs) ∧ Tab w h kvs ∧ lgSize w h ∧ ∀ (l : Addr) (H' : Hp), H l = none → H' l = some (.lst ((drawS w h kvs).map V.str)) → Same H H' → Q (.ref l) H'
theorem sc_law_rowsG : FnScope ["wide", "high", "signs", "found", "down", "line", "along"] ["wide", "high", "signs"] (defScope s_law_rows) := ⟨rfl, rfl, rfl, by decide +kernel, rfl, by decide +kernel, by decide +kernel⟩
theorem str_snocG (l : List Nat) (x : Str) (c : Nat) (e : (⟨#[c]⟩ : Str) = x) : (⟨l.toArray⟩ : Str) ++ x = ⟨(l ++ [c]).toArray⟩ := by
  subst e
  show (⟨l.toArray ++ #[c]⟩ : Str) = _
  simp
theorem two_modG {x y : Int} {j n : Nat} (e : x = (j : Int)) (hy : y = (n : Int)) (hn : n < 2) : decide (V.int (x % 2) = V.int y) = decide (j % 2 = n) := by
  subst e hy
  by_cases h : j % 2 = n
  · rw [decide_eq_true h]
    exact decide_eq_true (congrArg V.int (by omega))
  · rw [decide_eq_false h]
    exact decide_eq_false fun z => h (by have := V.int.inj z; omega)
theorem ok_law_rowsG {f : Addr} {fd : FuncData} (F : Fun K "_law_rows" "_law_rows" s_law_rows f fd) (T : Txt K mg C) : FnOk P w K mg base CX0 1 f fd ["wide", "high", "signs"] spLawRowsG := by
  refine F.okq sc_law_rowsG (fun vs H Q E h => ?_) (fun cdv A outer s H vs Q E hr h => ?_)
  · obtain ⟨d, wd, hg, kvs, rfl, _⟩ := h
    rfl
  · obtain ⟨d, wd, hg, kvs, rfl, hd, tb, sz, k⟩ := h
    have hu := hu_of hr
    obtain ⟨w1, w2, h1, h2, wh⟩ := id sz
    refine ⟨_, qss_cons (ps_set (i := 3) sc_law_rowsG.nd rfl (Or.inl rfl) (pe_lst pa_nil))
      (qss_cons (ps_forq PassesOwn.never rfl (pi_range1 rfl T.range (pa (pe_op op_sub (pe_op op_mul pe_int (pv 1)) pe_int) pa_nil)) (pg_name (i := 4) sc_law_rowsG.nd rfl (Or.inl rfl))
        (qss_cons (ps_set (i := 5) sc_law_rowsG.nd rfl (Or.inl rfl) pe_str)
        (qss_cons (ps_forq PassesOwn.never rfl (pi_range1 rfl T.range (pa (pe_op op_sub (pe_op op_mul pe_int (pv 0)) pe_int) pa_nil)) (pg_name (i := 6) sc_law_rowsG.nd rfl (Or.inl rfl))
          (qss_one (ps_ifq (PW.pt (pw_and (pt_cmpR op_eq (pe_op op_mod (pv 4) pe_int) pe_int (nomark _)) (pw_and1 (pt_cmpR op_eq (pe_op op_mod (pv 6) pe_int) pe_int (nomark _)))))
            (qss_one (ps_set (i := 5) sc_law_rowsG.nd rfl (Or.inl rfl) (pe_op op_add_str (pv 5) pe_str)))
            (qss_one (ps_ifq (PW.pt (pw_and (pt_cmpR op_eq (pe_op op_mod (pv 4) pe_int) pe_int (nomark _)) (pw_and1 (pt_cmpR op_eq (pe_op op_mod (pv 6) pe_int) pe_int (nomark _)))))
              (qss_one (ps_set (i := 5) sc_law_rowsG.nd rfl (Or.inl rfl) (pe_op op_add_str (pv 5) pe_str)))
              (qss_one (ps_ifq (pt_cmpR op_eq (pe_op op_mod (pv 4) pe_int) pe_int (nomark _))
                (qss_one (ps_set (i := 5) sc_law_rowsG.nd rfl (Or.inl rfl) (pe_op op_add_str (pv 5) (pe_dget hu (pv 2) (pe_tup (pa pe_str (pa (pe_op op_fdiv (pv 6) pe_int) (pa (pe_op op_fdiv (pv 4) pe_int) pa_nil)))) (fun _ _ => rfl)))))
                (qss_one (ps_set (i := 5) sc_law_rowsG.nd rfl (Or.inl rfl) (pe_op op_add_str (pv 5) (pe_dget hu (pv 2) (pe_tup (pa pe_str (pa (pe_op op_fdiv (pv 6) pe_int) (pa (pe_op op_fdiv (pv 4) pe_int) pa_nil)))) (fun _ _ => rfl))))))))))))
        (qss_one (ps_expr (pe_bm PySem.F.plainAttrs_list PySem.F.slot_list_append PySem.F.type_list_append mt_append (pv 3) (pa (pv 5) pa_nil)))))))
      (qss_one (ps_ret (pv 3)))), ?_⟩
    have ew : (2 : Int) * (wd : Int) - 1 = ((2 * wd - 1 : Nat) : Int) := by omega
    have eh : (2 : Int) * (hg : Int) - 1 = ((2 * hg - 1 : Nat) : Int) := by omega
    refine ⟨Nat.zero_le _, fun l nl => ?_⟩
    have s0 : Same H (upd H l (.lst [])) := Same.new (Same.refl _) nl
    have hl0 : (upd H l (.lst [])) l = some (.lst []) := upd_same
    generalize upd H l (.lst []) = H0 at s0 hl0
    refine ⟨_, rfl, _, _, rfl, rfl, .inl ⟨by decide, by decide⟩, _, _, rfl, rfl, (2 * hg - 1 : Nat), (by rw [← eh]), by omega, by omega, ?_⟩
    rw [Int.toNat_natCast]
    refine for_range (n := 2 * hg - 1) (fun i σ H2 => ∃ v4 v5 v6, σ = [some (.int wd), some (.int hg), some (.ref d), some (.ref l), v4, v5, v6] ∧ H2 l = some (.lst (((drawS wd hg kvs).take i).map V.str)) ∧ i ≤ 2 * hg - 1 ∧ Same H H2) ⟨none, none, none, rfl, hl0, Nat.zero_le _, s0⟩ ?_ ?_
    · rintro i σ H2 hi ⟨v4, v5, v6, rfl, c1, _, c2⟩
      refine ⟨_, rfl, _, _, rfl, rfl, .inl ⟨by decide, by decide⟩, _, _, rfl, rfl, (2 * wd - 1 : Nat), (by rw [← ew]), by omega, by omega, ?_⟩
      rw [Int.toNat_natCast, Int.zero_add]
      have hll : (((drawS wd hg kvs).take i).map V.str).length ≤ 100 := by
        rw [List.length_map, List.length_take]
        unfold drawS drawT
        rw [List.length_map, List.length_map, List.length_range]
        omega
      refine for_range (n := 2 * wd - 1) (fun j σ H3 => ∃ v6, σ = [some (.int wd), some (.int hg), some (.ref d), some (.ref l), some (.int (i : Int)), some (.str ⟨((List.range j).map (chN kvs i)).toArray⟩), v6] ∧ H3 l = some (.lst (((drawS wd hg kvs).take i).map V.str)) ∧ j ≤ 2 * wd - 1 ∧ Same H H3) ⟨v6, rfl, c1, Nat.zero_le _, c2⟩ ?_ ?_
      · rintro j σ H3 hj ⟨v6, rfl, g1, _, g2⟩
        rw [Int.zero_add]
        have lj : ∀ x : Str, x.length ≤ 2 → (⟨((List.range j).map (chN kvs i)).toArray⟩ : Str).length + x.length ≤ sizeLine := fun x hx => by
          have : (⟨((List.range j).map (chN kvs i)).toArray⟩ : Str).length = j := by
            show ((List.range j).map (chN kvs i)).toArray.size = j
            simp
          rw [this]
          exact Nat.le_of_lt (small1000 (by omega))
        have snoc : ∀ (x : Str) (H4 : Hp), (⟨#[chN kvs i j]⟩ : Str) = x → H4 l = some (.lst (((drawS wd hg kvs).take i).map V.str)) → Same H H4 → ∃ v6, [some (V.int wd), some (.int hg), some (.ref d), some (.ref l), some (.int (i : Int)), some (.str ((⟨((List.range j).map (chN kvs i)).toArray⟩ : Str) ++ x)), some (.int (j : Int))] =
            [some (V.int wd), some (.int hg), some (.ref d), some (.ref l), some (.int (i : Int)), some (.str ⟨((List.range (j + 1)).map (chN kvs i)).toArray⟩), v6] ∧ H4 l = some (.lst (((drawS wd hg kvs).take i).map V.str)) ∧ j + 1 ≤ 2 * wd - 1 ∧ Same H H4 := fun x H4 e h4 s4 => by
          refine ⟨some (.int (j : Int)), ?_, h4, hj, s4⟩
          rw [str_snocG _ _ _ e, List.range_succ, List.map_append]
          rfl
        have m1 := two_modG (x := (i : Int)) (y := 0) (j := i) (n := 0) rfl rfl (by decide)
        have m2 := two_modG (x := (j : Int)) (y := 0) (j := j) (n := 0) rfl rfl (by decide)
        have m3 := two_modG (x := (i : Int)) (y := 1) (j := i) (n := 1) rfl rfl (by decide)
        have m4 := two_modG (x := (j : Int)) (y := 1) (j := j) (n := 1) rfl rfl (by decide)
        have door : ∀ (kind : Str) (kd : List Key) {D : Ends}, kd = [.inr kind, .inl ((j : Int) / 2), .inl ((i : Int) / 2)] → kd ∈ doors wd hg →
            (∀ H4, H4 l = some (.lst (((drawS wd hg kvs).take i).map V.str)) → Same H H4 → D.nx [some (V.int wd), some (.int hg), some (.ref d), some (.ref l), some (.int (i : Int)), some (.str ((⟨((List.range j).map (chN kvs i)).toArray⟩ : Str) ++ sgAt kvs kd)), some (.int (j : Int))] H4) →
            tAsg (tOp (fun x y H Q => ∃ i j, x = V.str i ∧ y = V.str j ∧ i.length + j.length ≤ sizeLine ∧ Q (V.str (i ++ j)) H) (tVar 5) (tDGet (tVar 2) (tTup (tCons (tC (.str kind)) (tCons (tOp (rI CDiv fun i j => .int (i / j)) (tVar 6) (tC (.int 2))) (tCons (tOp (rI CDiv fun i j => .int (i / j)) (tVar 4) (tC (.int 2))) tNil)))))) (gName 5) D
              [some (V.int wd), some (.int hg), some (.ref d), some (.ref l), some (.int (i : Int)), some (.str ⟨((List.range j).map (chN kvs i)).toArray⟩), some (.int (j : Int))] H3 := by
          intro kind kd D ek hm hR
          obtain ⟨sg1, sg2⟩ := tb.sg hm
          refine ⟨_, rfl, _, rfl, _, rfl, _, _, rfl, rfl, ⟨by decide, by decide⟩, _, rfl, _, _, rfl, rfl, ⟨by decide, by decide⟩, (by show 3 ≤ sizeLine; decide), fun t nt => ?_⟩
          have s4 : Same H3 (upd H3 t (.tup [.str kind, .int ((j : Int) / 2), .int ((i : Int) / 2)])) := Same.new (Same.refl _) nt
          have ht4 : (upd H3 t (.tup [.str kind, .int ((j : Int) / 2), .int ((i : Int) / 2)])) t = some (.tup (kd.map kV)) := by rw [upd_same, ek]; rfl
          have g : DGet (upd H3 t (.tup [.str kind, .int ((j : Int) / 2), .int ((i : Int) / 2)])) d (.ref t) (some (.str (sgAt kvs kd))) := by
            have := DGet.t (k := kd) (s4 _ _ (g2 _ _ hd)) ht4
            rw [sg1] at this
            exact this
          refine ⟨d, _, rfl, g, _, _, rfl, rfl, lj _ ?_, hR _ (s4 _ _ g1) (g2.trans s4)⟩
          rw [← sgN_eq sg2]
          show 1 ≤ 2
          decide
        refine ⟨_, rfl, _, _, rfl, rfl, (by show (0 : Int) < 2; decide), rfl, _, rfl, ?_⟩
        rw [m1]
        rcases Nat.mod_two_eq_zero_or_one i with e1 | e1 <;> rcases Nat.mod_two_eq_zero_or_one j with e2 | e2
        · rw [decide_eq_true e1]
          refine iteT ?_
          refine ⟨_, rfl, _, _, rfl, rfl, (by show (0 : Int) < 2; decide), rfl, _, rfl, ?_⟩
          rw [m2, decide_eq_true e2]
          refine iteT ?_
          refine ⟨_, rfl, _, _, rfl, rfl, lj _ (by decide), snoc _ _ ?_ g1 g2⟩
          unfold chN
          rw [if_pos ⟨e1, e2⟩]
          decide +kernel
        · rw [decide_eq_true e1]
          refine iteT ?_
          refine ⟨_, rfl, _, _, rfl, rfl, (by show (0 : Int) < 2; decide), rfl, _, rfl, ?_⟩
          rw [m2, decide_eq_false (by omega)]
          refine iteF ?_
          refine ⟨_, rfl, _, _, rfl, rfl, (by show (0 : Int) < 2; decide), rfl, _, rfl, ?_⟩
          rw [m3, decide_eq_false (by omega)]
          refine iteF (iteF ?_)
          refine ⟨_, rfl, _, _, rfl, rfl, (by show (0 : Int) < 2; decide), rfl, _, rfl, ?_⟩
          rw [m1, decide_eq_true e1]
          refine iteT ?_
          have ech : chN kvs i j = sgN (sgAt kvs (rowD (j / 2 : Nat) (i / 2 : Nat))) := by unfold chN; rw [if_neg (by omega), if_neg (by omega), if_pos e1]
          refine door "row" (rowD (j / 2 : Nat) (i / 2 : Nat)) (by unfold rowD; simp) (mem_rowD.mpr ⟨by omega, by omega, by omega, by omega⟩) fun H4 h4 s4 => ?_
          refine snoc _ _ ?_ h4 s4
          rw [ech]
          exact sgN_eq (tb.sg (mem_rowD.mpr ⟨by omega, by omega, by omega, by omega⟩)).2
        · rw [decide_eq_false (by omega)]
          refine iteF (iteF ?_)
          refine ⟨_, rfl, _, _, rfl, rfl, (by show (0 : Int) < 2; decide), rfl, _, rfl, ?_⟩
          rw [m3, decide_eq_true e1]
          refine iteT ?_
          refine ⟨_, rfl, _, _, rfl, rfl, (by show (0 : Int) < 2; decide), rfl, _, rfl, ?_⟩
          rw [m4, decide_eq_false (by omega)]
          refine iteF ?_
          refine ⟨_, rfl, _, _, rfl, rfl, (by show (0 : Int) < 2; decide), rfl, _, rfl, ?_⟩
          rw [m1, decide_eq_false (by omega)]
          refine iteF ?_
          have ech : chN kvs i j = sgN (sgAt kvs (colD (j / 2 : Nat) (i / 2 : Nat))) := by unfold chN; rw [if_neg (by omega), if_neg (by omega), if_neg (by omega)]
          refine door "column" (colD (j / 2 : Nat) (i / 2 : Nat)) (by unfold colD; simp) (mem_colD.mpr ⟨by omega, by omega, by omega, by omega⟩) fun H4 h4 s4 => ?_
          refine snoc _ _ ?_ h4 s4
          rw [ech]
          exact sgN_eq (tb.sg (mem_colD.mpr ⟨by omega, by omega, by omega, by omega⟩)).2
        · rw [decide_eq_false (by omega)]
          refine iteF (iteF ?_)
          refine ⟨_, rfl, _, _, rfl, rfl, (by show (0 : Int) < 2; decide), rfl, _, rfl, ?_⟩
          rw [m3, decide_eq_true e1]
          refine iteT ?_
          refine ⟨_, rfl, _, _, rfl, rfl, (by show (0 : Int) < 2; decide), rfl, _, rfl, ?_⟩
          rw [m4, decide_eq_true e2]
          refine iteT ?_
          refine ⟨_, rfl, _, _, rfl, rfl, lj _ (by decide), snoc _ _ ?_ g1 g2⟩
          unfold chN
          rw [if_neg (by omega), if_pos ⟨e1, e2⟩]
          decide +kernel
      · rintro σ H3 ⟨v6, rfl, g1, _, g2⟩
        refine ⟨_, rfl, .inl ⟨rfl, _, SqL.of g1⟩, _, rfl, l, _, _, rfl, rfl, g1, lt_line (by omega), ?_⟩
        refine ⟨_, _, _, rfl, ?_, hi, Same.own g2 nl⟩
        have e6 : (drawS wd hg kvs).take (i + 1) = (drawS wd hg kvs).take i ++ [⟨((List.range (2 * wd - 1)).map (chN kvs i)).toArray⟩] := by
          rw [List.take_add_one]
          unfold drawS drawT
          rw [List.getElem?_map, List.getElem?_map, List.getElem?_range hi]
          rfl
        rw [upd_same, e6, List.map_append]
        rfl
    · rintro σ H2 ⟨v4, v5, v6, rfl, c1, _, c2⟩
      refine ⟨_, rfl, k l H2 nl ?_ c2⟩
      rw [c1, List.take_of_length_le]
      unfold drawS drawT
      rw [List.length_map, List.length_map, List.length_range]
      exact Nat.le_refl _
theorem cut_to {xs : List V} {n : Nat} (h : n ≤ xs.length) : cutV xs none (some (n : Int)) = xs.take n := by
  unfold cutV
  rw [HT.sIx_none, HT.sIx_nat, List.drop_zero, Nat.min_eq_left h]
  rfl
theorem cut_from {xs : List V} {n : Nat} (h : n ≤ xs.length) : cutV xs (some (n : Int)) none = xs.drop n := by
  unfold cutV
  rw [HT.sIx_none, HT.sIx_nat, Nat.min_eq_left h, List.take_of_length_le (by rw [List.length_drop]; exact Nat.le_refl _)]
theorem put_list {α : Type} {l : List α} {i : Nat} (x : α) (h : i < l.length) : l.take i ++ [x] ++ l.drop (i + 1) = l.set i x := by
  rw [List.set_eq_take_append_cons_drop, if_pos h, List.append_assoc]
  rfl
theorem put_text {r : Str} {a c : Nat} (h : a < r.length) : cutT r 0 a ++ ⟨#[c]⟩ ++ cutT r (a + 1) r.length = putS r a c := by
  refine Str.ext' (Array.toList_inj.mp ?_)
  unfold cutT putS
  simp only [Str.cps_append, Array.toList_append, List.drop_zero, Nat.sub_zero]
  rw [List.take_of_length_le (i := r.length - (a + 1)) (by rw [List.length_drop, Array.length_toList]; exact Nat.le_refl _), List.toList_toArray, List.toList_toArray, List.toList_toArray]
  exact put_list c (by rw [Array.length_toList]; exact h)
def spPut : Sp := fun vs H Q _ => ∃ (l : Addr) (R : List Str) (d a c : Nat) (r : Str), vs = [.ref l, .int d, .int a, .str ⟨#[c]⟩] ∧ H l = some (.lst (R.map V.str)) ∧ R[d]? = some r ∧ a < r.length ∧ r.length ≤ 1000 ∧ R.length ≤ 1000 ∧
  ∀ (p : Addr) (H' : Hp), Same H H' → H' p = some (.lst ((R.set d (putS r a c)).map V.str)) → Q (.ref p) H'
theorem sc_law_put : FnScope ["rows", "down", "along", "sign", "line", "fresh"] ["rows", "down", "along", "sign"] (defScope s_law_put) := ⟨rfl, rfl, rfl, by decide +kernel, rfl, by decide +kernel, by decide +kernel⟩
theorem ok_law_put {f : Addr} {fd : FuncData} (F : Fun K "_law_put" "_law_put" s_law_put f fd) (T : Txt K mg C) : FnOk P w K mg base CX0 1 f fd ["rows", "down", "along", "sign"] spPut := by
  refine F.okq sc_law_put (fun vs H Q E h => ?_) (fun cdv A outer s H vs Q E hr h => ?_)
  · obtain ⟨l, R, d, a, c, r, rfl, _⟩ := h
    rfl
  · obtain ⟨l, R, d, a, c, r, rfl, hl, er, ha, lr, lR, k⟩ := h
    have hd : d < R.length := (List.getElem?_eq_some_iff.mp er).1
    refine ⟨_, qss_cons (ps_set (i := 4) sc_law_put.nd rfl (Or.inl rfl) (pe_ix ix_list (pv 0) (pv 1) (fun _ _ => rfl)))
      (qss_cons (ps_set (i := 5) sc_law_put.nd rfl (Or.inl rfl) (pe_op op_add_str (pe_op op_add_str (pe_slice sl_str (pv 4) po_none (po_some (pv 2))) (pv 3)) (pe_slice sl_str (pv 4) (po_some (pe_op op_add (pv 2) pe_int)) po_none)))
      (qss_one (ps_ret (pe_op op_cat (pe_op op_cat (pe_slice sl_list (pv 0) po_none (po_some (pv 1))) (pe_lst (pa (pv 5) pa_nil))) (pe_slice sl_list (pv 0) (po_some (pe_op op_add (pv 1) pe_int)) po_none))))), ?_⟩
    have lz : r.length ≤ sizeLine := Nat.le_of_lt (small1000 lr)
    have cl : ∀ x y, (cutT r x y).length ≤ 1000 := fun x y => by
      show ((r.cps.toList.drop x).take (y - x)).toArray.size ≤ 1000
      rw [List.size_toArray, List.length_take, List.length_drop, Array.length_toList]
      have : r.cps.size ≤ 1000 := lr
      omega
    have erow : (R.map V.str)[d]? = some (.str r) := by rw [List.getElem?_map, er]; rfl
    refine ⟨_, rfl, _, rfl, l, _, _, _, rfl, rfl, SqL.of hl, atI_nat erow, ?_⟩
    refine ⟨_, rfl, _, rfl, _, rfl, r, 0, a, rfl, Nat.zero_le _, Nat.le_of_lt ha, lz, sl_to (Nat.le_of_lt ha), ?_⟩
    refine ⟨_, rfl, _, _, rfl, rfl, ?_, ?_⟩
    · have := cl 0 a
      show (cutT r 0 a).length + 1 ≤ sizeLine
      rw [sizeLine_eq]
      omega
    refine ⟨_, rfl, _, rfl, _, _, rfl, rfl, _, rfl, r, a + 1, r.length, rfl, ha, Nat.le_refl _, lz, ?_, _, _, rfl, rfl, ?_, ?_⟩
    · rw [show ((a : Int) + 1) = ((a + 1 : Nat) : Int) by omega]
      exact sl_from
    · have := cl 0 a
      have := cl (a + 1) r.length
      rw [Str.length_append, sizeLine_eq]
      show (cutT r 0 a).length + 1 + _ ≤ _
      omega
    rw [put_text ha]
    refine ⟨_, rfl, _, rfl, _, rfl, l, _, rfl, SqL.of hl, fun p1 n1 => ?_⟩
    rw [cut_to (by rw [List.length_map]; omega)]
    refine ⟨_, rfl, (by show 1 ≤ sizeLine; decide), fun p2 n2 => ?_⟩
    have n2' : H p2 = none := (Same.new (Same.refl H) n1).free n2
    have ne12 : p1 ≠ p2 := fun e => by rw [← e, upd_same] at n2; cases n2
    refine ⟨p1, p2, _, _, rfl, rfl, (by rw [upd_ne ne12]; exact upd_same), upd_same, ?_, fun p3 n3 => ?_⟩
    · rw [List.length_take, List.length_map, sizeLine_eq]
      show _ + 1 ≤ _
      omega
    have s3 : Same H (upd (upd (upd H p1 (.lst ((R.map V.str).take d))) p2 (.lst [.str (putS r a c)])) p3 (.lst ((R.map V.str).take d ++ [.str (putS r a c)]))) := Same.new (Same.new (Same.new (Same.refl H) n1) n2) n3
    have h3 : (upd (upd (upd H p1 (.lst ((R.map V.str).take d))) p2 (.lst [.str (putS r a c)])) p3 (.lst ((R.map V.str).take d ++ [.str (putS r a c)]))) p3 = some (.lst ((R.map V.str).take d ++ [.str (putS r a c)])) := upd_same
    generalize upd (upd (upd H p1 (.lst ((R.map V.str).take d))) p2 (.lst [.str (putS r a c)])) p3 (.lst ((R.map V.str).take d ++ [.str (putS r a c)])) = H3 at s3 h3
    refine ⟨_, rfl, _, rfl, _, _, rfl, rfl, _, rfl, l, _, rfl, SqL.of (s3 _ _ hl), fun p4 n4 => ?_⟩
    rw [show ((d : Int) + 1) = ((d + 1 : Nat) : Int) by omega, cut_from (by rw [List.length_map]; omega)]
    have ne34 : p3 ≠ p4 := ne_of_none h3 n4
    refine ⟨p3, p4, _, _, rfl, rfl, (by rw [upd_ne ne34]; exact h3), upd_same, ?_, fun p5 n5 => ?_⟩
    · rw [List.length_append, List.length_take, List.length_drop, List.length_map, sizeLine_eq]
      show _ + 1 + _ ≤ _
      omega
    refine k p5 _ (s3.trans (Same.new (Same.new (Same.refl _) n4) n5)) ?_
    rw [upd_same, put_list _ (by rw [List.length_map]; exact hd), List.map_set]
def Bad (B : List Str) : Prop := bound B ∧ ¬ goodT (Txt.join "\n" B)
theorem sum_le (l : List Nat) (b : Nat) (h : ∀ x ∈ l, x ≤ b) : l.sum ≤ l.length * b := by
  induction l with
  | nil => simp
  | cons a r ih =>
    have h1 := h a List.mem_cons_self
    have h2 := ih fun x hx => h x (List.mem_cons_of_mem _ hx)
    rw [List.sum_cons, List.length_cons, Nat.succ_mul]
    omega
theorem bound_of {B : List Str} (h1 : B.length ≤ 1000) (h2 : ∀ r ∈ B, r.length ≤ 1000) : bound B := by
  have := sum_le (B.map (·.length)) 1000 fun x hx => by
    obtain ⟨r, hr, rfl⟩ := List.mem_map.mp hx
    exact h2 r hr
  rw [List.length_map] at this
  unfold bound
  have : B.length * 1000 ≤ 1000 * 1000 := Nat.mul_le_mul_right _ h1
  omega
def isPair : Expr → Option (Int × Int)
  | .Tuple [.Constant (.int a) _ _, .Constant (.int b) _ _] _ _ => some (a, b)
  | _ => none
def tPs : List (Int × Int) → TA
  | [] => tNil
  | p :: r => tCons (tTup (tCons (tC (.int p.1)) (tCons (tC (.int p.2)) tNil))) (tPs r)
theorem pa_pairs {X : Cx} : ∀ (es : List Expr) (ns : List (Int × Int)), es.map isPair = ns.map some → PA X es (tPs ns)
  | [], [], _ => pa_nil
  | [], _ :: _, h => by simp at h
  | _ :: _, [], h => by simp at h
  | e :: es, p :: r, h => by
    rw [List.map_cons, List.map_cons] at h
    injection h with h1 h2
    unfold isPair at h1
    split at h1
    · cases h1
      exact pa (pe_tup (pa pe_int (pa pe_int pa_nil))) (pa_pairs es r h2)
    · cases h1
structure QE (X : Cx) (e : Expr) (t : TE) : Prop where
  h : PE X e t
theorem qe_pairs {X : Cx} {es : List Expr} {pos : Pos} (ns : List (Int × Int)) (h : es.map isPair = ns.map some) : QE X (.List es pos) (tLst (tPs ns)) := ⟨pe_lst (pa_pairs es ns h)⟩
theorem pe_ixq {X : Cx} {a b : Expr} {ta tb : TE} {pos : Pos} {r : R2} (hr : IxR X r) (ha : QE X a ta) (hb : PE X b tb) (hs : PlainIx b) : PE X (.Subscript a b pos) (tOp r ta tb) := pe_ix hr ha.h hb hs
def spLarge : Sp := fun vs H Q _ => ∃ cl : Nat, vs = [.int cl] ∧ ∀ (p : Addr) (B : List Str) (H' : Hp), Same H H' → H' p = some (.lst (B.map V.str)) → Bad B → Q (.ref p) H'
theorem sc_law_large : FnScope ["cell", "wide", "high", "signs", "door"] ["cell"] (defScope s_law_large) := ⟨rfl, rfl, rfl, by decide +kernel, rfl, by decide +kernel, by decide +kernel⟩
theorem doors_lenG {w h : Nat} (s : lgSize w h) : (doors w h).length ≤ 120 := by
  have := doorsTo_len w h h
  have : h * w = w * h := Nat.mul_comm h w
  have := s.2.2.2.2
  show (doorsTo w h h).length ≤ 120
  omega
theorem ok_law_large {f : Addr} {fd : FuncData} (F : Fun K "_law_large" "_law_large" s_law_large f fd) (T : Txt K mg C) (DD : DefAt P w K mg base 1 "_law_doors" ["wide", "high"] spDoorsG) (DW : DefAt P w K mg base 1 "_law_rows" ["wide", "high", "signs"] spLawRowsG) :
    FnOk P w K mg base CX0 2 f fd ["cell"] spLarge := by
  refine F.okq sc_law_large (fun vs H Q E h => ?_) (fun cdv A outer s H vs Q E hr h => ?_)
  · obtain ⟨cl, rfl, _⟩ := h
    rfl
  · obtain ⟨cl, rfl, k⟩ := h
    have hu := hu_of hr
    refine ⟨_, qss_cons (ps_asg (pe_ixq ix_list (qe_pairs [(13, 1), (1, 13), (7, 6), (6, 7), (12, 4), (4, 12), (13, 2), (37, 1)] (by rfl)) (pe_op op_mod (pv 0) pe_int) (fun _ _ => rfl))
        (pg_tup rfl (pgs_cons (pg_name (i := 1) sc_law_large.nd rfl (Or.inl rfl)) (pgs_cons (pg_name (i := 2) sc_law_large.nd rfl (Or.inl rfl)) pgs_nil))))
      (qss_cons (ps_set (i := 3) sc_law_large.nd rfl (Or.inl rfl) pe_dnewT)
      (qss_cons (ps_forq PassesOwn.never rfl (pi_list (pe_def DD hr (pa (pv 1) (pa (pv 2) pa_nil)))) (pg_name (i := 4) sc_law_large.nd rfl (Or.inl rfl)) (qss_one (ps_dput hu (pv 3) (pv 4) pe_str rfl)))
      (qss_one (ps_ret (pe_def DW hr (pa (pv 1) (pa (pv 2) (pa (pv 3) pa_nil)))))))), ?_⟩
    refine ⟨(by show 2 ≤ sizeLine; decide), fun t1 n1 => ⟨(by show 2 ≤ sizeLine; decide), fun t2 n2 => ⟨(by show 2 ≤ sizeLine; decide), fun t3 n3 => ⟨(by show 2 ≤ sizeLine; decide), fun t4 n4 => ⟨(by show 2 ≤ sizeLine; decide), fun t5 n5 => ⟨(by show 2 ≤ sizeLine; decide), fun t6 n6 =>
      ⟨(by show 2 ≤ sizeLine; decide), fun t7 n7 => ⟨(by show 2 ≤ sizeLine; decide), fun t8 n8 => ⟨(by show 8 ≤ sizeLine; decide), fun l nl => ?_⟩⟩⟩⟩⟩⟩⟩⟩⟩
    generalize hH1 : upd (upd (upd (upd (upd (upd (upd (upd (upd H t1 _) t2 _) t3 _) t4 _) t5 _) t6 _) t7 _) t8 _) l _ = H1
    have s1 : Same H H1 := by rw [← hH1]; exact Same.new (Same.new (Same.new (Same.new (Same.new (Same.new (Same.new (Same.new (Same.new (Same.refl H) n1) n2) n3) n4) n5) n6) n7) n8) nl
    have e1 : H1 t1 = some (.tup [.int 13, .int 1]) := by rw [← hH1]; exact (Same.new (Same.new (Same.new (Same.new (Same.new (Same.new (Same.new (Same.new (Same.refl _) n2) n3) n4) n5) n6) n7) n8) nl) t1 _ upd_same
    have e2 : H1 t2 = some (.tup [.int 1, .int 13]) := by rw [← hH1]; exact (Same.new (Same.new (Same.new (Same.new (Same.new (Same.new (Same.new (Same.refl _) n3) n4) n5) n6) n7) n8) nl) t2 _ upd_same
    have e3 : H1 t3 = some (.tup [.int 7, .int 6]) := by rw [← hH1]; exact (Same.new (Same.new (Same.new (Same.new (Same.new (Same.new (Same.refl _) n4) n5) n6) n7) n8) nl) t3 _ upd_same
    have e4 : H1 t4 = some (.tup [.int 6, .int 7]) := by rw [← hH1]; exact (Same.new (Same.new (Same.new (Same.new (Same.new (Same.refl _) n5) n6) n7) n8) nl) t4 _ upd_same
    have e5 : H1 t5 = some (.tup [.int 12, .int 4]) := by rw [← hH1]; exact (Same.new (Same.new (Same.new (Same.new (Same.refl _) n6) n7) n8) nl) t5 _ upd_same
    have e6 : H1 t6 = some (.tup [.int 4, .int 12]) := by rw [← hH1]; exact (Same.new (Same.new (Same.new (Same.refl _) n7) n8) nl) t6 _ upd_same
    have e7 : H1 t7 = some (.tup [.int 13, .int 2]) := by rw [← hH1]; exact (Same.new (Same.new (Same.refl _) n8) nl) t7 _ upd_same
    have e8 : H1 t8 = some (.tup [.int 37, .int 1]) := by rw [← hH1]; exact (Same.new (Same.refl _) nl) t8 _ upd_same
    have el : H1 l = some (.lst [.ref t1, .ref t2, .ref t3, .ref t4, .ref t5, .ref t6, .ref t7, .ref t8]) := by rw [← hH1]; exact upd_same
    have pick : ∃ (t : Addr) (a b : Nat), atI [V.ref t1, V.ref t2, V.ref t3, V.ref t4, V.ref t5, V.ref t6, V.ref t7, V.ref t8] ((cl : Int) % 8) = some (.ref t) ∧ H1 t = some (.tup [.int (a : Int), .int (b : Int)]) ∧ lgSize a b ∧ ¬ okSize a b := by
      have h8 : (cl : Int) % 8 = 0 ∨ (cl : Int) % 8 = 1 ∨ (cl : Int) % 8 = 2 ∨ (cl : Int) % 8 = 3 ∨ (cl : Int) % 8 = 4 ∨ (cl : Int) % 8 = 5 ∨ (cl : Int) % 8 = 6 ∨ (cl : Int) % 8 = 7 := by omega
      unfold lgSize okSize
      rcases h8 with e | e | e | e | e | e | e | e <;> rw [e]
      · exact ⟨t1, 13, 1, rfl, e1, by decide, by decide⟩
      · exact ⟨t2, 1, 13, rfl, e2, by decide, by decide⟩
      · exact ⟨t3, 7, 6, rfl, e3, by decide, by decide⟩
      · exact ⟨t4, 6, 7, rfl, e4, by decide, by decide⟩
      · exact ⟨t5, 12, 4, rfl, e5, by decide, by decide⟩
      · exact ⟨t6, 4, 12, rfl, e6, by decide, by decide⟩
      · exact ⟨t7, 13, 2, rfl, e7, by decide, by decide⟩
      · exact ⟨t8, 37, 1, rfl, e8, by decide, by decide⟩
    obtain ⟨t, wd, hg, hp, ht, sz, ns⟩ := pick
    obtain ⟨w1, w2, h1, h2, wh⟩ := id sz
    refine ⟨_, rfl, _, _, rfl, rfl, (by show (0 : Int) < 8; decide), l, _, _, _, rfl, rfl, SqL.of el, hp, ?_⟩
    refine ⟨t, _, rfl, SqT.of ht, rfl, _, _, rfl, _, _, rfl, rfl, ?_⟩
    intro o ho
    have s6 : Same H1 (upd H1 o (.dT [])) := Same.new (Same.refl _) ho
    have hO6 : (upd H1 o (.dT [])) o = some (.dT []) := upd_same
    generalize upd H1 o (.dT []) = H6 at s6 hO6
    refine ⟨_, rfl, _, rfl, wd, hg, rfl, sz, fun l7 xs H7 nl7 hL7 tl s7 => ?_⟩
    have hO7 : H7 o = some (.dT []) := s7 _ _ hO6
    have ndl : l7 ≠ o := fun e => by rw [e, hO6] at nl7; cases nl7
    refine ⟨l7, rfl, ⟨_, SqL.of hL7⟩, for_list (K := K) (a := l7) (xs := xs) (fun i σ H8 => ∃ v4, σ = [some (.int (cl : Int)), some (.int wd), some (.int hg), some (.ref o), v4] ∧ H8 o = some (.dT (((doors wd hg).take i).map fun k => (k, V.str "."))) ∧
      (∀ b ob, H7 b = some ob → b ≠ o → H8 b = some ob)) ⟨none, rfl, hO7, fun _ _ e _ => e⟩ (fun i σ H8 _ ⟨_, _, _, z⟩ => SqL.of (z _ _ hL7 ndl)) ?_ ?_⟩
    · rintro i x σ H8 hi ⟨v4, rfl, c1, c2⟩
      obtain ⟨kd, ek, ta, rfl, hta⟩ := tl.at hi
      have hta8 : H8 ta = some (.tup (kd.map kV)) := c2 ta _ hta (ne_of hta hO7 (fun z => nomatch z))
      refine ⟨_, rfl, _, rfl, o, _, rfl, DPut.t c1 hta8 ?_, ?_⟩
      · rw [List.length_map, List.length_take]
        have := doors_lenG sz
        exact small1000 (by omega)
      · exact ⟨_, rfl, by rw [upd_same, bare_take _ _ _ _ ek], fun b ob e n => by rw [upd_ne n]; exact c2 b ob e n⟩
    · rintro σ H8 ⟨v4, rfl, c1, c2⟩
      have c1' : H8 o = some (.dT (bare wd hg)) := by rw [c1, tl.length, List.take_length]; rfl
      have s8 : Same H H8 := fun b ob e => c2 b ob (s7 _ _ (s6 _ _ (s1 b ob e))) (ne_of_none (s1 b ob e) ho)
      have dr := dr_draw (bare_tab wd hg)
      refine ⟨_, rfl, _, rfl, _, rfl, o, wd, hg, _, rfl, c1', bare_tab wd hg, sz, fun l9 H9 nl9 hL9 s9 => ?_⟩
      refine k l9 _ H9 (s8.trans s9) hL9 ⟨bound_of (by rw [dr.len]; omega) (fun r hr => by rw [dr.rl r hr]; omega), ?_⟩
      obtain ⟨r, hr⟩ : ∃ r, (drawS wd hg (bare wd hg))[0]? = some r := ⟨_, List.getElem?_eq_getElem (by rw [dr.len]; omega)⟩
      exact bad_size dr.nl (List.mem_of_getElem? hr) (dr.rl r (List.mem_of_getElem? hr)) dr.len w1 h1 ns
theorem pick_of (z : Str) (n : Nat) (f : Nat → Bool) (h : ∀ k < n, (match z.cps.toList[k]? with | some c => f c | none => false) = true) {k : Nat} (hk : k < n) : ∃ c, z.cps.toList[k]? = some c ∧ f c = true := by
  have := h k hk
  cases e : z.cps.toList[k]? with
  | none => rw [e] at this; cases this
  | some c => rw [e] at this; exact ⟨c, rfl, this⟩
theorem im (a b : Nat) : (a : Int) % (b : Int) = ((a % b : Nat) : Int) := (Int.natCast_emod a b).symm
theorem put_len (r : Str) (a c : Nat) : (putS r a c).length = r.length := by
  show (r.cps.toList.set a c).toArray.size = r.cps.size
  rw [List.size_toArray, List.length_set, Array.length_toList]
section
variable {w h : Nat} {R : List Str}
theorem Dr.at {d : Nat} (D : Dr w h R) (hd : d < 2 * h - 1) : ∃ r, R[d]? = some r ∧ r.length = 2 * w - 1 ∧ 10 ∉ r.cps.toList := by
  obtain ⟨r, hr⟩ : ∃ r, R[d]? = some r := ⟨_, List.getElem?_eq_getElem (by rw [D.len]; exact hd)⟩
  exact ⟨r, hr, D.rl r (List.mem_of_getElem? hr), D.nl r (List.mem_of_getElem? hr)⟩
theorem Dr.few (D : Dr w h R) (sz : okSize w h) : R.length ≤ 100 ∧ ∀ r ∈ R, r.length ≤ 100 := by
  obtain ⟨a, b, c, d, _⟩ := sz
  exact ⟨by rw [D.len]; omega, fun r hr => by rw [D.rl r hr]; omega⟩
theorem bad_put (D : Dr w h R) (sz : okSize w h) {d a c : Nat} {r : Str} (er : R[d]? = some r) (ha : a < 2 * w - 1) (hc : c ≠ 10) (hm : mapc c ≠ bareN d a) : Bad (R.set d (putS r a c)) := by
  obtain ⟨f1, f2⟩ := D.few sz
  refine ⟨bound_of (by rw [List.length_set]; omega) fun x hx => ?_, put_bad D er ha hc hm⟩
  rcases mem_set' hx with hx | rfl
  · have := f2 x hx
    omega
  · rw [put_len]
    have := f2 r (List.mem_of_getElem? er)
    omega
theorem bad_map (D : Dr w h R) (sz : okSize w h) {g : Str → Str} (hg : ∀ r ∈ R, (g r).length = r.length + 1 ∧ 10 ∉ (g r).cps.toList) : Bad (R.map g) := by
  obtain ⟨f1, f2⟩ := D.few sz
  obtain ⟨a1, _, a3, _⟩ := sz
  obtain ⟨r, hr, lr, _⟩ := D.at (d := 0) (by omega)
  have hm := List.mem_of_getElem? hr
  refine ⟨bound_of (by rw [List.length_map]; omega) fun x hx => ?_, bad_row (fun p hp => ?_) (List.mem_map.mpr ⟨r, hm, rfl⟩) (by rw [(hg r hm).1, lr]; omega)⟩
  · obtain ⟨y, hy, rfl⟩ := List.mem_map.mp hx
    rw [(hg y hy).1]
    have := f2 y hy
    omega
  · obtain ⟨y, hy, rfl⟩ := List.mem_map.mp hp
    exact (hg y hy).2
theorem bad_set (D : Dr w h R) (sz : okSize w h) {d : Nat} {y : Str} (hd : d < R.length) (he : y.length % 2 = 0) (hl : y.length ≤ 1000) (hn : 10 ∉ y.cps.toList) : Bad (R.set d y) := by
  obtain ⟨f1, f2⟩ := D.few sz
  refine ⟨bound_of (by rw [List.length_set]; omega) fun x hx => ?_, bad_row (fun p hp => ?_) (List.mem_of_getElem? (i := d) (by rw [List.getElem?_set_self hd])) he⟩
  · rcases mem_set' hx with hx | rfl
    · have := f2 x hx
      omega
    · exact hl
  · rcases mem_set' hp with hp | rfl
    · exact D.nl p hp
    · exact hn
theorem bad_many (D : Dr w h R) (sz : okSize w h) {B : List Str} (he : B.length % 2 = 0) (hl : B.length ≤ 1000) (hm : ∀ r ∈ B, r ∈ R ∨ (r.length ≤ 1 ∧ 10 ∉ r.cps.toList)) : Bad B := by
  obtain ⟨f1, f2⟩ := D.few sz
  refine ⟨bound_of hl fun r hr => ?_, bad_even (fun r hr => ?_) he⟩
  · rcases hm r hr with h1 | h1
    · have := f2 r h1
      omega
    · omega
  · rcases hm r hr with h1 | h1
    · exact D.nl r h1
    · exact h1.2
theorem bad_empty (D : Dr w h R) (sz : okSize w h) {B : List Str} (hl : B.length ≤ 1000) (hm : ∀ r ∈ B, r ∈ R ∨ r = "") (he : ("" : Str) ∈ B) : Bad B := by
  obtain ⟨f1, f2⟩ := D.few sz
  refine ⟨bound_of hl fun r hr => ?_, bad_row (fun r hr => ?_) he (by decide +kernel)⟩
  · rcases hm r hr with h1 | rfl
    · have := f2 r h1
      omega
    · decide
  · rcases hm r hr with h1 | rfl
    · exact D.nl r h1
    · decide +kernel
theorem bad_swap (D : Dr w h R) (sz : okSize w h) (h1 : 1 < h) {r0 r1 : Str} (e0 : R[0]? = some r0) (e1 : R[1]? = some r1) : Bad ([r1, r0] ++ R.drop 2) := by
  obtain ⟨f1, f2⟩ := D.few sz
  obtain ⟨a1, _⟩ := sz
  have hm : ∀ r ∈ [r1, r0] ++ R.drop 2, r ∈ R := fun r hr => by
    rcases List.mem_append.mp hr with hr | hr
    · simp only [List.mem_cons, List.not_mem_nil, or_false] at hr
      rcases hr with rfl | rfl
      · exact List.mem_of_getElem? e1
      · exact List.mem_of_getElem? e0
    · exact List.mem_of_mem_drop hr
  have l1 := D.rl r1 (List.mem_of_getElem? e1)
  obtain ⟨c, hc⟩ : ∃ c, r1.cps.toList[0]? = some c := ⟨_, List.getElem?_eq_getElem (by rw [Array.length_toList]; show 0 < r1.length; omega)⟩
  refine ⟨bound_of (by rw [List.length_append, List.length_drop]; show 2 + _ ≤ _; omega) (fun r hr => ?_), bad_sign (fun r hr => D.nl r (hm r hr)) (d := 0) (a := 0) (r := r1) (c := c) rfl hc ?_⟩
  · have := f2 r (hm r hr)
    omega
  · rw [D.ch 1 r1 0 c e1 hc]
    decide
end
theorem bad_one : ∀ k < 5, ∃ x : Str, ([("" : Str), "\n", " ", "+", "."])[k]? = some x ∧ Bad [x] := by
  have one : ∀ x : Str, x.length ≤ 1000 → bound [x] := fun x hx => bound_of (by show 1 ≤ 1000; decide) fun r hr => by rw [List.mem_singleton.mp hr]; exact hx
  have sign : ∀ (x : Str) (c : Nat), x = ⟨#[c]⟩ → c ≠ 10 → mapc c ≠ 111 → Bad [x] := fun x c e h1 h2 => by
    subst e
    refine ⟨one _ (by show 1 ≤ 1000; decide), bad_sign (B := [⟨#[c]⟩]) (fun p hp hm => ?_) (d := 0) (a := 0) (c := c) (r := ⟨#[c]⟩) rfl rfl h2⟩
    rw [List.mem_singleton.mp hp] at hm
    have hm' : 10 = c := by simpa using hm
    exact h1 hm'.symm
  intro k hk
  have h5 : k = 0 ∨ k = 1 ∨ k = 2 ∨ k = 3 ∨ k = 4 := by omega
  rcases h5 with rfl | rfl | rfl | rfl | rfl
  · refine ⟨"", rfl, one _ (by decide), bad_row (B := [""]) (fun p hp => ?_) (List.mem_singleton.mpr rfl) (by decide +kernel)⟩
    rw [List.mem_singleton.mp hp]
    decide +kernel
  · refine ⟨"\n", rfl, one _ (by decide), ?_⟩
    have e : Txt.join "\n" ["\n"] = Txt.join "\n" ["", ""] := by decide +kernel
    rw [e]
    exact bad_even (fun p hp => by simp only [List.mem_cons, List.not_mem_nil, or_false, or_self] at hp; rw [hp]; decide +kernel) rfl
  · exact ⟨" ", rfl, sign " " 32 (by decide +kernel) (by decide) (by decide +kernel)⟩
  · exact ⟨"+", rfl, sign "+" 43 (by decide +kernel) (by decide) (by decide +kernel)⟩
  · exact ⟨".", rfl, sign "." 46 (by decide +kernel) (by decide) (by decide +kernel)⟩
def spSpoiled : Sp := fun vs H Q _ => ∃ (l : Addr) (way cl w h : Nat) (kvs : List (List Key × V)), vs = [.ref l, .int way, .int cl, .int w, .int h] ∧ H l = some (.lst ((drawS w h kvs).map V.str)) ∧ okSize w h ∧ Tab w h kvs ∧ way < 13 ∧
  ∀ (p : Addr) (B : List Str) (H' : Hp), Same H H' → H' p = some (.lst (B.map V.str)) → bound B → ¬ goodT (Txt.join "\n" B) → Q (.ref p) H'
theorem sc_law_spoiled : FnScope ["rows", "way", "cell", "wide", "high", "dot", "along", "some", "down", "longer"] ["rows", "way", "cell", "wide", "high"] (defScope s_law_spoiled) := ⟨rfl, rfl, rfl, by decide +kernel, rfl, by decide +kernel, by decide +kernel⟩
theorem ok_law_spoiled {f : Addr} {fd : FuncData} (F : Fun K "_law_spoiled" "_law_spoiled" s_law_spoiled f fd) (T : Txt K mg C) (DP : DefAt P w K mg base 1 "_law_put" ["rows", "down", "along", "sign"] spPut) (DL : DefAt P w K mg base 2 "_law_large" ["cell"] spLarge) :
    FnOk P w K mg base CX0 3 f fd ["rows", "way", "cell", "wide", "high"] spSpoiled := by
  refine F.okq sc_law_spoiled (fun vs H Q E h => ?_) (fun cdv A outer s H vs Q E hr h => ?_)
  · obtain ⟨l, way, cl, wd, hg, kvs, rfl, _⟩ := h
    rfl
  · obtain ⟨l, way, cl, wd, hg, kvs, rfl, hL, sz, tb, hway, k⟩ := h
    have D := dr_draw tb
    generalize drawS wd hg kvs = R at hL D
    obtain ⟨w1, w2, h1, h2, wh⟩ := id sz
    obtain ⟨f1, f2⟩ := D.few sz
    refine ⟨_, qss_cons (ps_set (i := 5) sc_law_spoiled.nd rfl (Or.inl rfl) (pe_lst (pa (pe_op op_mul pe_int (pe_op op_mod (pv 2) (pv 4))) (pa (pe_op op_mul pe_int (pe_op op_mod (pe_op op_fdiv (pv 2) pe_int) (pv 3))) pa_nil))))
      (qss_cons (ps_cut (ps_ifq (PW.pt (pw_and (pt_cmpR op_eq (pv 1) pe_int (nomark _)) (pw_and (pt_cmpR op_gt (pv 3) pe_int (nomark _)) (pw_and1 (pt_cmpR op_gt (pv 4) pe_int (nomark _))))))
        (qss_cons (ps_set (i := 6) sc_law_spoiled.nd rfl (Or.inl rfl) (pe_op op_add pe_int (pe_op op_mul pe_int (pe_op op_mod (pe_op op_fdiv (pv 2) pe_int) (pe_op op_sub (pv 3) pe_int)))))
        (qss_one (ps_ret (pe_def DP hr (pa (pv 0) (pa (pe_op op_add pe_int (pe_op op_mul pe_int (pe_op op_mod (pv 2) (pe_op op_sub (pv 4) pe_int)))) (pa (pv 6) (pa (pe_ix ix_str pe_str (pe_op op_mod (pe_op op_fdiv (pv 2) pe_int) pe_int) (fun _ _ => rfl)) pa_nil)))))))) qss_nil))
      (qss_cons (ps_cut (ps_ifq (PW.pt (pw_and (pt_cmpR op_eq (pv 1) pe_int (nomark _)) (pw_and1 (pt_cmpR op_gt (pv 3) pe_int (nomark _)))))
        (qss_one (ps_ret (pe_def DP hr (pa (pv 0) (pa (pe_ix ix_list (pv 5) pe_int (fun _ _ => rfl)) (pa (pe_op op_add pe_int (pe_op op_mul pe_int (pe_op op_mod (pe_op op_fdiv (pv 2) pe_int) (pe_op op_sub (pv 3) pe_int)))) (pa (pe_ix ix_str pe_str (pe_op op_mod (pe_op op_fdiv (pv 2) pe_int) pe_int) (fun _ _ => rfl)) pa_nil))))))) qss_nil))
      (qss_cons (ps_cut (ps_ifq (PW.pt (pw_and (pt_cmpR op_eq (pv 1) pe_int (nomark _)) (pw_and1 (pt_cmpR op_gt (pv 4) pe_int (nomark _)))))
        (qss_one (ps_ret (pe_def DP hr (pa (pv 0) (pa (pe_op op_add pe_int (pe_op op_mul pe_int (pe_op op_mod (pv 2) (pe_op op_sub (pv 4) pe_int)))) (pa (pe_ix ix_list (pv 5) pe_int (fun _ _ => rfl)) (pa (pe_ix ix_str pe_str (pe_op op_mod (pe_op op_fdiv (pv 2) pe_int) pe_int) (fun _ _ => rfl)) pa_nil))))))) qss_nil))
      (qss_cons (ps_cut (ps_ifq (pt_cmpR op_eq (pv 1) pe_int (nomark _))
        (qss_cons (ps_set (i := 7) sc_law_spoiled.nd rfl (Or.inr rfl) (pe_ix ix_list (pe_lst (pa pe_str (pa pe_str (pa pe_str pa_nil)))) (pe_op op_mod (pe_op op_fdiv (pv 2) pe_int) pe_int) (fun _ _ => rfl)))
        (qss_one (ps_ret (pe_comp (x := "row") (fvs := [("some", 7), ("cell", 2)]) rfl rfl rfl (by decide +kernel) (by decide +kernel) rfl ⟨rfl, rfl, trivial⟩ rfl ⟨⟨rfl, rfl, rfl⟩, ⟨rfl, rfl, rfl⟩, trivial⟩ (by decide +kernel) (pi_list (pv 0))
          (fun C' s' H' fp => pe_ifExp (pt_cmpR op_eq (pe_op op_mod (pe_op op_fdiv (pv 2) pe_int) pe_int) pe_int (nomark _)) (pe_op op_add_str (pv 0) (pv 1)) (pe_op op_add_str (pv 1) (pv 0))))))) qss_nil))
      (qss_cons (ps_cut (ps_set (i := 8) sc_law_spoiled.nd rfl (Or.inl rfl) (pe_op op_mod (pv 2) (pe_cb call_len_seq (by rfl) T.len PySem.boot_len (pa (pv 0) pa_nil)))))
      (qss_cons (ps_cut (ps_ifq (pt_cmpR op_eq (pv 1) pe_int (nomark _))
        (qss_cons (ps_set (i := 7) sc_law_spoiled.nd rfl (Or.inr rfl) (pe_ix ix_list (pe_lst (pa pe_str (pa pe_str (pa pe_str pa_nil)))) (pe_op op_mod (pe_op op_fdiv (pv 2) pe_int) pe_int) (fun _ _ => rfl)))
        (qss_cons (ps_set (i := 9) sc_law_spoiled.nd rfl (Or.inl rfl) (pe_ifExp (pt_cmpR op_eq (pe_op op_mod (pe_op op_fdiv (pv 2) pe_int) pe_int) pe_int (nomark _)) (pe_op op_add_str (pe_ix ix_list (pv 0) (pv 8) (fun _ _ => rfl)) (pv 7)) (pe_op op_add_str (pv 7) (pe_ix ix_list (pv 0) (pv 8) (fun _ _ => rfl)))))
        (qss_one (ps_ret (pe_op op_cat (pe_op op_cat (pe_slice sl_list (pv 0) po_none (po_some (pv 8))) (pe_lst (pa (pv 9) pa_nil))) (pe_slice sl_list (pv 0) (po_some (pe_op op_add (pv 8) pe_int)) po_none)))))) qss_nil))
      (qss_cons (ps_cut (ps_ifq (pt_cmpR op_eq (pv 1) pe_int (nomark _))
        (qss_one (ps_ret (pe_op op_cat (pe_op op_cat (pe_slice sl_list (pv 0) po_none (po_some (pv 8))) (pe_lst (pa (pe_slice sl_str (pe_ix ix_list (pv 0) (pv 8) (fun _ _ => rfl)) po_none (po_some (pe_un un_neg pe_int))) pa_nil))) (pe_slice sl_list (pv 0) (po_some (pe_op op_add (pv 8) pe_int)) po_none)))) qss_nil))
      (qss_cons (ps_cut (ps_ifq (pt_cmpR op_eq (pv 1) pe_int (nomark _))
        (qss_one (ps_ret (pe_op op_cat (pe_slice sl_list (pv 0) po_none (po_some (pv 8))) (pe_slice sl_list (pv 0) (po_some (pe_op op_add (pv 8) pe_int)) po_none)))) qss_nil))
      (qss_cons (ps_cut (ps_ifq (pt_cmpR op_eq (pv 1) pe_int (nomark _))
        (qss_one (ps_ret (pe_op op_cat (pe_op op_cat (pe_slice sl_list (pv 0) po_none (po_some (pv 8))) (pe_lst (pa (pe_ix ix_list (pv 0) (pv 8) (fun _ _ => rfl)) pa_nil))) (pe_slice sl_list (pv 0) (po_some (pv 8)) po_none)))) qss_nil))
      (qss_cons (ps_cut (ps_ifq (pt_cmpR op_eq (pv 1) pe_int (nomark _))
        (qss_one (ps_ret (pe_ix ix_list (pe_lst (pa (pe_op op_cat (pv 0) (pe_lst (pa pe_str pa_nil))) (pa (pe_op op_cat (pv 0) (pe_lst (pa pe_str pa_nil))) (pa (pe_op op_cat (pe_lst (pa pe_str pa_nil)) (pv 0)) (pa (pe_op op_cat (pv 0) (pe_lst (pa pe_str (pa pe_str pa_nil)))) (pa (pe_op op_cat (pe_lst (pa pe_str (pa pe_str pa_nil))) (pv 0)) pa_nil))))))
          (pe_op op_mod (pe_op op_fdiv (pv 2) pe_int) pe_int) (fun _ _ => rfl)))) qss_nil))
      (qss_cons (ps_cut (ps_ifq (PW.pt (pw_and (pt_cmpR op_eq (pv 1) pe_int (nomark _)) (pw_and1 (pt_cmpR op_gt (pv 4) pe_int (nomark _)))))
        (qss_one (ps_ret (pe_op op_cat (pe_lst (pa (pe_ix ix_list (pv 0) pe_int (fun _ _ => rfl)) (pa (pe_ix ix_list (pv 0) pe_int (fun _ _ => rfl)) pa_nil))) (pe_slice sl_list (pv 0) (po_some pe_int) po_none)))) qss_nil))
      (qss_cons (ps_cut (ps_ifq (pt_cmpR op_eq (pv 1) pe_int (nomark _)) (qss_one (ps_ret (pe_def DL hr (pa (pv 2) pa_nil)))) qss_nil))
      (qss_cons (ps_cut (ps_ifq (pt_cmpR op_eq (pv 1) pe_int (nomark _))
        (qss_one (ps_ret (pe_lst (pa (pe_ix ix_list (pe_lst (pa pe_str (pa pe_str (pa pe_str (pa pe_str (pa pe_str pa_nil)))))) (pe_op op_mod (pv 2) pe_int) (fun _ _ => rfl)) pa_nil)))) qss_nil))
      (qss_one (ps_ret (pe_def DP hr (pa (pv 0) (pa (pe_ix ix_list (pv 5) pe_int (fun _ _ => rfl)) (pa (pe_ix ix_list (pv 5) pe_int (fun _ _ => rfl)) (pa (pe_ix ix_str pe_str (pe_op op_mod (pe_op op_fdiv (pv 2) pe_int) pe_int) (fun _ _ => rfl)) pa_nil)))))))))))))))))))), ?_⟩
    have hk : ∀ (p : Addr) (B : List Str) (H' : Hp), Same H H' → H' p = some (.lst (B.map V.str)) → Bad B → Q (.ref p) H' := fun p B H' s hp b => k p B H' s hp b.1 b.2
    have put : ∀ {H1 : Hp} {x y : Int} {d a c : Nat}, Same H H1 → x = (d : Int) → y = (a : Int) → d < 2 * hg - 1 → a < 2 * wd - 1 → c ≠ 10 → mapc c ≠ bareN d a → spPut [.ref l, .int x, .int y, .str ⟨#[c]⟩] H1 Q E0 := fun {H1 x y d a c} s1 ex ey hd ha hc hm => by
      subst ex ey
      obtain ⟨r, er, lr, _⟩ := D.at hd
      exact ⟨l, R, d, a, c, r, rfl, s1 _ _ hL, er, by omega, by omega, by omega, fun p H' s' hp => hk p _ H' (s1.trans s') hp (bad_put D sz er ha hc hm)⟩
    have e37 : (cl : Int) / 37 = ((cl / 37 : Nat) : Int) := by omega
    have e5 : ∀ n : Nat, (cl : Int) / 5 % (n : Int) = ((cl / 5 % n : Nat) : Int) := fun n => by rw [← im]; rfl
    have m1 : cl % hg < hg := Nat.mod_lt _ (by omega)
    have m2 : cl / 37 % wd < wd := Nat.mod_lt _ (by omega)
    refine ⟨_, rfl, _, rfl, _, _, rfl, rfl, (by show (0 : Int) < hg; omega), _, _, rfl, rfl, .inl ⟨by decide, by decide⟩, _, rfl, _, _, rfl, rfl, ⟨by decide, by decide⟩, _, rfl, _, _, rfl, rfl, (by show (0 : Int) < wd; omega), _, _, rfl, rfl, .inl ⟨by decide, by decide⟩, (by show 2 ≤ sizeLine; decide), fun ld nld => ?_⟩
    generalize hH1 : upd H ld _ = H1
    have s1 : Same H H1 := by rw [← hH1]; exact Same.new (Same.refl H) nld
    have hd1 : H1 ld = some (.lst [.int (2 * ((cl : Int) % (hg : Int))), .int (2 * ((cl : Int) / 37 % (wd : Int)))]) := by rw [← hH1]; exact upd_same
    clear hH1
    have hL1 : H1 l = some (.lst (R.map V.str)) := s1 _ _ hL
    refine ⟨fun σ' H' => σ' = [some (.ref l), some (.int way), some (.int cl), some (.int wd), some (.int hg), some (.ref ld), none, none, none, none] ∧ H' = H1, ?_, ?_⟩
    · refine ⟨_, rfl, rfl, _, rfl, ?_⟩
      by_cases e : way = 1
      · refine iteE (by rw [e]; rfl) ?_
        refine ⟨_, rfl, _, _, rfl, rfl, _, rfl, ?_⟩
        refine ite2 (fun c1 => ?_) (fun c1 => iteF ⟨rfl, rfl⟩)
        have c1 := of_decide_eq_true c1
        refine ⟨_, rfl, _, _, rfl, rfl, _, rfl, ?_⟩
        refine ite2 (fun c2 => ?_) (fun c2 => ⟨rfl, rfl⟩)
        have c2 := of_decide_eq_true c2
        refine ⟨_, rfl, _, _, rfl, rfl, ⟨by decide, by decide⟩, _, rfl, _, _, rfl, rfl, _, _, rfl, rfl, (by show (0 : Int) < (wd : Int) - 1; omega), _, _, rfl, rfl, .inl ⟨by decide, by decide⟩, _, _, rfl, rfl, ?_⟩
        obtain ⟨c, hc, fc⟩ := pick_of "o.-| " 5 (fun c => decide (c ≠ 10) && decide (mapc c ≠ 43)) (by decide +kernel) (k := cl / 5 % 5) (by omega)
        rw [Bool.and_eq_true] at fc
        refine ⟨_, rfl, _, rfl, _, rfl, _, _, rfl, rfl, _, _, rfl, rfl, (by show (0 : Int) < (hg : Int) - 1; omega), _, _, rfl, rfl, .inl ⟨by decide, by decide⟩, _, _, rfl, rfl, _, rfl, _, rfl, _, _, rfl, rfl, ⟨by decide, by decide⟩, _, _, rfl, rfl, (by show (0 : Int) < 5; decide), _, _, c, rfl, rfl, by decide, ?_, ?_⟩
        · refine Eq.trans ?_ (atI_nat hc)
          congr 1
        · have ma : cl % (hg - 1) < hg - 1 := Nat.mod_lt _ (by omega)
          have mb : cl / 37 % (wd - 1) < wd - 1 := Nat.mod_lt _ (by omega)
          refine put (d := 1 + 2 * (cl % (hg - 1))) (a := 1 + 2 * (cl / 37 % (wd - 1))) (c := c) s1 ?_ ?_ (by omega) (by omega) (of_decide_eq_true fc.1) ?_
          · rw [show ((hg : Int) - 1) = ((hg - 1 : Nat) : Int) by omega, im]; omega
          · rw [show ((wd : Int) - 1) = ((wd - 1 : Nat) : Int) by omega, e37, im]; omega
          · rw [show bareN (1 + 2 * (cl % (hg - 1))) (1 + 2 * (cl / 37 % (wd - 1))) = 43 by unfold bareN; rw [if_neg (by omega), if_neg (by omega)]]
            exact of_decide_eq_true fc.2
      · exact iteN (fun z => e (by have := V.int.inj z; omega)) (iteF ⟨rfl, rfl⟩)
    rintro _ H1 ⟨rfl, rfl⟩
    refine ⟨fun σ' H' => σ' = [some (.ref l), some (.int way), some (.int cl), some (.int wd), some (.int hg), some (.ref ld), none, none, none, none] ∧ H' = H1, ?_, ?_⟩
    · refine ⟨_, rfl, rfl, _, rfl, ?_⟩
      by_cases e : way = 2
      · refine iteE (by rw [e]; rfl) ?_
        refine ⟨_, rfl, _, _, rfl, rfl, _, rfl, ?_⟩
        refine ite2 (fun c1 => ?_) (fun c1 => ⟨rfl, rfl⟩)
        have c1 := of_decide_eq_true c1
        obtain ⟨c, hc, fc⟩ := pick_of "o+ x_/" 6 (fun c => decide (c ≠ 10) && decide (mapc c ≠ 46)) (by decide +kernel) (k := cl / 5 % 6) (by omega)
        rw [Bool.and_eq_true] at fc
        refine ⟨_, rfl, _, rfl, ld, _, _, _, rfl, rfl, SqL.of hd1, rfl, _, rfl, _, _, rfl, rfl, ⟨by decide, by decide⟩, _, rfl, _, _, rfl, rfl, _, _, rfl, rfl, (by show (0 : Int) < (wd : Int) - 1; omega), _, _, rfl, rfl, .inl ⟨by decide, by decide⟩, _, _, rfl, rfl,
          _, rfl, _, _, rfl, rfl, ⟨by decide, by decide⟩, _, _, rfl, rfl, (by show (0 : Int) < 6; decide), _, _, c, rfl, rfl, by decide, ?_, ?_⟩
        · refine Eq.trans ?_ (atI_nat hc)
          congr 1
        · have mb : cl / 37 % (wd - 1) < wd - 1 := Nat.mod_lt _ (by omega)
          refine put (d := 2 * (cl % hg)) (a := 1 + 2 * (cl / 37 % (wd - 1))) (c := c) s1 ?_ ?_ (by omega) (by omega) (of_decide_eq_true fc.1) ?_
          · rw [im]; omega
          · rw [show ((wd : Int) - 1) = ((wd - 1 : Nat) : Int) by omega, e37, im]; omega
          · rw [show bareN (2 * (cl % hg)) (1 + 2 * (cl / 37 % (wd - 1))) = 46 by unfold bareN; rw [if_pos (by omega), if_neg (by omega)]]
            exact of_decide_eq_true fc.2
      · exact iteN (fun z => e (by have := V.int.inj z; omega)) (iteF ⟨rfl, rfl⟩)
    rintro _ H1 ⟨rfl, rfl⟩
    refine ⟨fun σ' H' => σ' = [some (.ref l), some (.int way), some (.int cl), some (.int wd), some (.int hg), some (.ref ld), none, none, none, none] ∧ H' = H1, ?_, ?_⟩
    · refine ⟨_, rfl, rfl, _, rfl, ?_⟩
      by_cases e : way = 3
      · refine iteE (by rw [e]; rfl) ?_
        refine ⟨_, rfl, _, _, rfl, rfl, _, rfl, ?_⟩
        refine ite2 (fun c1 => ?_) (fun c1 => ⟨rfl, rfl⟩)
        have c1 := of_decide_eq_true c1
        obtain ⟨c, hc, fc⟩ := pick_of "o+ x=\t" 6 (fun c => decide (c ≠ 10) && decide (mapc c ≠ 46)) (by decide +kernel) (k := cl / 5 % 6) (by omega)
        rw [Bool.and_eq_true] at fc
        refine ⟨_, rfl, _, rfl, _, rfl, _, _, rfl, rfl, _, _, rfl, rfl, (by show (0 : Int) < (hg : Int) - 1; omega), _, _, rfl, rfl, .inl ⟨by decide, by decide⟩, _, _, rfl, rfl, _, rfl, ld, _, _, _, rfl, rfl, SqL.of hd1, rfl,
          _, rfl, _, _, rfl, rfl, ⟨by decide, by decide⟩, _, _, rfl, rfl, (by show (0 : Int) < 6; decide), _, _, c, rfl, rfl, by decide, ?_, ?_⟩
        · refine Eq.trans ?_ (atI_nat hc)
          congr 1
        · have mb : cl % (hg - 1) < hg - 1 := Nat.mod_lt _ (by omega)
          refine put (d := 1 + 2 * (cl % (hg - 1))) (a := 2 * (cl / 37 % wd)) (c := c) s1 ?_ ?_ (by omega) (by omega) (of_decide_eq_true fc.1) ?_
          · rw [show ((hg : Int) - 1) = ((hg - 1 : Nat) : Int) by omega, im]; omega
          · rw [e37, im]; omega
          · rw [show bareN (1 + 2 * (cl % (hg - 1))) (2 * (cl / 37 % wd)) = 46 by unfold bareN; rw [if_neg (by omega), if_pos (by omega)]]
            exact of_decide_eq_true fc.2
      · exact iteN (fun z => e (by have := V.int.inj z; omega)) (iteF ⟨rfl, rfl⟩)
    rintro _ H1 ⟨rfl, rfl⟩
    have pick3 : ∃ x : Str, ([V.str ".", V.str " ", V.str "\t"])[cl / 5 % 3]? = some (V.str x) ∧ x.length = 1 ∧ 10 ∉ x.cps.toList := by
      have h3 : cl / 5 % 3 = 0 ∨ cl / 5 % 3 = 1 ∨ cl / 5 % 3 = 2 := by omega
      rcases h3 with e | e | e <;> rw [e]
      · exact ⟨".", rfl, by decide, by decide +kernel⟩
      · exact ⟨" ", rfl, by decide, by decide +kernel⟩
      · exact ⟨"\t", rfl, by decide, by decide +kernel⟩
    obtain ⟨x, hx, lx, nx⟩ := pick3
    have hx' : atI [V.str ".", V.str " ", V.str "\t"] ((cl : Int) / 5 % 3) = some (V.str x) := by
      refine Eq.trans ?_ (atI_nat hx)
      congr 1
    have nlx : ∀ r ∈ R, 10 ∉ (r ++ x).cps.toList ∧ 10 ∉ (x ++ r).cps.toList := fun r hr => by
      simp only [Str.cps_append, Array.toList_append, List.mem_append]
      exact ⟨fun z => z.elim (D.nl r hr) nx, fun z => z.elim nx (D.nl r hr)⟩
    have g : ∃ g : Str → Str, (∀ r, g r = if cl / 15 % 2 = 0 then r ++ x else x ++ r) := ⟨_, fun _ => rfl⟩
    obtain ⟨g, hg'⟩ := g
    have glen : ∀ r : Str, (g r).length = r.length + 1 := fun r => by
      rw [hg']
      split
      · rw [Str.length_append, lx]
      · rw [Str.length_append, lx]; omega
    have gnl : ∀ r ∈ R, 10 ∉ (g r).cps.toList := fun r hr => by
      rw [hg']
      split
      · exact (nlx r hr).1
      · exact (nlx r hr).2
    have gpar : ∀ (A B : Prop), (cl / 15 % 2 = 0 → A) → (¬ cl / 15 % 2 = 0 → B) → if decide (V.int ((cl : Int) / 15 % 2) = V.int 0) = true then A else B := fun A B ha hb => by
      by_cases z : cl / 15 % 2 = 0
      · exact iteE (congrArg V.int (by omega)) (ha z)
      · exact iteN (fun q => z (by have := V.int.inj q; omega)) (hb z)
    refine ⟨fun σ' H' => σ' = [some (.ref l), some (.int way), some (.int cl), some (.int wd), some (.int hg), some (.ref ld), none, none, none, none] ∧ H' = H1, ?_, ?_⟩
    · refine ⟨_, rfl, rfl, _, rfl, ?_⟩
      by_cases e : way = 12
      · refine iteE (by rw [e]; rfl) ?_
        refine ⟨(by show 3 ≤ sizeLine; decide), fun l2 n2 => ?_⟩
        refine ⟨_, rfl, _, _, rfl, rfl, ⟨by decide, by decide⟩, _, _, rfl, rfl, (by show (0 : Int) < 3; decide), l2, _, _, _, rfl, rfl, SqL.of upd_same, hx', ?_⟩
        have s2 : Same H1 (upd H1 l2 (.lst [V.str ".", V.str " ", V.str "\t"])) := Same.new (Same.refl _) n2
        generalize upd H1 l2 (.lst [V.str ".", V.str " ", V.str "\t"]) = H2 at s2
        have hL2 := s2 _ _ hL1
        refine ⟨_, rfl, l, rfl, ⟨_, SqL.of hL2⟩, fun E' hE => ?_⟩
        refine comp_list (K := K) (a := l) (xs := R.map V.str) (fun i zs H4 => H4 E' = some (.lst zs) ∧ zs = ((R.map g).take i).map V.str ∧ i ≤ R.length ∧ Same H2 H4) (by rw [List.length_map]; omega)
          ⟨upd_same, rfl, Nat.zero_le _, Same.new (Same.refl _) hE⟩ (fun i zs H4 hi ⟨u1, u2, _, u4⟩ => ⟨SqL.of (u4 _ _ hL2), u1, ?_⟩) ?_ ?_
        · rw [u2, List.length_map, List.length_take, List.length_map]
          rw [List.length_map] at hi
          omega
        · rintro i v zs H4 R' hi ⟨u1, u2, u3, u4⟩ hR
          rw [List.getElem?_map] at hi
          cases er : R[i]? with
          | none => rw [er] at hi; cases hi
          | some r =>
            rw [er] at hi
            cases hi
            have hr : r ∈ R := List.mem_of_getElem? er
            have lr := f2 r hr
            have hil : i < R.length := (List.getElem?_eq_some_iff.mp er).1
            have fin : R' (.str (g r)) H4 := hR _ _ u1 ⟨upd_same, by
              rw [u2, List.take_add_one, List.map_append, List.getElem?_map, er]
              rfl, hil, Same.own u4 hE⟩
            refine ⟨_, rfl, _, _, rfl, rfl, ⟨by decide, by decide⟩, _, _, rfl, rfl, (by show (0 : Int) < 2; decide), rfl, _, rfl, ?_⟩
            refine gpar _ _ (fun z => ⟨_, rfl, _, rfl, _, _, rfl, rfl, (by rw [lx, sizeLine_eq]; omega), ?_⟩) (fun z => ⟨_, rfl, _, rfl, _, _, rfl, rfl, (by rw [lx, sizeLine_eq]; omega), ?_⟩)
            · rw [hg', if_pos z] at fin
              exact fin
            · rw [hg', if_neg z] at fin
              exact fin
        · rintro zs H4 ⟨u1, u2, _, u4⟩
          rw [List.length_map, List.take_of_length_le (by rw [List.length_map]; exact Nat.le_refl _)] at u2
          subst u2
          exact hk E' _ H4 (s1.trans (s2.trans u4)) u1 (bad_map D sz fun r hr => ⟨glen r, gnl r hr⟩)
      · exact iteN (fun z => e (by have := V.int.inj z; omega)) ⟨rfl, rfl⟩
    rintro _ H1 ⟨rfl, rfl⟩
    have lR : R.length = 2 * hg - 1 := D.len
    have lV : (R.map V.str).length = R.length := List.length_map ..
    have hdn : cl % R.length < R.length := Nat.mod_lt _ (by omega)
    have edn : (cl : Int) % (((R.map V.str).length : Nat) : Int) = ((cl % R.length : Nat) : Int) := by rw [lV, im]
    refine ⟨fun σ' H' => σ' = [some (.ref l), some (.int way), some (.int cl), some (.int wd), some (.int hg), some (.ref ld), none, none, some (.int ((cl % R.length : Nat) : Int)), none] ∧ H' = H1, ?_, ?_⟩
    · refine ⟨_, rfl, _, rfl, l, _, rfl, .inl (SqL.of hL1), _, _, rfl, rfl, (by show (0 : Int) < (((R.map V.str).length : Nat) : Int); omega), ?_, rfl⟩
      show [some (V.ref l), some (.int way), some (.int cl), some (.int wd), some (.int hg), some (.ref ld), none, none, some (.int ((cl : Int) % (((R.map V.str).length : Nat) : Int))), none] = _
      rw [edn]
    rintro _ H1 ⟨rfl, rfl⟩
    generalize cl % R.length = dn at hdn
    obtain ⟨r, er, lr, nlr⟩ := D.at (d := dn) (by omega)
    have erV : (R.map V.str)[dn]? = some (.str r) := by rw [List.getElem?_map, er]; rfl
    have lr100 := f2 r (List.mem_of_getElem? er)
    have dn1 : ((dn : Int) + 1) = ((dn + 1 : Nat) : Int) := by omega
    refine ⟨fun σ' H' => σ' = [some (.ref l), some (.int way), some (.int cl), some (.int wd), some (.int hg), some (.ref ld), none, none, some (.int (dn : Int)), none] ∧ H' = H1, ?_, ?_⟩
    · refine ⟨_, rfl, rfl, _, rfl, ?_⟩
      by_cases e : way = 4
      · refine iteE (by rw [e]; rfl) ?_
        refine ⟨(by show 3 ≤ sizeLine; decide), fun l2 n2 => ?_⟩
        refine ⟨_, rfl, _, _, rfl, rfl, ⟨by decide, by decide⟩, _, _, rfl, rfl, (by show (0 : Int) < 3; decide), l2, _, _, _, rfl, rfl, SqL.of upd_same, hx', ?_⟩
        have s2 : Same H1 (upd H1 l2 (.lst [V.str ".", V.str " ", V.str "\t"])) := Same.new (Same.refl _) n2
        generalize upd H1 l2 (.lst [V.str ".", V.str " ", V.str "\t"]) = H2 at s2
        have hL2 := s2 _ _ hL1
        have fin : ∀ y : Str, y = g r → ∀ (a1 : Addr), H2 a1 = none → ∀ (a2 : Addr), upd H2 a1 (.lst ((R.map V.str).take dn)) a2 = none → ∀ (a3 : Addr), upd (upd H2 a1 (.lst ((R.map V.str).take dn))) a2 (.lst [.str y]) a3 = none →
            ∀ (a4 : Addr), upd (upd (upd H2 a1 (.lst ((R.map V.str).take dn))) a2 (.lst [.str y])) a3 (.lst ((R.map V.str).take dn ++ [.str y])) a4 = none → ∀ (a5 : Addr),
            upd (upd (upd (upd H2 a1 (.lst ((R.map V.str).take dn))) a2 (.lst [.str y])) a3 (.lst ((R.map V.str).take dn ++ [.str y]))) a4 (.lst ((R.map V.str).drop (dn + 1))) a5 = none →
            Q (.ref a5) (upd (upd (upd (upd (upd H2 a1 (.lst ((R.map V.str).take dn))) a2 (.lst [.str y])) a3 (.lst ((R.map V.str).take dn ++ [.str y]))) a4 (.lst ((R.map V.str).drop (dn + 1)))) a5 (.lst ((R.map V.str).take dn ++ [.str y] ++ (R.map V.str).drop (dn + 1)))) := by
          intro y ey a1 n1 a2 n2 a3 n3 a4 n4 a5 n5
          refine hk a5 (R.set dn y) _ (s1.trans (s2.trans (Same.new (Same.new (Same.new (Same.new (Same.new (Same.refl _) n1) n2) n3) n4) n5))) ?_ (bad_set D sz hdn (by rw [ey, glen, lr]; omega) (by rw [ey, glen]; omega) (by rw [ey]; exact gnl r (List.mem_of_getElem? er)))
          rw [upd_same, put_list _ (by rw [lV]; exact hdn), List.map_set]
        have rest : ∀ y : Str, y = g r → tRet (tOp rCat (tOp rCat (tSl (rSlL K) (tVar 0) tNoPart (tPart (tVar 8))) (tLst (tCons (tVar 9) tNil))) (tSl (rSlL K) (tVar 0) (tPart (tOp (rI0 fun i j => .int (i + j)) (tVar 8) (tC (.int 1)))) tNoPart))
            { nx := fun _ _ => False, rt := Q } [some (.ref l), some (.int way), some (.int cl), some (.int wd), some (.int hg), some (.ref ld), none, some (.str x), some (.int (dn : Int)), some (.str y)] H2 := by
          intro y ey
          refine ⟨_, rfl, _, rfl, _, rfl, l, _, rfl, SqL.of hL2, fun a1 n1 => ?_⟩
          rw [cut_to (by omega)]
          refine ⟨_, rfl, (by show 1 ≤ sizeLine; decide), fun a2 n2 => ?_⟩
          have ne12 : a1 ≠ a2 := fun z => by rw [← z, upd_same] at n2; cases n2
          refine ⟨a1, a2, _, _, rfl, rfl, (by rw [upd_ne ne12]; exact upd_same), upd_same, ?_, fun a3 n3 => ?_⟩
          · rw [List.length_take, lV, sizeLine_eq]
            show _ + 1 ≤ _
            omega
          have s3 := Same.new (o := .lst ((R.map V.str).take dn ++ [.str y])) (Same.new (o := .lst [.str y]) (Same.new (o := .lst ((R.map V.str).take dn)) (Same.refl H2) n1) n2) n3
          refine ⟨_, rfl, _, rfl, _, _, rfl, rfl, _, rfl, l, _, rfl, SqL.of (s3 _ _ hL2), fun a4 n4 => ?_⟩
          rw [dn1, cut_from (by omega)]
          have ne34 : a3 ≠ a4 := fun z => by rw [← z, upd_same] at n4; cases n4
          refine ⟨a3, a4, _, _, rfl, rfl, (by rw [upd_ne ne34]; exact upd_same), upd_same, ?_, fun a5 n5 => fin y ey a1 n1 a2 n2 a3 n3 a4 n4 a5 n5⟩
          rw [List.length_append, List.length_take, List.length_drop, lV, sizeLine_eq]
          show _ + 1 + _ ≤ _
          omega
        refine ⟨_, rfl, _, _, rfl, rfl, ⟨by decide, by decide⟩, _, _, rfl, rfl, (by show (0 : Int) < 2; decide), rfl, _, rfl, ?_⟩
        refine gpar _ _ (fun z => ⟨_, rfl, _, rfl, l, _, _, _, rfl, rfl, SqL.of hL2, atI_nat erV, _, rfl, _, _, rfl, rfl, (by rw [lx, sizeLine_eq]; omega), ?_⟩) (fun z => ⟨_, rfl, _, rfl, _, rfl, l, _, _, _, rfl, rfl, SqL.of hL2, atI_nat erV, _, _, rfl, rfl, (by rw [lx, sizeLine_eq]; omega), ?_⟩)
        · exact rest (r ++ x) (by rw [hg', if_pos z])
        · exact rest (x ++ r) (by rw [hg', if_neg z])
      · exact iteN (fun z => e (by have := V.int.inj z; omega)) ⟨rfl, rfl⟩
    rintro _ H1 ⟨rfl, rfl⟩
    refine ⟨fun σ' H' => σ' = [some (.ref l), some (.int way), some (.int cl), some (.int wd), some (.int hg), some (.ref ld), none, none, some (.int (dn : Int)), none] ∧ H' = H1, ?_, ?_⟩
    · refine ⟨_, rfl, rfl, _, rfl, ?_⟩
      by_cases e : way = 5
      · refine iteE (by rw [e]; rfl) ?_
        have lz : r.length ≤ sizeLine := by rw [sizeLine_eq]; omega
        have ly : (cutT r 0 (r.length - 1)).length = r.length - 1 := by
          show ((r.cps.toList.drop 0).take (r.length - 1 - 0)).toArray.size = _
          rw [List.size_toArray, List.length_take, List.length_drop, Array.length_toList]
          show min (r.length - 1 - 0) (r.length - 0) = _
          omega
        have ny : 10 ∉ (cutT r 0 (r.length - 1)).cps.toList := fun z => by
          have z' : 10 ∈ (r.cps.toList.drop 0).take (r.length - 1 - 0) := by simpa [cutT] using z
          exact nlr (List.mem_of_mem_drop (List.mem_of_mem_take z'))
        refine ⟨_, rfl, _, rfl, _, rfl, l, _, rfl, SqL.of hL1, fun a1 n1 => ?_⟩
        rw [cut_to (by omega)]
        have t1 := Same.new (o := .lst ((R.map V.str).take dn)) (Same.refl H1) n1
        refine ⟨_, rfl, _, rfl, l, _, _, _, rfl, rfl, SqL.of (t1 _ _ hL1), atI_nat erV, _, rfl, _, rfl, r, 0, r.length - 1, rfl, Nat.zero_le _, by omega, lz, sl_but (by omega), (by show 1 ≤ sizeLine; decide), fun a2 n2 => ?_⟩
        generalize cutT r 0 (r.length - 1) = y at ly ny n2
        have ne12 : a1 ≠ a2 := fun z => by rw [← z, upd_same] at n2; cases n2
        refine ⟨a1, a2, _, _, rfl, rfl, (by rw [upd_ne ne12]; exact upd_same), upd_same, ?_, fun a3 n3 => ?_⟩
        · rw [List.length_take, lV, sizeLine_eq]
          show _ + 1 ≤ _
          omega
        have t3 := Same.new (o := .lst ((R.map V.str).take dn ++ [.str y])) (Same.new (o := .lst [.str y]) t1 n2) n3
        refine ⟨_, rfl, _, rfl, _, _, rfl, rfl, _, rfl, l, _, rfl, SqL.of (t3 _ _ hL1), fun a4 n4 => ?_⟩
        rw [dn1, cut_from (by omega)]
        have ne34 : a3 ≠ a4 := fun z => by rw [← z, upd_same] at n4; cases n4
        refine ⟨a3, a4, _, _, rfl, rfl, (by rw [upd_ne ne34]; exact upd_same), upd_same, ?_, fun a5 n5 => ?_⟩
        · rw [List.length_append, List.length_take, List.length_drop, lV, sizeLine_eq]
          show _ + 1 + _ ≤ _
          omega
        refine hk a5 (R.set dn y) _ (s1.trans (Same.new (Same.new t3 n4) n5)) ?_ (bad_set D sz hdn (by rw [ly, lr]; omega) (by omega) ny)
        rw [upd_same, put_list _ (by rw [lV]; exact hdn), List.map_set]
      · exact iteN (fun z => e (by have := V.int.inj z; omega)) ⟨rfl, rfl⟩
    rintro _ H1 ⟨rfl, rfl⟩
    refine ⟨fun σ' H' => σ' = [some (.ref l), some (.int way), some (.int cl), some (.int wd), some (.int hg), some (.ref ld), none, none, some (.int (dn : Int)), none] ∧ H' = H1, ?_, ?_⟩
    · refine ⟨_, rfl, rfl, _, rfl, ?_⟩
      by_cases e : way = 6
      · refine iteE (by rw [e]; rfl) ?_
        refine ⟨_, rfl, _, rfl, _, rfl, l, _, rfl, SqL.of hL1, fun a1 n1 => ?_⟩
        rw [cut_to (by omega)]
        have t1 := Same.new (o := .lst ((R.map V.str).take dn)) (Same.refl H1) n1
        refine ⟨_, rfl, _, rfl, _, _, rfl, rfl, _, rfl, l, _, rfl, SqL.of (t1 _ _ hL1), fun a2 n2 => ?_⟩
        rw [dn1, cut_from (by omega)]
        have ne12 : a1 ≠ a2 := fun z => by rw [← z, upd_same] at n2; cases n2
        refine ⟨a1, a2, _, _, rfl, rfl, (by rw [upd_ne ne12]; exact upd_same), upd_same, ?_, fun a3 n3 => ?_⟩
        · rw [List.length_take, List.length_drop, lV, sizeLine_eq]
          omega
        refine hk a3 (R.take dn ++ R.drop (dn + 1)) _ (s1.trans (Same.new (Same.new t1 n2) n3)) (by rw [upd_same, List.map_append, List.map_take, List.map_drop]) (bad_many D sz ?_ ?_ fun y hy => .inl ?_)
        · rw [List.length_append, List.length_take, List.length_drop]; omega
        · rw [List.length_append, List.length_take, List.length_drop]; omega
        · rcases List.mem_append.mp hy with hy | hy
          · exact List.mem_of_mem_take hy
          · exact List.mem_of_mem_drop hy
      · exact iteN (fun z => e (by have := V.int.inj z; omega)) ⟨rfl, rfl⟩
    rintro _ H1 ⟨rfl, rfl⟩
    refine ⟨fun σ' H' => σ' = [some (.ref l), some (.int way), some (.int cl), some (.int wd), some (.int hg), some (.ref ld), none, none, some (.int (dn : Int)), none] ∧ H' = H1, ?_, ?_⟩
    · refine ⟨_, rfl, rfl, _, rfl, ?_⟩
      by_cases e : way = 7
      · refine iteE (by rw [e]; rfl) ?_
        refine ⟨_, rfl, _, rfl, _, rfl, l, _, rfl, SqL.of hL1, fun a1 n1 => ?_⟩
        rw [cut_to (by omega)]
        have t1 := Same.new (o := .lst ((R.map V.str).take dn)) (Same.refl H1) n1
        refine ⟨_, rfl, _, rfl, l, _, _, _, rfl, rfl, SqL.of (t1 _ _ hL1), atI_nat erV, (by show 1 ≤ sizeLine; decide), fun a2 n2 => ?_⟩
        have ne12 : a1 ≠ a2 := fun z => by rw [← z, upd_same] at n2; cases n2
        refine ⟨a1, a2, _, _, rfl, rfl, (by rw [upd_ne ne12]; exact upd_same), upd_same, ?_, fun a3 n3 => ?_⟩
        · rw [List.length_take, lV, sizeLine_eq]
          show _ + 1 ≤ _
          omega
        have t3 := Same.new (o := .lst ((R.map V.str).take dn ++ [.str r])) (Same.new (o := .lst [.str r]) t1 n2) n3
        refine ⟨_, rfl, _, rfl, _, rfl, l, _, rfl, SqL.of (t3 _ _ hL1), fun a4 n4 => ?_⟩
        rw [cut_from (by omega)]
        have ne34 : a3 ≠ a4 := fun z => by rw [← z, upd_same] at n4; cases n4
        refine ⟨a3, a4, _, _, rfl, rfl, (by rw [upd_ne ne34]; exact upd_same), upd_same, ?_, fun a5 n5 => ?_⟩
        · rw [List.length_append, List.length_take, List.length_drop, lV, sizeLine_eq]
          show _ + 1 + _ ≤ _
          omega
        refine hk a5 (R.take dn ++ [r] ++ R.drop dn) _ (s1.trans (Same.new (Same.new t3 n4) n5)) (by rw [upd_same, List.map_append, List.map_append, List.map_take, List.map_drop]; rfl) (bad_many D sz ?_ ?_ fun y hy => .inl ?_)
        · rw [List.length_append, List.length_append, List.length_take, List.length_drop]
          show (_ + 1 + _) % 2 = 0
          omega
        · rw [List.length_append, List.length_append, List.length_take, List.length_drop]
          show _ + 1 + _ ≤ 1000
          omega
        · rcases List.mem_append.mp hy with hy | hy
          · rcases List.mem_append.mp hy with hy | hy
            · exact List.mem_of_mem_take hy
            · rw [List.mem_singleton.mp hy]
              exact List.mem_of_getElem? er
          · exact List.mem_of_mem_drop hy
      · exact iteN (fun z => e (by have := V.int.inj z; omega)) ⟨rfl, rfl⟩
    rintro _ H1 ⟨rfl, rfl⟩
    have catR : ∀ {H2 : Hp} {ys : List V} {KQ : VK}, Same H1 H2 → ys.length ≤ 2 → (∀ b H3, Same H2 H3 → H3 b = some (.lst (R.map V.str ++ ys)) → KQ (.ref b) H3) → ys.length ≤ sizeLine ∧ ∀ p, H2 p = none → rCat (.ref l) (.ref p) (upd H2 p (.lst ys)) KQ := fun {H2 ys KQ} u hy hq =>
      ⟨by rw [sizeLine_eq]; omega, fun p np => ⟨l, p, _, _, rfl, rfl, (Same.new (Same.refl _) np) _ _ (u _ _ hL1), upd_same, by rw [lV, sizeLine_eq]; omega, fun b nb => hq b _ (Same.new (Same.new (Same.refl _) np) nb) upd_same⟩⟩
    have catL : ∀ {H2 : Hp} {ys : List V} {KQ : VK}, Same H1 H2 → ys.length ≤ 2 → (∀ b H3, Same H2 H3 → H3 b = some (.lst (ys ++ R.map V.str)) → KQ (.ref b) H3) → ys.length ≤ sizeLine ∧ ∀ p, H2 p = none → ∃ v, ([some (.ref l), some (.int way), some (.int cl), some (.int wd), some (.int hg), some (.ref ld), none, none, some (.int (dn : Int)), none] : St)[0]? = some (some v) ∧ rCat (.ref p) v (upd H2 p (.lst ys)) KQ := fun {H2 ys KQ} u hy hq =>
      ⟨by rw [sizeLine_eq]; omega, fun p np => ⟨_, rfl, p, l, _, _, rfl, rfl, upd_same, (Same.new (Same.refl _) np) _ _ (u _ _ hL1), by rw [lV, sizeLine_eq]; omega, fun b nb => hq b _ (Same.new (Same.new (Same.refl _) np) nb) upd_same⟩⟩
    refine ⟨fun σ' H' => σ' = [some (.ref l), some (.int way), some (.int cl), some (.int wd), some (.int hg), some (.ref ld), none, none, some (.int (dn : Int)), none] ∧ H' = H1, ?_, ?_⟩
    · refine ⟨_, rfl, rfl, _, rfl, ?_⟩
      by_cases e : way = 8
      · refine iteE (by rw [e]; rfl) ?_
        refine ⟨_, rfl, catR (Same.refl _) (by decide) fun b1 G1 u1 e1 => ⟨_, rfl, catR u1 (by decide) fun b2 G2 u2 e2 => catL (u1.trans u2) (by decide) fun b3 G3 u3 e3 => ⟨_, rfl, catR ((u1.trans u2).trans u3) (by decide) fun b4 G4 u4 e4 =>
          catL (((u1.trans u2).trans u3).trans u4) (by decide) fun b5 G5 u5 e5 => ⟨(by show 5 ≤ sizeLine; decide), fun c nc => ?_⟩⟩⟩⟩
        have v5 : Same G5 (upd G5 c (.lst [.ref b1, .ref b2, .ref b3, .ref b4, .ref b5])) := Same.new (Same.refl _) nc
        have hc : (upd G5 c (.lst [.ref b1, .ref b2, .ref b3, .ref b4, .ref b5])) c = some (.lst [.ref b1, .ref b2, .ref b3, .ref b4, .ref b5]) := upd_same
        generalize upd G5 c (.lst [.ref b1, .ref b2, .ref b3, .ref b4, .ref b5]) = H2 at v5 hc
        have short : ∀ x ∈ ([("" : Str), " "]), x.length ≤ 1 ∧ 10 ∉ x.cps.toList := fun x hx => by
          simp only [List.mem_cons, List.not_mem_nil, or_false] at hx
          rcases hx with rfl | rfl <;> exact ⟨by decide, by decide +kernel⟩
        have pick : ∃ (b : Addr) (B : List Str), atI [V.ref b1, V.ref b2, V.ref b3, V.ref b4, V.ref b5] ((cl : Int) / 5 % 5) = some (.ref b) ∧ H2 b = some (.lst (B.map V.str)) ∧ Bad B := by
          have h5 : (cl : Int) / 5 % 5 = 0 ∨ (cl : Int) / 5 % 5 = 1 ∨ (cl : Int) / 5 % 5 = 2 ∨ (cl : Int) / 5 % 5 = 3 ∨ (cl : Int) / 5 % 5 = 4 := by omega
          rcases h5 with z | z | z | z | z <;> rw [z]
          · refine ⟨b1, R ++ [("" : Str)], rfl, ?_, bad_many D sz (by rw [List.length_append]; show (_ + 1) % 2 = 0; omega) (by rw [List.length_append]; show _ + 1 ≤ 1000; omega) fun y hy => ?_⟩
            · rw [List.map_append]; exact v5 _ _ (u5 _ _ (u4 _ _ (u3 _ _ (u2 _ _ e1))))
            · rcases List.mem_append.mp hy with hy | hy
              · exact .inl hy
              · rw [List.mem_singleton.mp hy]; exact .inr (short "" (by simp))
          · refine ⟨b2, R ++ [(" " : Str)], rfl, ?_, bad_many D sz (by rw [List.length_append]; show (_ + 1) % 2 = 0; omega) (by rw [List.length_append]; show _ + 1 ≤ 1000; omega) fun y hy => ?_⟩
            · rw [List.map_append]; exact v5 _ _ (u5 _ _ (u4 _ _ (u3 _ _ e2)))
            · rcases List.mem_append.mp hy with hy | hy
              · exact .inl hy
              · rw [List.mem_singleton.mp hy]; exact .inr (short " " (by simp))
          · refine ⟨b3, [("" : Str)] ++ R, rfl, ?_, bad_many D sz (by rw [List.length_append]; show (1 + _) % 2 = 0; omega) (by rw [List.length_append]; show 1 + _ ≤ 1000; omega) fun y hy => ?_⟩
            · rw [List.map_append]; exact v5 _ _ (u5 _ _ (u4 _ _ e3))
            · rcases List.mem_append.mp hy with hy | hy
              · rw [List.mem_singleton.mp hy]; exact .inr (short "" (by simp))
              · exact .inl hy
          · refine ⟨b4, R ++ [("" : Str), ""], rfl, ?_, bad_empty D sz (by rw [List.length_append]; show _ + 2 ≤ 1000; omega) (fun y hy => ?_) (List.mem_append_right _ (by simp))⟩
            · rw [List.map_append]; exact v5 _ _ (u5 _ _ e4)
            · rcases List.mem_append.mp hy with hy | hy
              · exact .inl hy
              · exact .inr (by simpa using hy)
          · refine ⟨b5, [("" : Str), ""] ++ R, rfl, ?_, bad_empty D sz (by rw [List.length_append]; show 2 + _ ≤ 1000; omega) (fun y hy => ?_) (List.mem_append_left _ (by simp))⟩
            · rw [List.map_append]; exact v5 _ _ e5
            · rcases List.mem_append.mp hy with hy | hy
              · exact .inr (by simpa using hy)
              · exact .inl hy
        obtain ⟨b, B, hat, hb, bad⟩ := pick
        refine ⟨_, rfl, _, _, rfl, rfl, ⟨by decide, by decide⟩, _, _, rfl, rfl, (by show (0 : Int) < 5; decide), c, _, _, _, rfl, rfl, SqL.of hc, hat, ?_⟩
        exact hk b B H2 (s1.trans ((((u1.trans u2).trans u3).trans u4).trans (u5.trans v5))) hb bad
      · exact iteN (fun z => e (by have := V.int.inj z; omega)) ⟨rfl, rfl⟩
    rintro _ H1 ⟨rfl, rfl⟩
    clear catR catL
    refine ⟨fun σ' H' => σ' = [some (.ref l), some (.int way), some (.int cl), some (.int wd), some (.int hg), some (.ref ld), none, none, some (.int (dn : Int)), none] ∧ H' = H1, ?_, ?_⟩
    · refine ⟨_, rfl, rfl, _, rfl, ?_⟩
      by_cases e : way = 9
      · refine iteE (by rw [e]; rfl) ?_
        refine ⟨_, rfl, _, _, rfl, rfl, _, rfl, ?_⟩
        refine ite2 (fun c1 => ?_) (fun c1 => ⟨rfl, rfl⟩)
        have c1 := of_decide_eq_true c1
        obtain ⟨r0, er0, _, _⟩ := D.at (d := 0) (by omega)
        obtain ⟨r1, er1, _, _⟩ := D.at (d := 1) (by omega)
        have er0V : (R.map V.str)[0]? = some (.str r0) := by rw [List.getElem?_map, er0]; rfl
        have er1V : (R.map V.str)[1]? = some (.str r1) := by rw [List.getElem?_map, er1]; rfl
        refine ⟨_, rfl, l, _, _, _, rfl, rfl, SqL.of hL1, atI_nat er1V, _, rfl, l, _, _, _, rfl, rfl, SqL.of hL1, atI_nat er0V, (by show 2 ≤ sizeLine; decide), fun a1 n1 => ?_⟩
        have t1 := Same.new (o := .lst [V.str r1, V.str r0]) (Same.refl H1) n1
        refine ⟨_, rfl, _, rfl, l, _, rfl, SqL.of (t1 _ _ hL1), fun a2 n2 => ?_⟩
        have ne12 : a1 ≠ a2 := fun z => by rw [← z, upd_same] at n2; cases n2
        have ecut : cutV (R.map V.str) (some 2) none = (R.map V.str).drop 2 := cut_from (n := 2) (by omega)
        rw [ecut]
        refine ⟨a1, a2, _, _, rfl, rfl, (by rw [upd_ne ne12]; exact upd_same), upd_same, ?_, fun a3 n3 => ?_⟩
        · rw [List.length_drop, lV, sizeLine_eq]
          show 2 + _ ≤ _
          omega
        exact hk a3 ([r1, r0] ++ R.drop 2) _ (s1.trans (Same.new (Same.new t1 n2) n3)) (by rw [upd_same, List.map_append, List.map_drop]; rfl) (bad_swap D sz (by omega) er0 er1)
      · exact iteN (fun z => e (by have := V.int.inj z; omega)) (iteF ⟨rfl, rfl⟩)
    rintro _ H1 ⟨rfl, rfl⟩
    refine ⟨fun σ' H' => σ' = [some (.ref l), some (.int way), some (.int cl), some (.int wd), some (.int hg), some (.ref ld), none, none, some (.int (dn : Int)), none] ∧ H' = H1, ?_, ?_⟩
    · refine ⟨_, rfl, rfl, _, rfl, ?_⟩
      by_cases e : way = 10
      · refine iteE (by rw [e]; rfl) ?_
        exact ⟨_, rfl, cl, rfl, fun p B H' s' hp b => hk p B H' (s1.trans s') hp b⟩
      · exact iteN (fun z => e (by have := V.int.inj z; omega)) ⟨rfl, rfl⟩
    rintro _ H1 ⟨rfl, rfl⟩
    refine ⟨fun σ' H' => σ' = [some (.ref l), some (.int way), some (.int cl), some (.int wd), some (.int hg), some (.ref ld), none, none, some (.int (dn : Int)), none] ∧ H' = H1, ?_, ?_⟩
    · refine ⟨_, rfl, rfl, _, rfl, ?_⟩
      by_cases e : way = 11
      · refine iteE (by rw [e]; rfl) ?_
        obtain ⟨y, hy, by'⟩ := bad_one (cl % 5) (by omega)
        have hyV : ([V.str "", V.str "\n", V.str " ", V.str "+", V.str "."])[cl % 5]? = some (V.str y) := by
          have z : ([("" : Str), "\n", " ", "+", "."].map V.str)[cl % 5]? = some (V.str y) := by rw [List.getElem?_map, hy]; rfl
          exact z
        have hat : atI [V.str "", V.str "\n", V.str " ", V.str "+", V.str "."] ((cl : Int) % 5) = some (V.str y) := by
          refine Eq.trans ?_ (atI_nat hyV)
          congr 1
        refine ⟨(by show 5 ≤ sizeLine; decide), fun a1 n1 => ⟨_, rfl, _, _, rfl, rfl, (by show (0 : Int) < 5; decide), a1, _, _, V.str y, rfl, rfl, SqL.of upd_same, hat, (by show 1 ≤ sizeLine; decide), fun a2 n2 => ?_⟩⟩
        exact hk a2 [y] _ (s1.trans (Same.new (Same.new (Same.refl _) n1) n2)) upd_same by'
      · exact iteN (fun z => e (by have := V.int.inj z; omega)) ⟨rfl, rfl⟩
    rintro _ H1 ⟨rfl, rfl⟩
    obtain ⟨c, hc, fc⟩ := pick_of "O0.+| " 6 (fun c => decide (c ≠ 10) && decide (mapc c ≠ 111)) (by decide +kernel) (k := cl / 5 % 6) (by omega)
    rw [Bool.and_eq_true] at fc
    refine ⟨_, rfl, _, rfl, ld, _, _, _, rfl, rfl, SqL.of hd1, rfl, _, rfl, ld, _, _, _, rfl, rfl, SqL.of hd1, rfl, _, rfl, _, _, rfl, rfl, ⟨by decide, by decide⟩, _, _, rfl, rfl, (by show (0 : Int) < 6; decide), _, _, c, rfl, rfl, by decide, ?_, ?_⟩
    · refine Eq.trans ?_ (atI_nat hc)
      congr 1
    · refine put (d := 2 * (cl % hg)) (a := 2 * (cl / 37 % wd)) (c := c) s1 ?_ ?_ (by omega) (by omega) (of_decide_eq_true fc.1) ?_
      · rw [im]; omega
      · rw [e37, im]; omega
      · rw [show bareN (2 * (cl % hg)) (2 * (cl / 37 % wd)) = 111 by unfold bareN; rw [if_pos (by omega), if_pos (by omega)]]
        exact of_decide_eq_true fc.2
structure ExcW (K : PySem.W.Frag) (mg : Str → Option Value) (CW : Addr) : Prop where
  nw : ExcNm K mg "NoDrawing" CW
  se : ∃ c, mg "SandError" = some (.ref c) ∧ PySem.W.kitOne K (.ref CW) (.ref c) = some true
  ve : mg "ValueError" = none ∧ PySem.W.kitOne K (.ref CW) (.type "ValueError") = some true
  nb : ∃ c, mg "NoBoard" = some (.ref c) ∧ PySem.W.kitOne K (.ref CW) (.ref c) = some false
  nd : ∃ c, mg "NoDoor" = some (.ref c) ∧ PySem.W.kitOne K (.ref CW) (.ref c) = some false
  ns : ∃ c, mg "NoSign" = some (.ref c) ∧ PySem.W.kitOne K (.ref CW) (.ref c) = some false
def spRefusedT : Sp := fun vs H Q _ => ∃ t : Str, vs = [.str t] ∧ t.length ≤ 1048576 ∧ ¬ goodT t ∧ ∀ H' : Hp, Same H H' → Q (.bl true) H'
theorem sc_law_refused : FnScope ["text", "turn", "e"] ["text"] (defScope s_law_refused) := ⟨rfl, rfl, rfl, by decide +kernel, rfl, by decide +kernel, by decide +kernel⟩
theorem ok_law_refused {f CW : Addr} {fd : FuncData} (F : Fun K "_law_refused" "_law_refused" s_law_refused f fd) (T : Txt K mg C) (Z : ExcW K mg CW) (D : DefAt1 P w K mg base 6 "read" ["text"] (spUnread CW)) :
    FnOk P w K mg base CX0 7 f fd ["text"] spRefusedT := by
  obtain ⟨c1, g1, k1⟩ := Z.se
  obtain ⟨g2, k2⟩ := Z.ve
  obtain ⟨c3, g3, k3⟩ := Z.nb
  obtain ⟨c4, g4, k4⟩ := Z.nd
  obtain ⟨c5, g5, k5⟩ := Z.ns
  refine F.okq sc_law_refused (fun vs H Q E h => ?_) (fun cdv A outer s H vs Q E hr h => ?_)
  · obtain ⟨t, rfl, _⟩ := h
    rfl
  · obtain ⟨t, rfl, hl, nb, k⟩ := h
    refine ⟨_, qss_cons (ps_forq PassesOwn.never rfl (pi_range1 (by rfl) T.range (pa pe_int pa_nil)) (pg_name (i := 1) sc_law_refused.nd rfl (Or.inl rfl))
      (qss_one (ps_tryDef (i := 2) D Z.nw hr (fun _ _ z => z) ⟨rfl, rfl⟩ sc_law_refused.nd rfl rfl (pa (pv 0) pa_nil)
        (fun x => qss_cons (ps_ifq (PW.pt (pw_or (pt_not (pt_val (pe_cb call_isXm (by rfl) T.isi PyProof.Rows.boot_isinstance (pa (pv 2) (pa (pe_glob (v := .ref c1) (by rfl) g1 rfl) pa_nil)))))
            (pw_or1 (pt_not (pt_val (pe_cb call_isXm (by rfl) T.isi PyProof.Rows.boot_isinstance (pa (pv 2) (pa (pe_bltn (v := .ty "ValueError") (by rfl) g2 rfl rfl) pa_nil)))))))) (qss_one (ps_ret pe_bl)) qss_nil)
          (qss_one (ps_ifq (PW.pt (pw_or (pt_val (pe_cb call_isXm (by rfl) T.isi PyProof.Rows.boot_isinstance (pa (pv 2) (pa (pe_glob (v := .ref c3) (by rfl) g3 rfl) pa_nil))))
            (pw_or (pt_val (pe_cb call_isXm (by rfl) T.isi PyProof.Rows.boot_isinstance (pa (pv 2) (pa (pe_glob (v := .ref c4) (by rfl) g4 rfl) pa_nil))))
            (pw_or1 (pt_val (pe_cb call_isXm (by rfl) T.isi PyProof.Rows.boot_isinstance (pa (pv 2) (pa (pe_glob (v := .ref c5) (by rfl) g5 rfl) pa_nil)))))))) (qss_one (ps_ret pe_bl)) qss_nil))))))
      (qss_one (ps_ret pe_bl)), ?_⟩
    refine ⟨2, rfl, by decide, by decide, for_range (n := 2) (fun i σ H2 => ∃ v2, σ = [some (.str t), v2, none] ∧ Same H H2) ⟨none, rfl, Same.refl H⟩ ?_ ?_⟩
    · rintro i σ H2 hi ⟨v2, rfl, s2⟩
      refine ⟨_, rfl, t, rfl, hl, nb, fun H3 s3 => ⟨rfl, fun y hy => ?_⟩⟩
      have e3 : upd H3 y (.ext (excPhi y CW)) y = some (.ext (excPhi y CW)) := upd_same
      have s4 : Same H (upd H3 y (.ext (excPhi y CW))) := (s2.trans s3).trans (Same.new (Same.refl _) hy)
      generalize upd H3 y (.ext (excPhi y CW)) = H4 at e3 s4 ⊢
      refine ⟨_, rfl, y, CW, .ref c1, .ref c1, true, rfl, rfl, fun u r => r, e3, Z.nw.cl, k1, _, rfl, ?_⟩
      refine iteF ?_
      refine ⟨_, rfl, y, CW, .ty "ValueError", .type "ValueError", true, rfl, rfl, fun u r => r, e3, Z.nw.cl, k2, _, rfl, ?_⟩
      refine iteF ?_
      refine ⟨_, rfl, y, CW, .ref c3, .ref c3, false, rfl, rfl, fun u r => r, e3, Z.nw.cl, k3, _, rfl, ?_⟩
      refine iteF ?_
      refine ⟨_, rfl, y, CW, .ref c4, .ref c4, false, rfl, rfl, fun u r => r, e3, Z.nw.cl, k4, _, rfl, ?_⟩
      refine iteF ?_
      refine ⟨_, rfl, y, CW, .ref c5, .ref c5, false, rfl, rfl, fun u r => r, e3, Z.nw.cl, k5, _, rfl, ?_⟩
      refine iteF ?_
      exact ⟨_, rfl, s4⟩
    · rintro σ H2 ⟨v2, rfl, s2⟩
      exact k H2 s2
def spLaw (K : PySem.W.Frag) : Sp := fun vs H Q _ => ∃ (a : Addr) (ns : List Int), vs = [.ref a] ∧ SqL K H a (ns.map V.int) ∧ ns.length ≤ 63 ∧ ∀ H', Q (.bl true) H'
theorem sc_law : FnScope ["script", "wide", "high", "rows", "cell", "bad"] ["script"] (defScope s_law) := ⟨rfl, rfl, rfl, by decide +kernel, rfl, by decide +kernel, by decide +kernel⟩
theorem ok_law {f : Addr} {fd : FuncData} (F : Fun K "law" "law" s_law f fd) (T : Txt K mg C) (DC : DefAt P w K mg base 1 "_law_cell_at" ["script", "k"] (spCell K)) (DZ : DefAt P w K mg base 1 "_law_size" ["cell"] spLawSize) (DS : DefAt P w K mg base 2 "_law_signs" ["script", "wide", "high"] (spSigns K))
    (DW : DefAt P w K mg base 1 "_law_rows" ["wide", "high", "signs"] spLawRows) (DP : DefAt P w K mg base 3 "_law_spoiled" ["rows", "way", "cell", "wide", "high"] spSpoiled) (DF : DefAt P w K mg base 7 "_law_refused" ["text"] spRefusedT) (DE : DefAt P w K mg base 6 "read" ["text"] (spRead C)) :
    FnOk P w K mg base CX0 8 f fd ["script"] (spLaw K) := by
  refine F.okq sc_law (fun vs H Q E h => ?_) (fun cdv A outer s H vs Q E hr h => ?_)
  · obtain ⟨a, ns, rfl, _⟩ := h
    rfl
  · obtain ⟨a, ns, rfl, hS, hlen, k⟩ := h
    refine ⟨_, qss_cons (ps_asg (pe_def DZ hr (pa (pe_def DC hr (pa (pv 0) (pa pe_int pa_nil))) pa_nil)) (pg_tup rfl (pgs_cons (pg_name (i := 1) sc_law.nd rfl (Or.inl rfl)) (pgs_cons (pg_name (i := 2) sc_law.nd rfl (Or.inl rfl)) pgs_nil))))
      (qss_cons (ps_set (i := 3) sc_law.nd rfl (Or.inl rfl) (pe_def DW hr (pa (pv 1) (pa (pv 2) (pa (pe_def DS hr (pa (pv 0) (pa (pv 1) (pa (pv 2) pa_nil)))) pa_nil)))))
      (qss_cons (ps_set (i := 4) sc_law.nd rfl (Or.inl rfl) (pe_op op_mod (pe_def DC hr (pa (pv 0) (pa pe_int pa_nil))) pe_int))
      (qss_cons (ps_set (i := 5) sc_law.nd rfl (Or.inl rfl) (pe_def DP hr (pa (pv 3) (pa (pe_op op_mod (pe_def DC hr (pa (pv 0) (pa pe_int pa_nil))) pe_int) (pa (pv 4) (pa (pv 1) (pa (pv 2) pa_nil)))))))
      (qss_cons (ps_ifq (pt_not (pt_val (pe_def DF hr (pa (pe_bm PySem.F.plainAttrs_str PySem.F.slot_str_join PySem.F.type_str_join mt_join pe_str (pa (pv 5) pa_nil)) pa_nil)))) (qss_one (ps_ret pe_bl)) qss_nil)
      (qss_one (ps_ret (pe_cmpR op_eq (pe_fld (pe_def DE hr (pa (pe_bm PySem.F.plainAttrs_str PySem.F.slot_str_join PySem.F.type_str_join mt_join pe_str (pa (pv 3) pa_nil)) pa_nil)) rfl) (pv 1) (nomark _)))))))), ?_⟩
    refine ⟨_, rfl, a, ns, 0, rfl, by decide, by decide, hS, fun z => ⟨z, rfl, fun t wd hg H1 sz s1 ht => ?_⟩⟩
    refine ⟨t, _, rfl, SqT.of ht, rfl, _, _, rfl, _, _, rfl, rfl, ?_⟩
    refine ⟨_, rfl, _, rfl, _, rfl, _, rfl, _, rfl, a, ns, wd, hg, rfl, s1.seq hS, sz, fun d kvs H2 nd hd tb s2 => ?_⟩
    refine ⟨d, wd, hg, kvs, rfl, hd, tb, sz, fun l H3 nl hL s3 => ?_⟩
    have s13 : Same H H3 := s1.trans (s2.trans s3)
    refine ⟨_, rfl, a, ns, 15, rfl, by decide, by decide, s13.seq hS, fun z1 => ⟨_, _, rfl, rfl, (by show (0 : Int) < 1000003; decide), ?_⟩⟩
    refine ⟨_, rfl, _, rfl, a, ns, 14, rfl, by decide, by decide, s13.seq hS, fun z2 => ⟨_, _, rfl, rfl, (by show (0 : Int) < 13; decide), ?_⟩⟩
    obtain ⟨cl, ecl⟩ := Int.eq_ofNat_of_zero_le (show 0 ≤ z1 % 1000003 by omega)
    obtain ⟨wy, ewy⟩ := Int.eq_ofNat_of_zero_le (show 0 ≤ z2 % 13 by omega)
    refine ⟨_, rfl, _, rfl, _, rfl, l, wy, cl, wd, hg, kvs, (by show [V.ref l, V.int (z2 % 13), V.int (z1 % 1000003), V.int wd, V.int hg] = _; rw [ecl, ewy]), hL, sz, tb, by omega, fun p B H4 s4 hB bd nb => ?_⟩
    refine ⟨rfl, _, rfl, "\n", p, B, rfl, rfl, hB, by decide, bd, ?_⟩
    refine ⟨_, rfl, text_len bd, nb, fun H5 s5 => ⟨_, rfl, ?_⟩⟩
    refine iteF ?_
    refine ⟨rfl, _, rfl, "\n", l, drawS wd hg kvs, rfl, rfl, s5 _ _ (s4 _ _ hL), by decide, draw_sum kvs sz, ?_⟩
    refine ⟨wd, hg, kvs, rfl, sz, tb, fun q kb H6 nq s6 B6 e6 => ?_⟩
    obtain ⟨⟨dx, d0, o1, o2⟩, _, _⟩ := id B6
    refine ⟨q, C, dx, _, _, rfl, o1, T.cl, T.nW, flds_wide _ _ _, _, rfl, rfl, ?_⟩
    rw [decide_eq_true rfl]
    exact k H6
end
theorem all_mk {l : PySem.W.OpenLaw} {w : World} {K : PySem.W.Frag} {h : Heap} {mg : Str → Option Value} {fa C : Addr} (X : K.In h) (G : h.Ns mainGlobals mg) (hfa : mg "law" = some (.ref fa))
    {f0 : Addr} {od0 an0 : Option Addr} {sl0 : Array (Option Value)} {oc0 kV0 dc0 pm0 cd0 ct0 : Value}
    {f1 : Addr} {od1 an1 : Option Addr} {sl1 : Array (Option Value)} {oc1 kV1 dc1 pm1 cd1 ct1 : Value}
    {f2 : Addr} {od2 an2 : Option Addr} {sl2 : Array (Option Value)} {oc2 kV2 dc2 pm2 cd2 ct2 : Value}
    {f3 : Addr} {od3 an3 : Option Addr} {sl3 : Array (Option Value)} {oc3 kV3 dc3 pm3 cd3 ct3 : Value}
    {f4 : Addr} {od4 an4 : Option Addr} {sl4 : Array (Option Value)} {oc4 kV4 dc4 pm4 cd4 ct4 : Value}
    {f5 : Addr} {od5 an5 : Option Addr} {sl5 : Array (Option Value)} {oc5 kV5 dc5 pm5 cd5 ct5 : Value}
    {f6 : Addr} {od6 an6 : Option Addr} {sl6 : Array (Option Value)} {oc6 kV6 dc6 pm6 cd6 ct6 : Value}
    {f7 : Addr} {od7 an7 : Option Addr} {sl7 : Array (Option Value)} {oc7 kV7 dc7 pm7 cd7 ct7 : Value}
    {f8 : Addr} {od8 an8 : Option Addr} {sl8 : Array (Option Value)} {oc8 kV8 dc8 pm8 cd8 ct8 : Value}
    {f9 : Addr} {od9 an9 : Option Addr} {sl9 : Array (Option Value)} {oc9 kV9 dc9 pm9 cd9 ct9 : Value}
    {f10 : Addr} {od10 an10 : Option Addr} {sl10 : Array (Option Value)} {oc10 kV10 dc10 pm10 cd10 ct10 : Value}
    {f11 : Addr} {od11 an11 : Option Addr} {sl11 : Array (Option Value)} {oc11 kV11 dc11 pm11 cd11 ct11 : Value}
    {f12 : Addr} {od12 an12 : Option Addr} {sl12 : Array (Option Value)} {oc12 kV12 dc12 pm12 cd12 ct12 : Value}
    {f13 : Addr} {od13 an13 : Option Addr} {sl13 : Array (Option Value)} {oc13 kV13 dc13 pm13 cd13 ct13 : Value}
    {f14 : Addr} {od14 an14 : Option Addr} {sl14 : Array (Option Value)} {oc14 kV14 dc14 pm14 cd14 ct14 : Value}
    {f15 : Addr} {od15 an15 : Option Addr} {sl15 : Array (Option Value)} {oc15 kV15 dc15 pm15 cd15 ct15 : Value}
    {f16 : Addr} {od16 an16 : Option Addr} {sl16 : Array (Option Value)} {oc16 kV16 dc16 pm16 cd16 ct16 : Value}
    {f17 : Addr} {od17 an17 : Option Addr} {sl17 : Array (Option Value)} {oc17 kV17 dc17 pm17 cd17 ct17 : Value}
    {f18 : Addr} {od18 an18 : Option Addr} {sl18 : Array (Option Value)} {oc18 kV18 dc18 pm18 cd18 ct18 : Value}
    {f19 : Addr} {od19 an19 : Option Addr} {sl19 : Array (Option Value)} {oc19 kV19 dc19 pm19 cd19 ct19 : Value}
    {f20 : Addr} {od20 an20 : Option Addr} {sl20 : Array (Option Value)} {oc20 kV20 dc20 pm20 cd20 ct20 : Value}
    {f21 : Addr} {od21 an21 : Option Addr} {sl21 : Array (Option Value)} {oc21 kV21 dc21 pm21 cd21 ct21 : Value}
    {f22 : Addr} {od22 an22 : Option Addr} {sl22 : Array (Option Value)} {oc22 kV22 dc22 pm22 cd22 ct22 : Value}
    {f23 : Addr} {od23 an23 : Option Addr} {sl23 : Array (Option Value)} {oc23 kV23 dc23 pm23 cd23 ct23 : Value}
    {f24 : Addr} {od24 an24 : Option Addr} {sl24 : Array (Option Value)} {oc24 kV24 dc24 pm24 cd24 ct24 : Value}
    {tk1 tk2 tk3 : Tok}
    {aS : Addr} {dS : Option Addr} {iS : Array Value} {nS0 : Nat} {slS : Array (Option Value)}
    {CW xw1 xw3 xw4 xw5 : Addr}
    (aC : PySem.W.nsIn K mainGlobals "Board" = some (some (.ref C)))
    (a0 : PySem.W.nsIn K mainGlobals "is_size" = some (some (.ref f0)))
    (l0 : K.lookup f0 = some ⟨oc0, od0, .func (PySem.W.fnOf "is_size" "is_size" (defArgs s_is_size) (defBody s_is_size) (defScope s_is_size) .none kV0 dc0 pm0 an0 cd0 ct0), sl0⟩) (c0 : PySem.W.codeIn K cd0 "is_size" = true) (k0 : PySem.W.keepIn K (.ref f0) = true)
    (a1 : PySem.W.nsIn K mainGlobals "doors_of" = some (some (.ref f1)))
    (l1 : K.lookup f1 = some ⟨oc1, od1, .func (PySem.W.fnOf "doors_of" "doors_of" (defArgs s_doors_of) (defBody s_doors_of) (defScope s_doors_of) .none kV1 dc1 pm1 an1 cd1 ct1), sl1⟩) (c1 : PySem.W.codeIn K cd1 "doors_of" = true) (k1 : PySem.W.keepIn K (.ref f1) = true)
    (a2 : PySem.W.findIn K (.ref C) "__init__" = some (some (.ref f2))) (i2 : PySem.W.isFn K (.ref f2) = true)
    (l2 : K.lookup f2 = some ⟨oc2, od2, .func (PySem.W.fnOf "__init__" "Board.__init__" (defArgs s_init) (defBody s_init) (defScope s_init) .none kV2 dc2 pm2 an2 cd2 ct2), sl2⟩) (c2 : PySem.W.codeIn K cd2 "Board.__init__" = true) (k2 : PySem.W.keepIn K (.ref f2) = true)
    (a3 : PySem.W.findIn K (.ref C) "demand" = some (some (.ref f3))) (i3 : PySem.W.isFn K (.ref f3) = true)
    (l3 : K.lookup f3 = some ⟨oc3, od3, .func (PySem.W.fnOf "demand" "Board.demand" (defArgs s_demand) (defBody s_demand) (defScope s_demand) .none kV3 dc3 pm3 an3 cd3 ct3), sl3⟩) (c3 : PySem.W.codeIn K cd3 "Board.demand" = true) (k3 : PySem.W.keepIn K (.ref f3) = true)
    (a4 : PySem.W.findIn K (.ref C) "sign" = some (some (.ref f4))) (i4 : PySem.W.isFn K (.ref f4) = true)
    (l4 : K.lookup f4 = some ⟨oc4, od4, .func (PySem.W.fnOf "sign" "Board.sign" (defArgs s_sign) (defBody s_sign) (defScope s_sign) .none kV4 dc4 pm4 an4 cd4 ct4), sl4⟩) (c4 : PySem.W.codeIn K cd4 "Board.sign" = true) (k4 : PySem.W.keepIn K (.ref f4) = true)
    (a5 : PySem.W.findIn K (.ref C) "changed" = some (some (.ref f5))) (i5 : PySem.W.isFn K (.ref f5) = true)
    (l5 : K.lookup f5 = some ⟨oc5, od5, .func (PySem.W.fnOf "changed" "Board.changed" (defArgs s_changed) (defBody s_changed) (defScope s_changed) .none kV5 dc5 pm5 an5 cd5 ct5), sl5⟩) (c5 : PySem.W.codeIn K cd5 "Board.changed" = true) (k5 : PySem.W.keepIn K (.ref f5) = true)
    (a6 : PySem.W.findIn K (.ref C) "doors" = some (some (.ref f6))) (i6 : PySem.W.isFn K (.ref f6) = true)
    (l6 : K.lookup f6 = some ⟨oc6, od6, .func (PySem.W.fnOf "doors" "Board.doors" (defArgs s_doors) (defBody s_doors) (defScope s_doors) .none kV6 dc6 pm6 an6 cd6 ct6), sl6⟩) (c6 : PySem.W.codeIn K cd6 "Board.doors" = true) (k6 : PySem.W.keepIn K (.ref f6) = true)
    (a7 : PySem.W.nsIn K mainGlobals "with_signs" = some (some (.ref f7)))
    (l7 : K.lookup f7 = some ⟨oc7, od7, .func (PySem.W.fnOf "with_signs" "with_signs" (defArgs s_with_signs) (defBody s_with_signs) (defScope s_with_signs) .none kV7 dc7 pm7 an7 cd7 ct7), sl7⟩) (c7 : PySem.W.codeIn K cd7 "with_signs" = true) (k7 : PySem.W.keepIn K (.ref f7) = true)
    (a8 : PySem.W.nsIn K mainGlobals "door_row" = some (some (.ref f8)))
    (l8 : K.lookup f8 = some ⟨oc8, od8, .func (PySem.W.fnOf "door_row" "door_row" (defArgs s_door_row) (defBody s_door_row) (defScope s_door_row) .none kV8 dc8 pm8 an8 cd8 ct8), sl8⟩) (c8 : PySem.W.codeIn K cd8 "door_row" = true) (k8 : PySem.W.keepIn K (.ref f8) = true)
    (a9 : PySem.W.nsIn K mainGlobals "door_place" = some (some (.ref f9)))
    (l9 : K.lookup f9 = some ⟨oc9, od9, .func (PySem.W.fnOf "door_place" "door_place" (defArgs s_door_place) (defBody s_door_place) (defScope s_door_place) .none kV9 dc9 pm9 an9 cd9 ct9), sl9⟩) (c9 : PySem.W.codeIn K cd9 "door_place" = true) (k9 : PySem.W.keepIn K (.ref f9) = true)
    (a10 : PySem.W.nsIn K mainGlobals "bare_rows" = some (some (.ref f10)))
    (l10 : K.lookup f10 = some ⟨oc10, od10, .func (PySem.W.fnOf "bare_rows" "bare_rows" (defArgs s_bare_rows) (defBody s_bare_rows) (defScope s_bare_rows) .none kV10 dc10 pm10 an10 cd10 ct10), sl10⟩) (c10 : PySem.W.codeIn K cd10 "bare_rows" = true) (k10 : PySem.W.keepIn K (.ref f10) = true)
    (a11 : PySem.W.nsIn K mainGlobals "shown" = some (some (.ref f11)))
    (l11 : K.lookup f11 = some ⟨oc11, od11, .func (PySem.W.fnOf "shown" "shown" (defArgs s_shown) (defBody s_shown) (defScope s_shown) .none kV11 dc11 pm11 an11 cd11 ct11), sl11⟩) (c11 : PySem.W.codeIn K cd11 "shown" = true) (k11 : PySem.W.keepIn K (.ref f11) = true)
    (a12 : PySem.W.nsIn K mainGlobals "without_mirrors" = some (some (.ref f12)))
    (l12 : K.lookup f12 = some ⟨oc12, od12, .func (PySem.W.fnOf "without_mirrors" "without_mirrors" (defArgs s_without_mirrors) (defBody s_without_mirrors) (defScope s_without_mirrors) .none kV12 dc12 pm12 an12 cd12 ct12), sl12⟩) (c12 : PySem.W.codeIn K cd12 "without_mirrors" = true) (k12 : PySem.W.keepIn K (.ref f12) = true)
    (a13 : PySem.W.nsIn K mainGlobals "read" = some (some (.ref f13)))
    (l13 : K.lookup f13 = some ⟨oc13, od13, .func (PySem.W.fnOf "read" "read" (defArgs s_read) (defBody s_read) (defScope s_read) .none kV13 dc13 pm13 an13 cd13 ct13), sl13⟩) (c13 : PySem.W.codeIn K cd13 "read" = true) (k13 : PySem.W.keepIn K (.ref f13) = true)
    (a14 : PySem.W.nsIn K mainGlobals "_law_cell_at" = some (some (.ref f14)))
    (l14 : K.lookup f14 = some ⟨oc14, od14, .func (PySem.W.fnOf "_law_cell_at" "_law_cell_at" (defArgs s_law_cell_at) (defBody s_law_cell_at) (defScope s_law_cell_at) .none kV14 dc14 pm14 an14 cd14 ct14), sl14⟩) (c14 : PySem.W.codeIn K cd14 "_law_cell_at" = true) (k14 : PySem.W.keepIn K (.ref f14) = true)
    (a15 : PySem.W.nsIn K mainGlobals "_law_mix" = some (some (.ref f15)))
    (l15 : K.lookup f15 = some ⟨oc15, od15, .func (PySem.W.fnOf "_law_mix" "_law_mix" (defArgs s_law_mix) (defBody s_law_mix) (defScope s_law_mix) .none kV15 dc15 pm15 an15 cd15 ct15), sl15⟩) (c15 : PySem.W.codeIn K cd15 "_law_mix" = true) (k15 : PySem.W.keepIn K (.ref f15) = true)
    (a16 : PySem.W.nsIn K mainGlobals "_law_size" = some (some (.ref f16)))
    (l16 : K.lookup f16 = some ⟨oc16, od16, .func (PySem.W.fnOf "_law_size" "_law_size" (defArgs s_law_size) (defBody s_law_size) (defScope s_law_size) .none kV16 dc16 pm16 an16 cd16 ct16), sl16⟩) (c16 : PySem.W.codeIn K cd16 "_law_size" = true) (k16 : PySem.W.keepIn K (.ref f16) = true)
    (a17 : PySem.W.nsIn K mainGlobals "_law_doors" = some (some (.ref f17)))
    (l17 : K.lookup f17 = some ⟨oc17, od17, .func (PySem.W.fnOf "_law_doors" "_law_doors" (defArgs s_law_doors) (defBody s_law_doors) (defScope s_law_doors) .none kV17 dc17 pm17 an17 cd17 ct17), sl17⟩) (c17 : PySem.W.codeIn K cd17 "_law_doors" = true) (k17 : PySem.W.keepIn K (.ref f17) = true)
    (a18 : PySem.W.nsIn K mainGlobals "_law_signs" = some (some (.ref f18)))
    (l18 : K.lookup f18 = some ⟨oc18, od18, .func (PySem.W.fnOf "_law_signs" "_law_signs" (defArgs s_law_signs) (defBody s_law_signs) (defScope s_law_signs) .none kV18 dc18 pm18 an18 cd18 ct18), sl18⟩) (c18 : PySem.W.codeIn K cd18 "_law_signs" = true) (k18 : PySem.W.keepIn K (.ref f18) = true)
    (a19 : PySem.W.nsIn K mainGlobals "_law_rows" = some (some (.ref f19)))
    (l19 : K.lookup f19 = some ⟨oc19, od19, .func (PySem.W.fnOf "_law_rows" "_law_rows" (defArgs s_law_rows) (defBody s_law_rows) (defScope s_law_rows) .none kV19 dc19 pm19 an19 cd19 ct19), sl19⟩) (c19 : PySem.W.codeIn K cd19 "_law_rows" = true) (k19 : PySem.W.keepIn K (.ref f19) = true)
    (a20 : PySem.W.nsIn K mainGlobals "_law_put" = some (some (.ref f20)))
    (l20 : K.lookup f20 = some ⟨oc20, od20, .func (PySem.W.fnOf "_law_put" "_law_put" (defArgs s_law_put) (defBody s_law_put) (defScope s_law_put) .none kV20 dc20 pm20 an20 cd20 ct20), sl20⟩) (c20 : PySem.W.codeIn K cd20 "_law_put" = true) (k20 : PySem.W.keepIn K (.ref f20) = true)
    (a21 : PySem.W.nsIn K mainGlobals "_law_large" = some (some (.ref f21)))
    (l21 : K.lookup f21 = some ⟨oc21, od21, .func (PySem.W.fnOf "_law_large" "_law_large" (defArgs s_law_large) (defBody s_law_large) (defScope s_law_large) .none kV21 dc21 pm21 an21 cd21 ct21), sl21⟩) (c21 : PySem.W.codeIn K cd21 "_law_large" = true) (k21 : PySem.W.keepIn K (.ref f21) = true)
    (a22 : PySem.W.nsIn K mainGlobals "_law_spoiled" = some (some (.ref f22)))
    (l22 : K.lookup f22 = some ⟨oc22, od22, .func (PySem.W.fnOf "_law_spoiled" "_law_spoiled" (defArgs s_law_spoiled) (defBody s_law_spoiled) (defScope s_law_spoiled) .none kV22 dc22 pm22 an22 cd22 ct22), sl22⟩) (c22 : PySem.W.codeIn K cd22 "_law_spoiled" = true) (k22 : PySem.W.keepIn K (.ref f22) = true)
    (a23 : PySem.W.nsIn K mainGlobals "_law_refused" = some (some (.ref f23)))
    (l23 : K.lookup f23 = some ⟨oc23, od23, .func (PySem.W.fnOf "_law_refused" "_law_refused" (defArgs s_law_refused) (defBody s_law_refused) (defScope s_law_refused) .none kV23 dc23 pm23 an23 cd23 ct23), sl23⟩) (c23 : PySem.W.codeIn K cd23 "_law_refused" = true) (k23 : PySem.W.keepIn K (.ref f23) = true)
    (a24 : PySem.W.nsIn K mainGlobals "law" = some (some (.ref f24)))
    (l24 : K.lookup f24 = some ⟨oc24, od24, .func (PySem.W.fnOf "law" "law" (defArgs s_law) (defBody s_law) (defScope s_law) .none kV24 dc24 pm24 an24 cd24 ct24), sl24⟩) (c24 : PySem.W.codeIn K cd24 "law" = true) (k24 : PySem.W.keepIn K (.ref f24) = true)
    (pg : PySem.W.plainGet K C Str.empty = true) (hd : PySem.W.hasDictIn K C = true) (po : PySem.W.plainOver K C = true) (sa : PySem.W.findIn K (.ref C) "__setattr__" = some (some (.builtin "object.__setattr__"))) (mk : PySem.W.makesIn K C = true) (kc : PySem.W.keepIn K (.ref C) = true)
    (nW : PySem.W.findIn K (.ref C) "wide" = some none) (nH : PySem.W.findIn K (.ref C) "high" = some none) (nS : PySem.W.findIn K (.ref C) "signs" = some none)
    (g1 : PySem.W.nsIn K mainGlobals "MOST_ALONG" = some (some (.int 12 tk1))) (g2 : PySem.W.nsIn K mainGlobals "MOST_DOTS" = some (some (.int 36 tk2))) (g3 : PySem.W.nsIn K mainGlobals "NO_MIRROR" = some (some (.str "." tk3)))
    (g4 : PySem.W.nsIn K mainGlobals "SIGNS" = some (some (.ref aS))) (g5 : K.lookup aS = some ⟨.type "tuple", dS, .seq iS nS0, slS⟩)
    (xN : PySem.W.nsIn K mainGlobals "NoDrawing" = some (some (.ref CW)))
    (x1 : PySem.W.nsIn K mainGlobals "SandError" = some (some (.ref xw1)))
    (x3 : PySem.W.nsIn K mainGlobals "NoBoard" = some (some (.ref xw3)))
    (x4 : PySem.W.nsIn K mainGlobals "NoDoor" = some (some (.ref xw4)))
    (x5 : PySem.W.nsIn K mainGlobals "NoSign" = some (some (.ref xw5)))
    (x2 : PySem.W.nsIn K mainGlobals "ValueError" = some none)
    (xq : PySem.W.excIn K CW [.type "ValueError", .type "Exception", .type "BaseException", .type "object"] "ValueError.__new__" = true)
    (xga : PySem.W.findIn K (.ref CW) "__getattribute__" = some (some (.builtin "BaseException.__getattribute__")))
    (xgt : PySem.W.findIn K (.ref CW) "__getattr__" = some none)
    (xfc : PySem.W.findIn K (.ref CW) "__class__" = some (some (.builtin "object.__class__")))
    (xfg : PySem.W.specialIn K (.builtin "object.__class__") "__get__" = some (some (.builtin "getset_descriptor.__get__")))
    (xft : PySem.W.takesIn K (.builtin "object.__class__") = some true)
    (xmb : PySem.W.mroIn K CW (.type "BaseException") = some true)
    (xmo : PySem.W.mroIn K CW (.type "object") = some true)
    (xk1 : PySem.W.kitOne K (.ref CW) (.ref xw1) = some true)
    (xk2 : PySem.W.kitOne K (.ref CW) (.type "ValueError") = some true)
    (xk3 : PySem.W.kitOne K (.ref CW) (.ref xw3) = some false)
    (xk4 : PySem.W.kitOne K (.ref CW) (.ref xw4) = some false)
    (xk5 : PySem.W.kitOne K (.ref CW) (.ref xw5) = some false)
    (z_range : PySem.W.nsIn K mainGlobals "range" = some none)
    (z_len : PySem.W.nsIn K mainGlobals "len" = some none)
    (z_min : PySem.W.nsIn K mainGlobals "min" = some none)
    (z_isinstance : PySem.W.nsIn K mainGlobals "isinstance" = some none)
    (z_int : PySem.W.nsIn K mainGlobals "int" = some none)
    (z_bool : PySem.W.nsIn K mainGlobals "bool" = some none)
    (z_tuple : PySem.W.nsIn K mainGlobals "tuple" = some none)
    (z_list : PySem.W.nsIn K mainGlobals "list" = some none)
    (z_str : PySem.W.nsIn K mainGlobals "str" = some none)
    (z_dict : PySem.W.nsIn K mainGlobals "dict" = some none)
    (z_sorted : PySem.W.nsIn K mainGlobals "sorted" = some none)
    (z_enumerate : PySem.W.nsIn K mainGlobals "enumerate" = some none)
    (vk : tk3 ≠ 0)
    (v5 : iS.size ≤ sizeLine ∧ Vals [.str ".", .str "|", .str "-"] iS.toList)
    : ∃ fd : FuncData, (∀ (s : Shared) (v : Value), BindsTo s fd ⟨[v], []⟩ [("script", v)]) ∧ ∀ base : Heap, K.In base → base.Ns mainGlobals mg → FnOk l.prog w K mg base CX0 8 fa fd ["script"] (spLaw K) := by
  have e := hfa.symm.trans (PySem.W.mg_of X G a24)
  cases e
  have T : Txt K mg C := ⟨⟨pg, hd, po, sa⟩, nW, nH, nS, ⟨_, PySem.W.mg_of X G g1⟩, ⟨_, PySem.W.mg_of X G g2⟩, ⟨_, PySem.W.mg_of X G g3⟩, PySem.W.mg_none_of X G z_range, PySem.W.mg_none_of X G z_len, PySem.W.mg_none_of X G z_min, PySem.W.mg_none_of X G z_isinstance, PySem.W.mg_none_of X G z_int, PySem.W.mg_none_of X G z_bool, PySem.W.mg_none_of X G z_tuple, PySem.W.mg_none_of X G z_list, PySem.W.mg_none_of X G z_str, PySem.W.mg_none_of X G z_dict, PySem.W.mg_none_of X G z_sorted, PySem.W.mg_none_of X G z_enumerate⟩
  have TN : TokN K mg := ⟨_, PySem.W.mg_of X G g3, vk, lt_low g3⟩
  have TS : SgnT K mg := ⟨aS, PySem.W.mg_of X G g4, fun H => .inr ⟨_, iS, nS0, g5, rfl, rfl, v5.1, v5.2⟩⟩
  have Z : ExcW K mg CW := ⟨⟨PySem.W.mg_of X G xN, ⟨xga, xgt, xfc, xfg, xft, xmb, xmo, cls_of_exc xq⟩, _, _, _, _, xq, PySem.F.excBase_ValueError⟩, ⟨_, PySem.W.mg_of X G x1, xk1⟩, ⟨PySem.W.mg_none_of X G x2, xk2⟩, ⟨_, PySem.W.mg_of X G x3, xk3⟩, ⟨_, PySem.W.mg_of X G x4, xk4⟩, ⟨_, PySem.W.mg_of X G x5, xk5⟩⟩
  have F0 := fun_mk (st := s_is_size) l0 c0 k0
  have b0 := F0.binds (ps := ["wide", "high"]) fun _ _ _ _ _ _ us hl => match us, hl with | [_, _], _ => rfl
  have F1 := fun_mk (st := s_doors_of) l1 c1 k1
  have b1 := F1.binds (ps := ["wide", "high"]) fun _ _ _ _ _ _ us hl => match us, hl with | [_, _], _ => rfl
  have F2 := fun_mk (st := s_init) l2 c2 k2
  have b2 := F2.binds (ps := ["self", "wide", "high"]) fun _ _ _ _ _ _ us hl => match us, hl with | [_, _, _], _ => rfl
  have F3 := fun_mk (st := s_demand) l3 c3 k3
  have b3 := F3.binds (ps := ["self", "door"]) fun _ _ _ _ _ _ us hl => match us, hl with | [_, _], _ => rfl
  have F4 := fun_mk (st := s_sign) l4 c4 k4
  have b4 := F4.binds (ps := ["self", "door"]) fun _ _ _ _ _ _ us hl => match us, hl with | [_, _], _ => rfl
  have F5 := fun_mk (st := s_changed) l5 c5 k5
  have b5 := F5.binds (ps := ["self", "door", "sign"]) fun _ _ _ _ _ _ us hl => match us, hl with | [_, _, _], _ => rfl
  have F6 := fun_mk (st := s_doors) l6 c6 k6
  have b6 := F6.binds (ps := ["self"]) fun _ _ _ _ _ _ us hl => match us, hl with | [_], _ => rfl
  have F7 := fun_mk (st := s_with_signs) l7 c7 k7
  have b7 := F7.binds (ps := ["wide", "high", "placed"]) fun _ _ _ _ _ _ us hl => match us, hl with | [_, _, _], _ => rfl
  have F8 := fun_mk (st := s_door_row) l8 c8 k8
  have b8 := F8.binds (ps := ["door"]) fun _ _ _ _ _ _ us hl => match us, hl with | [_], _ => rfl
  have F9 := fun_mk (st := s_door_place) l9 c9 k9
  have b9 := F9.binds (ps := ["door"]) fun _ _ _ _ _ _ us hl => match us, hl with | [_], _ => rfl
  have F10 := fun_mk (st := s_bare_rows) l10 c10 k10
  have b10 := F10.binds (ps := ["wide", "high"]) fun _ _ _ _ _ _ us hl => match us, hl with | [_, _], _ => rfl
  have F11 := fun_mk (st := s_shown) l11 c11 k11
  have b11 := F11.binds (ps := ["board"]) fun _ _ _ _ _ _ us hl => match us, hl with | [_], _ => rfl
  have F12 := fun_mk (st := s_without_mirrors) l12 c12 k12
  have b12 := F12.binds (ps := ["text"]) fun _ _ _ _ _ _ us hl => match us, hl with | [_], _ => rfl
  have F13 := fun_mk (st := s_read) l13 c13 k13
  have b13 := F13.binds (ps := ["text"]) fun _ _ _ _ _ _ us hl => match us, hl with | [_], _ => rfl
  have F14 := fun_mk (st := s_law_cell_at) l14 c14 k14
  have b14 := F14.binds (ps := ["script", "k"]) fun _ _ _ _ _ _ us hl => match us, hl with | [_, _], _ => rfl
  have F15 := fun_mk (st := s_law_mix) l15 c15 k15
  have b15 := F15.binds (ps := ["cell", "k"]) fun _ _ _ _ _ _ us hl => match us, hl with | [_, _], _ => rfl
  have F16 := fun_mk (st := s_law_size) l16 c16 k16
  have b16 := F16.binds (ps := ["cell"]) fun _ _ _ _ _ _ us hl => match us, hl with | [_], _ => rfl
  have F17 := fun_mk (st := s_law_doors) l17 c17 k17
  have b17 := F17.binds (ps := ["wide", "high"]) fun _ _ _ _ _ _ us hl => match us, hl with | [_, _], _ => rfl
  have F18 := fun_mk (st := s_law_signs) l18 c18 k18
  have b18 := F18.binds (ps := ["script", "wide", "high"]) fun _ _ _ _ _ _ us hl => match us, hl with | [_, _, _], _ => rfl
  have F19 := fun_mk (st := s_law_rows) l19 c19 k19
  have b19 := F19.binds (ps := ["wide", "high", "signs"]) fun _ _ _ _ _ _ us hl => match us, hl with | [_, _, _], _ => rfl
  have F20 := fun_mk (st := s_law_put) l20 c20 k20
  have b20 := F20.binds (ps := ["rows", "down", "along", "sign"]) fun _ _ _ _ _ _ us hl => match us, hl with | [_, _, _, _], _ => rfl
  have F21 := fun_mk (st := s_law_large) l21 c21 k21
  have b21 := F21.binds (ps := ["cell"]) fun _ _ _ _ _ _ us hl => match us, hl with | [_], _ => rfl
  have F22 := fun_mk (st := s_law_spoiled) l22 c22 k22
  have b22 := F22.binds (ps := ["rows", "way", "cell", "wide", "high"]) fun _ _ _ _ _ _ us hl => match us, hl with | [_, _, _, _, _], _ => rfl
  have F23 := fun_mk (st := s_law_refused) l23 c23 k23
  have b23 := F23.binds (ps := ["text"]) fun _ _ _ _ _ _ us hl => match us, hl with | [_], _ => rfl
  have F24 := fun_mk (st := s_law) l24 c24 k24
  refine ⟨PySem.W.fnOf "law" "law" (defArgs s_law) (defBody s_law) (defScope s_law) .none kV24 dc24 pm24 an24 cd24 ct24, fun s v => .of_eq rfl, fun base _ _ => ?_⟩
  have D_is_size : DefAt l.prog w K mg base 1 "is_size" ["wide", "high"] spSize := ⟨_, _, ok_is_size F0 T, PySem.W.mg_of X G a0, k0, b0⟩
  have D_doors_of : DefAt l.prog w K mg base 1 "doors_of" ["wide", "high"] spDoors := ⟨_, _, ok_doors_of F1 T, PySem.W.mg_of X G a1, k1, b1⟩
  have D_Board : ClassAt l.prog w K mg base 2 C "Board" ["self", "wide", "high"] (spInit C) := ⟨_, _, ok_init F2 T D_is_size D_doors_of, ⟨mk, a2, i2, kc⟩, PySem.W.mg_of X G aC, b2⟩
  have D_demand : MethAt l.prog w K mg base 1 C "demand" ["self", "door"] (spDemand C) := ⟨_, _, ok_demand F3 T, ⟨a3, i3, k3⟩, b3⟩
  have D_sign : MethAt l.prog w K mg base 2 C "sign" ["self", "door"] (spSign C) := ⟨_, _, ok_sign F4 T D_demand, ⟨a4, i4, k4⟩, b4⟩
  have D_changed : MethAt l.prog w K mg base 4 C "changed" ["self", "door", "sign"] (spChanged C) := ⟨_, _, ok_changed F5 T TS D_demand D_Board, ⟨a5, i5, k5⟩, b5⟩
  have D_doors : MethAt l.prog w K mg base 1 C "doors" ["self"] (spBDoors C) := ⟨_, _, ok_doors F6 T, ⟨a6, i6, k6⟩, b6⟩
  have D_with_signs : DefAt l.prog w K mg base 5 "with_signs" ["wide", "high", "placed"] (spWith C) := ⟨_, _, ok_with_signs F7 T D_Board D_changed, PySem.W.mg_of X G a7, k7, b7⟩
  have D_door_row : DefAt l.prog w K mg base 1 "door_row" ["door"] spDRow := ⟨_, _, ok_door_row F8 , PySem.W.mg_of X G a8, k8, b8⟩
  have D_door_place : DefAt l.prog w K mg base 1 "door_place" ["door"] spDCol := ⟨_, _, ok_door_place F9 , PySem.W.mg_of X G a9, k9, b9⟩
  have D_bare_rows : DefAt l.prog w K mg base 1 "bare_rows" ["wide", "high"] spBare := ⟨_, _, ok_bare_rows F10 T, PySem.W.mg_of X G a10, k10, b10⟩
  have D_shown : DefAt l.prog w K mg base 3 "shown" ["board"] (spShown C) := ⟨_, _, ok_shown F11 T D_bare_rows D_door_row D_door_place D_doors D_sign, PySem.W.mg_of X G a11, k11, b11⟩
  have D_without_mirrors : DefAt l.prog w K mg base 1 "without_mirrors" ["text"] spUnM := ⟨_, _, ok_without_mirrors F12 TN, PySem.W.mg_of X G a12, k12, b12⟩
  have D_read : DefAt l.prog w K mg base 6 "read" ["text"] (spRead C) := ⟨_, _, ok_read F13 T D_is_size D_without_mirrors D_shown D_Board D_doors D_door_row D_door_place D_with_signs, PySem.W.mg_of X G a13, k13, b13⟩
  have D_read1 : DefAt1 l.prog w K mg base 6 "read" ["text"] (spUnread CW) := ⟨_, _, ok_read1 F13 T Z.nw D_is_size D_without_mirrors D_shown D_Board, PySem.W.mg_of X G a13, k13, b13⟩
  have D_law_cell_at : DefAt l.prog w K mg base 1 "_law_cell_at" ["script", "k"] (spCell K) := ⟨_, _, ok_law_cell_at F14 T, PySem.W.mg_of X G a14, k14, b14⟩
  have D_law_mix : DefAt l.prog w K mg base 1 "_law_mix" ["cell", "k"] spMix := ⟨_, _, ok_law_mix F15 , PySem.W.mg_of X G a15, k15, b15⟩
  have D_law_size : DefAt l.prog w K mg base 1 "_law_size" ["cell"] spLawSize := ⟨_, _, ok_law_size F16 , PySem.W.mg_of X G a16, k16, b16⟩
  have D_law_doors : DefAt l.prog w K mg base 1 "_law_doors" ["wide", "high"] spDoors := ⟨_, _, ok_law_doors F17 T, PySem.W.mg_of X G a17, k17, b17⟩
  have D_law_doorsG : DefAt l.prog w K mg base 1 "_law_doors" ["wide", "high"] spDoorsG := ⟨_, _, ok_law_doorsG F17 T, PySem.W.mg_of X G a17, k17, b17⟩
  have D_law_signs : DefAt l.prog w K mg base 2 "_law_signs" ["script", "wide", "high"] (spSigns K) := ⟨_, _, ok_law_signs F18 T D_law_cell_at D_law_mix D_law_doors, PySem.W.mg_of X G a18, k18, b18⟩
  have D_law_rows : DefAt l.prog w K mg base 1 "_law_rows" ["wide", "high", "signs"] spLawRows := ⟨_, _, ok_law_rows F19 T, PySem.W.mg_of X G a19, k19, b19⟩
  have D_law_rowsG : DefAt l.prog w K mg base 1 "_law_rows" ["wide", "high", "signs"] spLawRowsG := ⟨_, _, ok_law_rowsG F19 T, PySem.W.mg_of X G a19, k19, b19⟩
  have D_law_put : DefAt l.prog w K mg base 1 "_law_put" ["rows", "down", "along", "sign"] spPut := ⟨_, _, ok_law_put F20 T, PySem.W.mg_of X G a20, k20, b20⟩
  have D_law_large : DefAt l.prog w K mg base 2 "_law_large" ["cell"] spLarge := ⟨_, _, ok_law_large F21 T D_law_doorsG D_law_rowsG, PySem.W.mg_of X G a21, k21, b21⟩
  have D_law_spoiled : DefAt l.prog w K mg base 3 "_law_spoiled" ["rows", "way", "cell", "wide", "high"] spSpoiled := ⟨_, _, ok_law_spoiled F22 T D_law_put D_law_large, PySem.W.mg_of X G a22, k22, b22⟩
  have D_law_refused : DefAt l.prog w K mg base 7 "_law_refused" ["text"] spRefusedT := ⟨_, _, ok_law_refused F23 T Z D_read1, PySem.W.mg_of X G a23, k23, b23⟩
  exact ok_law F24 T D_law_cell_at D_law_size D_law_signs D_law_rows D_law_spoiled D_law_refused D_read
theorem walk {l : PySem.W.OpenLaw} {q : Program} {loose : List Str} {XP : (Str → Option Value) → Heap → Prop} {as0 : List Addr} {nn tt : Nat} {d : DefRec} {K : Params → PySem.W.Frag} (hn : l.most = some 63) (hdf : d.params.defaults = [])
    (hkeys : ∀ P, as0 = (K P).map (·.1)) (hlow : ∀ w : World, lowT (K w.params) ≤ tt)
    (F : ∀ (w : World) (mg : Str → Option Value) (fa : Addr) (h : Heap), (K w.params).In h → h.Ns mainGlobals mg → mg d.name = some (.ref fa) →
      ∃ fd : FuncData, (∀ (s : Shared) (u : Value), BindsTo s fd ⟨[u], []⟩ [("script", u)]) ∧ ∀ base : Heap, (K w.params).In base → base.Ns mainGlobals mg → FnOk l.prog w (K w.params) mg base CX0 8 fa fd ["script"] (spLaw (K w.params))) :
    PySem.W.WalkX q loose XP (PySem.W.X.obsZ as0) (PySem.W.X.valZ K nn tt) l.row.toRowW d [] (fun f vs => PySem.call f vs) :=
  L2.walkX_of (n := 63) (k := 8) (x := "script") (sp := spLaw) hn (by decide) hdf ⟨rfl, by decide, by decide⟩ hkeys hlow F (fun _ _ a ns hl _ hS => ⟨a, ns, rfl, hS, hl, fun _ => rfl⟩)
end Sl
open PySem PySem.W PyProof.Rows
set_option maxRecDepth 100000 in
set_option maxHeartbeats 0 in
theorem PySem.Challenge.cw_sandline_k18_unread_holds : PySem.Challenge.rw_sandline_k18_unread.Holds := by
  w_on; o_law; z_head; (case hw => w_witness2)
  k_fill
  refine Sl.walk (l := PySem.Challenge.rw_sandline_k18_unread) rfl rfl (fun _ => by kernel_rfl) ?low ?F
  case low =>
    intro w
    refine' L2.low_of ?g ?h
    (case g => k_is)
    (case h => exact Nat.le_of_ble_eq_true rfl)
  case F =>
    intro w mg fa h KX G hmg
    refine' Sl.all_mk KX G hmg ?aC ?a0 ?l0 ?c0 ?k0 ?a1 ?l1 ?c1 ?k1 ?a2 ?i2 ?l2 ?c2 ?k2 ?a3 ?i3 ?l3 ?c3 ?k3 ?a4 ?i4 ?l4 ?c4 ?k4 ?a5 ?i5 ?l5 ?c5 ?k5 ?a6 ?i6 ?l6 ?c6 ?k6 ?a7 ?l7 ?c7 ?k7 ?a8 ?l8 ?c8 ?k8 ?a9 ?l9 ?c9 ?k9 ?a10 ?l10 ?c10 ?k10 ?a11 ?l11 ?c11 ?k11 ?a12 ?l12 ?c12 ?k12 ?a13 ?l13 ?c13 ?k13 ?a14 ?l14 ?c14 ?k14 ?a15 ?l15 ?c15 ?k15 ?a16 ?l16 ?c16 ?k16 ?a17 ?l17 ?c17 ?k17 ?a18 ?l18 ?c18 ?k18 ?a19 ?l19 ?c19 ?k19 ?a20 ?l20 ?c20 ?k20 ?a21 ?l21 ?c21 ?k21 ?a22 ?l22 ?c22 ?k22 ?a23 ?l23 ?c23 ?k23 ?a24 ?l24 ?c24 ?k24 ?pg ?hd ?po ?sa ?mk ?kc ?nW ?nH ?nS ?g1 ?g2 ?g3 ?g4 ?g5 ?xN ?x1 ?x3 ?x4 ?x5 ?x2 ?xq ?xga ?xgt ?xfc ?xfg ?xft ?xmb ?xmo ?xk1 ?xk2 ?xk3 ?xk4 ?xk5 ?z_range ?z_len ?z_min ?z_isinstance ?z_int ?z_bool ?z_tuple ?z_list ?z_str ?z_dict ?z_sorted ?z_enumerate ?vk ?v5
    (case aC => k_is)
    (case a0 => k_is)
    (case l0 => k_is)
    (case c0 => k_is)
    (case k0 => k_is)
    (case a1 => k_is)
    (case l1 => k_is)
    (case c1 => k_is)
    (case k1 => k_is)
    (case a2 => k_is)
    (case i2 => k_is)
    (case l2 => k_is)
    (case c2 => k_is)
    (case k2 => k_is)
    (case a3 => k_is)
    (case i3 => k_is)
    (case l3 => k_is)
    (case c3 => k_is)
    (case k3 => k_is)
    (case a4 => k_is)
    (case i4 => k_is)
    (case l4 => k_is)
    (case c4 => k_is)
    (case k4 => k_is)
    (case a5 => k_is)
    (case i5 => k_is)
    (case l5 => k_is)
    (case c5 => k_is)
    (case k5 => k_is)
    (case a6 => k_is)
    (case i6 => k_is)
    (case l6 => k_is)
    (case c6 => k_is)
    (case k6 => k_is)
    (case a7 => k_is)
    (case l7 => k_is)
    (case c7 => k_is)
    (case k7 => k_is)
    (case a8 => k_is)
    (case l8 => k_is)
    (case c8 => k_is)
    (case k8 => k_is)
    (case a9 => k_is)
    (case l9 => k_is)
    (case c9 => k_is)
    (case k9 => k_is)
    (case a10 => k_is)
    (case l10 => k_is)
    (case c10 => k_is)
    (case k10 => k_is)
    (case a11 => k_is)
    (case l11 => k_is)
    (case c11 => k_is)
    (case k11 => k_is)
    (case a12 => k_is)
    (case l12 => k_is)
    (case c12 => k_is)
    (case k12 => k_is)
    (case a13 => k_is)
    (case l13 => k_is)
    (case c13 => k_is)
    (case k13 => k_is)
    (case a14 => k_is)
    (case l14 => k_is)
    (case c14 => k_is)
    (case k14 => k_is)
    (case a15 => k_is)
    (case l15 => k_is)
    (case c15 => k_is)
    (case k15 => k_is)
    (case a16 => k_is)
    (case l16 => k_is)
    (case c16 => k_is)
    (case k16 => k_is)
    (case a17 => k_is)
    (case l17 => k_is)
    (case c17 => k_is)
    (case k17 => k_is)
    (case a18 => k_is)
    (case l18 => k_is)
    (case c18 => k_is)
    (case k18 => k_is)
    (case a19 => k_is)
    (case l19 => k_is)
    (case c19 => k_is)
    (case k19 => k_is)
    (case a20 => k_is)
    (case l20 => k_is)
    (case c20 => k_is)
    (case k20 => k_is)
    (case a21 => k_is)
    (case l21 => k_is)
    (case c21 => k_is)
    (case k21 => k_is)
    (case a22 => k_is)
    (case l22 => k_is)
    (case c22 => k_is)
    (case k22 => k_is)
    (case a23 => k_is)
    (case l23 => k_is)
    (case c23 => k_is)
    (case k23 => k_is)
    (case a24 => k_is)
    (case l24 => k_is)
    (case c24 => k_is)
    (case k24 => k_is)
    (case pg => k_is)
    (case hd => k_is)
    (case po => k_is)
    (case sa => k_is)
    (case mk => k_is)
    (case kc => k_is)
    (case nW => k_is)
    (case nH => k_is)
    (case nS => k_is)
    (case g1 => k_is)
    (case g2 => k_is)
    (case g3 => k_is)
    (case g4 => k_is)
    (case g5 => k_is)
    (case xN => k_is)
    (case x1 => k_is)
    (case x3 => k_is)
    (case x4 => k_is)
    (case x5 => k_is)
    (case x2 => k_is)
    (case xq => k_exc)
    (case xga => k_is)
    (case xgt => k_is)
    (case xfc => k_is)
    (case xfg => k_is)
    (case xft => k_is)
    (case xmb => k_is)
    (case xmo => k_is)
    (case xk1 => kit_is)
    (case xk2 => kit_is)
    (case xk3 => kit_is)
    (case xk4 => kit_is)
    (case xk5 => kit_is)
    (case z_range => k_is)
    (case z_len => k_is)
    (case z_min => k_is)
    (case z_isinstance => k_is)
    (case z_int => k_is)
    (case z_bool => k_is)
    (case z_tuple => k_is)
    (case z_list => k_is)
    (case z_str => k_is)
    (case z_dict => k_is)
    (case z_sorted => k_is)
    (case z_enumerate => k_is)
    (case vk => exact Nat.succ_ne_zero _)
    (case v5 => exact ⟨by decide, .cons ⟨_, rfl⟩ (.cons ⟨_, rfl⟩ (.cons ⟨_, rfl⟩ .nil))⟩)