import PyProof.Rows.All
import Wide.All
import OpenK.AllK
import Wide.FinOn
import Lean
import PyProof.EqAt
import PyProof.EqKinds
import PyProof.TupleCall
import PyProof.NeKinds
import PyProof.EnumMake
import PyProof.Rows.SeqMore2
import PyProof.ZipIter
import PyProof.Rows.SortRev
import PyProof.Rows.SortWalk
import PyProof.Rows.CallKwBuiltin
import PyProof.DictIter
import PyProof.DictWalks
import PyProof.MeetsDict
import PyProof.Conv_int_bool
import PyProof.EqAt
import PyProof.CollectWalk
import PyProof.Rows.SortShell
import PyProof.Rows.Range3
import PyProof.CallFns
import PyProof.StrBlockH
import PySem.Challenge.RW_turnroots_k18_roots_counted
set_option Elab.async false
set_option linter.all false
set_option maxRecDepth 100000
set_option maxHeartbeats 8000000
set_option Elab.async false
set_option linter.all false
set_option maxRecDepth 100000
namespace L2
open PySem PySem.Spec PyProof.Rows
abbrev Key := Sum Int Str
def keyIs : Key → Value → Bool
  | .inl k, v => Value.isInt k v
  | .inr x, v => Value.isStrOf x v
def keyH (w : World) : Key → Int
  | .inl k => hashInt k
  | .inr x => hashStr w x
theorem keyIs_shape : ∀ {k : Key} {v : Value}, keyIs k v = true → (∃ i t, k = Sum.inl i ∧ v = Value.int i t) ∨ (∃ x t, k = Sum.inr x ∧ v = Value.str x t)
  | .inl i, v, h => by
    obtain ⟨t, e⟩ := Value.isInt_shape (k := i) (v := v) h
    exact .inl ⟨i, t, rfl, e⟩
  | .inr x, v, h => by
    obtain ⟨t, e⟩ := Value.isStrOf_shape (x := x) (v := v) h
    exact .inr ⟨x, t, rfl, e⟩
theorem keyIs_int (i : Int) (t : Tok) : keyIs (.inl i) (.int i t) = true := by simp [keyIs, Value.isInt]
theorem keyIs_str (x : Str) (t : Tok) : keyIs (.inr x) (.str x t) = true := by simp [keyIs, Value.isStrOf]
theorem key_ll (a b : Int) : decide ((Sum.inl a : Key) = Sum.inl b) = (a == b) := by
  by_cases e : a = b
  · subst e; simp
  · have h : ¬ (Sum.inl a : Key) = Sum.inl b := fun q => e (Sum.inl.inj q)
    rw [decide_eq_false h]
    exact (beq_eq_false_iff_ne.mpr e).symm
theorem key_rr (a b : Str) : decide ((Sum.inr a : Key) = Sum.inr b) = decide (a = b) := by
  by_cases e : a = b
  · subst e; simp
  · have h : ¬ (Sum.inr a : Key) = Sum.inr b := fun q => e (Sum.inr.inj q)
    rw [decide_eq_false h, decide_eq_false e]
theorem key_lr (a : Int) (b : Str) : decide ((Sum.inl a : Key) = Sum.inr b) = false := decide_eq_false (fun q => nomatch q)
theorem key_rl (a : Str) (b : Int) : decide ((Sum.inr a : Key) = Sum.inl b) = false := decide_eq_false (fun q => nomatch q)
def mixKind (prog : Program) (w : World) : PySem.KeyKind prog w Key where
  is := keyIs
  hash := keyH w
  inj := fun v a b ha hb => by
    rcases keyIs_shape ha with ⟨i, t, rfl, rfl⟩ | ⟨x, t, rfl, rfl⟩
    · rcases keyIs_shape hb with ⟨j, u, rfl, e⟩ | ⟨y, u, rfl, e⟩
      · injection e with e1 _; rw [e1]
      · exact nomatch e
    · rcases keyIs_shape hb with ⟨j, u, rfl, e⟩ | ⟨y, u, rfl, e⟩
      · exact nomatch e
      · injection e with e1 _; rw [e1]
  byValue := fun k v h => by
    rcases keyIs_shape h with ⟨i, t, rfl, rfl⟩ | ⟨x, t, rfl, rfl⟩ <;> rfl
  pyHash := fun hv h => by
    rcases keyIs_shape hv with ⟨i, t, rfl, rfl⟩ | ⟨x, t, rfl, rfl⟩
    · exact wpAny_pyHash_int h
    · exact wpAny_pyHash_str h
  eqBool := fun hu hv h => by
    rcases keyIs_shape hu with ⟨i, t, rfl, rfl⟩ | ⟨x, t, rfl, rfl⟩
    · rcases keyIs_shape hv with ⟨j, u, rfl, rfl⟩ | ⟨y, u, rfl, rfl⟩
      · rw [key_ll] at h; exact wpAny_eqBool_int h
      · rw [key_lr] at h; exact SeqAt.EqAt.int_str i t y u _ _ _ _ h
    · rcases keyIs_shape hv with ⟨j, u, rfl, rfl⟩ | ⟨y, u, rfl, rfl⟩
      · rw [key_rl] at h; exact SeqAt.EqAt.str_int x t j u _ _ _ _ h
      · rw [key_rr] at h; exact wpAny_eqBool_str h
  «strs» := fun k x t v h => by
    rcases keyIs_shape h with ⟨i, u, rfl, e⟩ | ⟨y, u, rfl, e⟩
    · exact nomatch e
    · injection e with e1 _
      subst e1
      cases v <;> rfl
theorem mixKind_int (prog : Program) (w : World) (i : Int) (t : Tok) : (mixKind prog w).is (.inl i) (.int i t) = true := keyIs_int i t
theorem mixKind_str (prog : Program) (w : World) (x : Str) (t : Tok) : (mixKind prog w).is (.inr x) (.str x t) = true := keyIs_str x t
end L2
namespace L2
open PySem PySem.Spec PyProof.Rows
inductive V where
  | non | bl (b : Bool) | int (i : Int) | str (x : Str) | byt (b : Array UInt8) | flt (b : UInt64) | ref (a : Addr) | ty (n : String)
  deriving DecidableEq
def RelV : V → Value → Prop
  | .non, u => u = Value.none
  | .bl b, u => u = Value.bool b
  | .int i, u => ∃ t, u = Value.int i t
  | .str x, u => ∃ t, u = Value.str x t
  | .byt b, u => ∃ t, u = Value.bytes b t
  | .flt b, u => ∃ t, u = Value.float b t
  | .ref a, u => u = Value.ref a
  | .ty n, u => u = Value.type n
abbrev Vals : List V → List Value → Prop := Paired RelV
theorem Vals.length {xs : List V} {us : List Value} (r : Vals xs us) : xs.length = us.length := Paired.length r
theorem Vals.get : ∀ {xs : List V} {us : List Value} {i : Nat} {x : V}, Vals xs us → xs[i]? = some x → ∃ u, us[i]? = some u ∧ RelV x u
  | _, _, _, _, .nil, e => by simp at e
  | _, _, 0, _, .cons r _, e => by simp at e; subst e; exact ⟨_, rfl, r⟩
  | _, _, i + 1, x, .cons _ t, e => by
    obtain ⟨u, h1, h2⟩ := Vals.get (i := i) (x := x) t (by simpa using e)
    exact ⟨u, by simpa using h1, h2⟩
theorem Vals.set {x : V} {u : Value} (r : RelV x u) : ∀ {xs : List V} {us : List Value} (i : Nat), Vals xs us → Vals (xs.set i x) (us.set i u)
  | _, _, _, .nil => .nil
  | _, _, 0, .cons _ t => .cons r t
  | _, _, i + 1, .cons q t => .cons q (Vals.set r i t)
theorem Vals.append : ∀ {xs ys : List V} {us ws : List Value}, Vals xs us → Vals ys ws → Vals (xs ++ ys) (us ++ ws)
  | _, _, _, _, .nil, s => s
  | _, _, _, _, .cons r t, s => .cons r (Vals.append t s)
theorem Vals.take : ∀ {xs : List V} {us : List Value} (n : Nat), Vals xs us → Vals (xs.take n) (us.take n)
  | _, _, 0, _ => .nil
  | _, _, _ + 1, .nil => .nil
  | _, _, n + 1, .cons r t => .cons r (Vals.take n t)
theorem Vals.drop : ∀ {xs : List V} {us : List Value} (n : Nat), Vals xs us → Vals (xs.drop n) (us.drop n)
  | _, _, 0, r => r
  | _, _, _ + 1, .nil => .nil
  | _, _, n + 1, .cons _ t => Vals.drop n t
def RelO : Option V → Option Value → Prop
  | some v, some u => RelV v u
  | none, none => True
  | _, _ => False
def KV {κ : Type} : List (κ × V) → List (κ × Value) → Prop := Paired fun (p : κ × V) (q : κ × Value) => p.1 = q.1 ∧ RelV p.2 q.2
def kV : Key → V
  | .inl i => .int i
  | .inr x => .str x
inductive HO where
  | lst (xs : List V)
  | tup (xs : List V)
  | dK (kvs : List (Key × V)) | dT (kvs : List (List Key × V))
  | set (S : Int → Bool) (n : Nat)
  | ins (C dx : Addr) (fs : List (Str × V))
  | own (x : Addr)
  | xd (fs : List (Str × V))
  | met (f x : Addr)
  | rng (lo hi : Int)
  | frz (o : Obj) (u : HO)
  | tbl (ps : Array Value)
  | ext (φ : Heap → Prop)
abbrev Hp := Addr → Option HO
def upd (H : Hp) (a : Addr) (o : HO) : Hp := fun b => if b = a then some o else H b
theorem upd_same {H : Hp} {a : Addr} {o : HO} : upd H a o a = some o := by unfold upd; rw [if_pos rfl]
theorem upd_ne {H : Hp} {a b : Addr} {o : HO} (h : b ≠ a) : upd H a o b = H b := by unfold upd; rw [if_neg h]
theorem upd_upd {H : Hp} {a : Addr} {o u : HO} : upd (upd H a o) a u = upd H a u := by
  funext b; unfold upd; split <;> rfl
theorem ne_of {H : Hp} {a b : Addr} {o u : HO} (h : H a = some o) (h' : H b = some u) (d : o ≠ u) : a ≠ b := by
  intro e; subst e; rw [h] at h'; exact d (Option.some.inj h')
theorem ne_of_none {H : Hp} {a b : Addr} {o : HO} (h : H a = some o) (h' : H b = none) : a ≠ b := by
  intro e; subst e; rw [h] at h'; cases h'
section
variable (P : Program) (w : World)
def ObjOk (H : Hp) (h : Heap) (a : Addr) : HO → Prop
  | .lst xs => xs.length ≤ sizeLine ∧ ∃ (its : List Value) (n : Nat), Vals xs its ∧ h.get? a = some { cls := .type "list", data := .seq its.toArray n }
  | .tup xs => xs.length ≤ sizeLine ∧ ∃ its : List Value, Vals xs its ∧ IsTup h a its.toArray
  | .dK kvs => kvs.length ≤ sizeLine ∧ (a == sysModules) = false ∧ ∃ vs, KV kvs vs ∧ h.DictOf (mixKind P w) a vs
  | .dT kvs => kvs.length ≤ sizeLine ∧ (a == sysModules) = false ∧ ∃ xs : List (List Key × Addr × Value),
      Paired (fun (p : List Key × V) (q : List Key × Addr × Value) => p.1 = q.1 ∧ H q.2.1 = some (.tup (p.1.map kV)) ∧ RelV p.2 q.2.2) kvs xs ∧
      ∃ o es ep, h.get? a = some o ∧ o.ExactDict ∧ o.data = .dict es ep ∧ es.toList = xs.map (entryOfKey (tupleKind (mixKind P w))) ∧ (xs.map (·.1)).Nodup
  | .set S n => h.SetOf (intKind P w) a S n
  | .ins C dx fs => H dx = some (.own a) ∧ fs.length ≤ 1000 ∧ dx ≠ a ∧ h.get? a = some (PySem.W.instObj C dx) ∧
      ∃ mA, h.Ns1 dx mA ∧ (∀ f, RelO (fs.lookup f) (mA f)) ∧ PySem.Within mA (fs.map (·.1))
  | .own _ => ∃ o, h.get? a = some o
  | .xd fs => ∃ mA, h.Ns1 a mA ∧ ∀ f, RelO (fs.lookup f) (mA f)
  | .rng lo hi => ∃ t u v, h.get? a = some { cls := .type "range", data := .fields #[.int lo t, .int hi u, .int 1 v] }
  | .frz o u => h.get? a = some o ∧ ObjOk H h a u
  | .tbl ps => h.get? a = some { cls := .none, data := .fields ps }
  | .met f x => h.get? a = some (PySem.W.methodObj (.ref f) (.ref x))
  | .ext φ => φ h ∧ (∃ o, h.get? a = some o) ∧ ∀ h1 h2 : Heap, φ h1 → (∀ o, h1.get? a = some o → h2.get? a = some o) → φ h2
def HOk (H : Hp) (h : Heap) : Prop := ∀ a o, H a = some o → ObjOk P w H h a o
end
section
variable {P : Program} {w : World} {H H' : Hp} {h h' : Heap} {a : Addr} {o : HO}
theorem ObjOk.lt (x : ObjOk P w H h a o) : a < h.objs.size := by
  cases o with
  | lst xs => obtain ⟨_, _, _, _, e⟩ := x; exact Heap.lt_size e
  | tup xs => obtain ⟨_, _, _, p⟩ := x; exact p.lt
  | dK kvs => obtain ⟨_, _, _, _, o, _, _, e, _⟩ := x; exact Heap.lt_size e
  | dT kvs => obtain ⟨_, _, _, _, o, _, _, e, _⟩ := x; exact Heap.lt_size e
  | set S n => obtain ⟨o, _, _, _, e, _⟩ := x; exact Heap.lt_size e
  | ins C dx fs => obtain ⟨_, _, _, e, _⟩ := x; exact Heap.lt_size e
  | own y => obtain ⟨_, e⟩ := x; exact Heap.lt_size e
  | xd fs => obtain ⟨_, ⟨_, _, _, e, _⟩, _⟩ := x; exact Heap.lt_size e
  | rng lo hi => obtain ⟨_, _, _, e⟩ := x; exact Heap.lt_size e
  | frz ob u => obtain ⟨e, _⟩ := x; exact Heap.lt_size e
  | tbl ps => exact Heap.lt_size (show h.get? a = some _ from x)
  | met f y => exact Heap.lt_size (show h.get? a = some _ from x)
  | ext φ => obtain ⟨_, ⟨_, e⟩, _⟩ := x; exact Heap.lt_size e
theorem Paired.mapP {α β : Type} {F G : α → β → Prop} : ∀ {l₁ : List α} {l₂ : List β}, Paired F l₁ l₂ → (∀ a b, F a b → G a b) → Paired G l₁ l₂
  | _, _, .nil, _ => .nil
  | _, _, .cons r t, f => .cons (f _ _ r) (Paired.mapP t f)
theorem ObjOk.stay (x : ObjOk P w H h a o) (k : ∀ b u, (b = a ∨ H b = some (.own a)) → h.get? b = some u → h'.get? b = some u)
    (ho : ∀ b, H b = some (.own a) → H' b = some (.own a)) (ht : ∀ b xs, H b = some (.tup xs) → H' b = some (.tup xs)) : ObjOk P w H' h' a o := by
  induction o with
  | lst xs => obtain ⟨z, its, n, r, e⟩ := x; exact ⟨z, its, n, r, k _ _ (.inl rfl) e⟩
  | tup xs => obtain ⟨z, its, r, ob, e, c⟩ := x; exact ⟨z, its, r, ob, k _ _ (.inl rfl) e, c⟩
  | dK kvs => obtain ⟨z, y, vs, r, ob, es, ep, e, c⟩ := x; exact ⟨z, y, vs, r, ob, es, ep, k _ _ (.inl rfl) e, c⟩
  | dT kvs =>
    obtain ⟨z, y, xs, r, ob, es, ep, e, c⟩ := x
    exact ⟨z, y, xs, Paired.mapP r fun p q z => ⟨z.1, ht _ _ z.2.1, z.2.2⟩, ob, es, ep, k _ _ (.inl rfl) e, c⟩
  | set S n => obtain ⟨ob, es, ep, t, e, c⟩ := x; exact ⟨ob, es, ep, t, k _ _ (.inl rfl) e, c⟩
  | ins C dx fs =>
    obtain ⟨d, z, ne, e, mA, ⟨od, es, ep, e2, c⟩, r⟩ := x
    exact ⟨ho _ d, z, ne, k _ _ (.inl rfl) e, mA, ⟨od, es, ep, k _ _ (.inr d) e2, c⟩, r⟩
  | own y => obtain ⟨ob, e⟩ := x; exact ⟨ob, k _ _ (.inl rfl) e⟩
  | xd fs => obtain ⟨mA, ⟨od, es, ep, e, c⟩, r⟩ := x; exact ⟨mA, ⟨od, es, ep, k _ _ (.inl rfl) e, c⟩, r⟩
  | rng lo hi => obtain ⟨t, u, v, e⟩ := x; exact ⟨t, u, v, k _ _ (.inl rfl) e⟩
  | frz ob u ih => obtain ⟨e, q⟩ := x; exact ⟨k _ _ (.inl rfl) e, ih q⟩
  | tbl ps =>
    have e : h.get? a = some { cls := .none, data := .fields ps } := x
    show h'.get? a = some { cls := .none, data := .fields ps }
    exact k a _ (.inl rfl) e
  | met f y =>
    have e : h.get? a = some (PySem.W.methodObj (.ref f) (.ref y)) := x
    show h'.get? a = some (PySem.W.methodObj (.ref f) (.ref y))
    exact k a _ (.inl rfl) e
  | ext φ => obtain ⟨p, ⟨o, e⟩, st⟩ := x; exact ⟨st _ _ p fun o q => k _ _ (.inl rfl) q, ⟨o, k _ _ (.inl rfl) e⟩, st⟩
theorem HOk.lt (x : HOk P w H h) (e : H a = some o) : a < h.objs.size := (x a o e).lt
theorem HOk.fresh (x : HOk P w H h) (e : h.objs.size ≤ a) : H a = none := by
  cases q : H a with
  | none => rfl
  | some u => exact absurd (Nat.lt_of_lt_of_le (x.lt q) e) (Nat.lt_irrefl _)
theorem HOk.kept (x : HOk P w H h) (k : ∀ b u, h.get? b = some u → h'.get? b = some u) : HOk P w H h' := fun a o e =>
  (x a o e).stay (fun b u _ q => k b u q) (fun _ q => q) fun _ _ q => q
theorem HOk.laid (x : HOk P w H h) (k : ∀ b u, h.get? b = some u → h'.get? b = some u) (hp : h.objs.size ≤ a) (new : ObjOk P w (upd H a o) h' a o) : HOk P w (upd H a o) h' := fun b u e => by
  have hn := x.fresh hp
  by_cases hb : b = a
  · subst hb; rw [upd_same] at e; cases e; exact new
  · rw [upd_ne hb] at e
    exact (x b u e).stay (fun c v _ q => k c v q) (fun c q => by rw [upd_ne (ne_of_none q hn)]; exact q) fun c xs q => by rw [upd_ne (ne_of_none q hn)]; exact q
end
def Rd (H : Hp) (a : Addr) (u : HO) : Prop := H a = some u ∨ ∃ o, H a = some (.frz o u)
theorem Rd.ok {P : Program} {w : World} {H : Hp} {h : Heap} {a : Addr} {u : HO} (r : Rd H a u) (x : HOk P w H h) : ObjOk P w H h a u := by
  rcases r with r | ⟨o, r⟩
  · exact x a u r
  · obtain ⟨_, q⟩ := x a _ r
    exact q
def Mut : Option HO → Prop
  | some (.lst _) => True
  | some (.dK _) => True
  | some (.dT _) => True
  | some (.set _ _) => True
  | some (.ins _ _ _) => True
  | some (.ext _) => True
  | _ => False
section
variable {P : Program} {w : World} {H : Hp} {h h' : Heap} {x e : Addr} {o' : HO}
theorem HOk.write (ok : HOk P w H h) (mu : Mut (H x)) (he : e = x ∨ H e = some (.own x)) (k : ∀ b u, b ≠ e → h.get? b = some u → h'.get? b = some u) (heo : ∃ u, h'.get? e = some u)
    (new : ObjOk P w (upd H x o') h' x o') : HOk P w (upd H x o') h' := fun b u q => by
  have nown : ∀ c y, H c = some (.own y) → c ≠ x := fun c y r z => by subst z; rw [r] at mu; exact mu
  have ntup : ∀ c xs, H c = some (.tup xs) → c ≠ x := fun c xs r z => by subst z; rw [r] at mu; exact mu
  by_cases hb : b = x
  · subst hb; rw [upd_same] at q; cases q; exact new
  · rw [upd_ne hb] at q
    by_cases hbe : b = e
    · have q' : H b = some (.own x) := by
        rcases he with z | z
        · exact absurd (hbe.trans z) hb
        · rw [hbe]; exact z
      rw [q] at q'; cases q'
      obtain ⟨v, hv⟩ := heo
      exact ⟨v, by rw [hbe]; exact hv⟩
    · refine (ok b u q).stay (fun c v hc r => k c v ?_ r) (fun c r => by rw [upd_ne (nown c b r)]; exact r) fun c xs r => by rw [upd_ne (ntup c xs r)]; exact r
      rcases hc with rfl | hc
      · exact hbe
      · rintro rfl
        rcases he with z | z
        · exact nown c b hc z
        · rw [hc] at z; cases z; exact hb rfl
end
structure Un (fs ex : List Addr) (H H' : Hp) (h h' : Heap) : Prop where
  keep : ∀ b o, h.get? b = some o → H b = none → b ∉ fs → b ∉ ex → h'.get? b = some o
  slot : ∀ b o, h.get? b = some o → H b = none → b ∈ fs → b ∉ ex → ∃ sl, h'.get? b = some { o with slots := sl }
  free : ∀ b o, h.get? b = some o → H b = none → b ∉ ex → H' b = none
  there : ∀ b o, h.get? b = some o → b ∉ ex → ∃ o', h'.get? b = some o'
  tups : ∀ b xs, H b = some (.tup xs) → H' b = some (.tup xs)
  frzs : ∀ b o u, H b = some (.frz o u) → H' b = some (.frz o u)
  tbls : ∀ b ps, H b = some (.tbl ps) → ∃ more, H' b = some (.tbl (ps ++ more))
section
variable {fs fs' ex ex' : List Addr} {H H1 H2 : Hp} {h h1 h2 h' : Heap} {a x e : Addr} {o : HO}
theorem Un.any (u : Un fs ex H H1 h h1) {b : Addr} {ob : Obj} (q : h.get? b = some ob) (n : H b = none) (hx : b ∉ ex) : ∃ sl, h1.get? b = some { ob with slots := sl } := by
  by_cases hb : b ∈ fs
  · exact u.slot b ob q n hb hx
  · exact ⟨ob.slots, u.keep b ob q n hb hx⟩
theorem Un.kept (k : ∀ b u, h.get? b = some u → h'.get? b = some u) : Un fs ex H H h h' :=
  ⟨fun b ob q _ _ _ => k b ob q, fun b ob q _ _ _ => ⟨ob.slots, k b ob q⟩, fun _ _ _ n _ => n, fun b ob q _ => ⟨ob, k b ob q⟩, fun _ _ q => q, fun _ _ _ q => q, fun _ ps q => ⟨#[], by rw [q]; simp⟩⟩
theorem Un.refl : Un fs ex H H h h := Un.kept fun _ _ q => q
theorem Un.laid (k : ∀ b u, h.get? b = some u → h'.get? b = some u) (hp : h.objs.size ≤ a) (hn : H a = none) : Un fs ex H (upd H a o) h h' where
  keep := fun b u q _ _ _ => k b u q
  slot := fun b u q _ _ _ => ⟨u.slots, k b u q⟩
  free := fun b u q n _ => by rw [upd_ne (Nat.ne_of_lt (Nat.lt_of_lt_of_le (Heap.lt_size q) hp))]; exact n
  there := fun b u q _ => ⟨u, k b u q⟩
  tups := fun b xs q => by rw [upd_ne (ne_of_none q hn)]; exact q
  frzs := fun b u xs q => by rw [upd_ne (ne_of_none q hn)]; exact q
  tbls := fun b ps q => ⟨#[], by rw [upd_ne (ne_of_none q hn), q]; simp⟩
theorem Un.write (mu : Mut (H x)) (he : e = x ∨ H e = some (.own x)) (k : ∀ b u, b ≠ e → h.get? b = some u → h'.get? b = some u) (heo : ∃ u, h'.get? e = some u) : Un fs ex H (upd H x o) h h' := by
  have hx : ∀ b, H b = none → b ≠ x := fun b n z => by subst z; rw [n] at mu; exact mu
  have hb : ∀ b, H b = none → b ≠ e := fun b n z => by
    subst z
    rcases he with r | r
    · exact hx b n r
    · rw [n] at r; cases r
  have hm : ∀ b u, H b = some u → ¬ Mut (some u) → b ≠ x := fun b u q nm z => by subst z; rw [q] at mu; exact nm mu
  refine ⟨fun b u q n _ _ => k b u (hb b n) q, fun b u q n _ _ => ⟨u.slots, k b u (hb b n) q⟩, fun b u q n _ => by rw [upd_ne (hx b n)]; exact n, fun b u q _ => ?_,
    fun b xs q => by rw [upd_ne (hm b _ q fun z => z)]; exact q, fun b u xs q => by rw [upd_ne (hm b _ q fun z => z)]; exact q, fun b ps q => ⟨#[], by rw [upd_ne (hm b _ q fun z => z), q]; simp⟩⟩
  by_cases hbe : b = e
  · subst hbe; exact heo
  · exact ⟨u, k b u hbe q⟩
end
def trk (h : Heap) (H : Hp) : List Addr := (List.range h.objs.size).filter fun a => (H a).isSome
def hidT (h : Heap) (H : Hp) : Heap := PySem.W.hideAll h (trk h H)
theorem hidT_size (h : Heap) (H : Hp) : (hidT h H).objs.size = h.objs.size := PySem.W.hideAll_size _ _
theorem hidT_get {h : Heap} {H : Hp} {b : Addr} {o : Obj} (e : h.get? b = some o) (n : H b = none) : (hidT h H).get? b = some o :=
  PySem.W.hideAll_get _ e fun hm => by
    have q : (H b).isSome = true := (List.mem_filter.mp hm).2
    rw [n] at q; simp at q
theorem of_hidT {h : Heap} {H : Hp} {b : Addr} {o : Obj} (e : (hidT h H).get? b = some o) : h.get? b = some o ∧ H b = none := by
  have e' : h.get? b = some o := PySem.W.of_hideAll (trk h H) e
  refine ⟨e', ?_⟩
  cases q : H b with
  | none => rfl
  | some x =>
    have hm : b ∈ trk h H := List.mem_filter.mpr ⟨List.mem_range.mpr (Heap.lt_size e'), by simp [q]⟩
    have z : (hidT h H).get? b = none := PySem.W.hideAll_none (trk h H) hm
    rw [z] at e; cases e
end L2
namespace L2
open PySem PySem.Spec PyProof.Rows
structure Mod (K : PySem.W.Frag) (mg : Str → Option Value) (base : Heap) : Prop where
  kin : K.In base
  glob : base.Ns mainGlobals mg
  blt : ∃ mb, base.Ns builtinsNs mb ∧ ∀ x : Str, x ≠ "__name__" → mb x = bootBuiltins x
  nolimit : base.NoLimit
structure Cx where
  prog : Program
  w : World
  K : PySem.W.Frag
  mg : Str → Option Value
  base : Heap
  A : Around
  N : List Str
  s₀ : Shared
  H₀ : Hp
  env : Env
  outer : List Env
  stack : List Env
  ex : List Addr
  fn : Str → Bool
  calm : Bool
  pn : List (Addr × Obj)
  xe : Value → Shared → Prop
def frs (l : List Env) : List Addr := l.filterMap (·.frame)
abbrev Cx.fs (X : Cx) : List Addr := frs X.outer
def Vis (sc : Scope) (x : Str) : Prop := sc.names.lookup x = some .local ∨ sc.names.lookup x = some .cell ∨ sc.names.lookup x = some .free
def Loc (sc : Scope) (x : Str) : Prop := sc.names.lookup x = some .local ∨ sc.names.lookup x = some .cell
def Look (env : Env) (h : Heap) (m : Str → Option Value) (x : Str) (u : Value) : Prop :=
  (env.kindOf x = some .local ∧ m x = some u) ∨ ((env.kindOf x = some .cell ∨ env.kindOf x = some .free) ∧ ∃ c, env.cells.lookup x = some c ∧ h.IsCell c (some u))
structure Cx.Ok (X : Cx) : Prop where
  mod : Mod X.K X.mg X.base
  kind : X.env.scope.kind = .function
  glob : X.env.globals = mainGlobals
  blt : X.env.builtins = builtinsNs
  above : X.s₀.heap.objs.size ≤ X.env.locals
  inj : ∀ x y c, X.env.cells.lookup x = some c → X.env.cells.lookup y = some c → x = y
  has : ∀ x, (X.env.kindOf x = some .cell ∨ X.env.kindOf x = some .free) → ∃ c, X.env.cells.lookup x = some c
  cab : ∀ x c, X.fn x = true → X.env.cells.lookup x = some c → X.s₀.heap.objs.size ≤ c
  hd : X.calm = true → X.A.handled = none
  frames : X.A.frames = some X.stack
  stk : X.stack = X.outer ∨ (X.stack = X.env :: X.outer ∧ X.env.frame = some X.env.locals)
  exf : ∀ b ∈ X.ex, b ≠ X.env.locals ∧ ∀ x c, X.env.cells.lookup x = some c → c ≠ b
  bs : ∀ b o, X.base.get? b = some o → X.s₀.heap.get? b = some o ∧ X.H₀ b = none
  bsz : X.base.objs.size ≤ X.s₀.heap.objs.size
  noex : ∀ b o, X.base.get? b = some o → b ∉ X.ex
  exfs : ∀ b ∈ X.ex, b ∉ X.fs
  funs : X.s₀.heap.FunFrames X.base X.outer
  frf : ∀ b ∈ X.fs, X.H₀ b = none
structure Inv (X : Cx) (pins : List (Addr × Obj)) (σ : List (Option V)) (H : Hp) (s : Shared) : Prop where
  ok : X.Ok
  os : s.os = X.s₀.os
  bare : AllBare s.gens
  base : Un X.fs X.ex X.H₀ H X.s₀.heap s.heap
  loc : ∃ m, s.heap.Ns X.env.locals m ∧ ∀ (i : Nat) (x : Str) (v : V), X.N[i]? = some x → σ[i]? = some (some v) → Vis X.env.scope x → ∃ u, RelV v u ∧ Look X.env s.heap m x u
  cell : ∀ x c, X.env.cells.lookup x = some c → ∃ v, s.heap.IsCell c v
  free : H X.env.locals = none
  freeC : ∀ x c, X.env.cells.lookup x = some c → H c = none
  pin : ∀ p ∈ X.pn ++ pins, s.heap.get? p.1 = some p.2 ∧ H p.1 = none ∧ p.1 ≠ X.env.locals ∧ p.1 ∉ X.fs ∧ ∀ v, p.2.data ≠ .cell v
  hok : HOk X.prog X.w H s.heap
  len : σ.length = X.N.length
section
variable {X : Cx} {pins : List (Addr × Obj)} {σ : List (Option V)} {H H' : Hp} {s : Shared} {h' : Heap}
theorem Cx.Ok.nofr (ok : X.Ok) {b : Addr} {o : Obj} (e : X.base.get? b = some o) : b ∉ X.fs := fun hb => by
  have := (ok.funs.mem hb).1
  rw [e] at this; cases this
theorem Inv.bs (I : Inv X pins σ H s) : ∀ b o, X.base.get? b = some o → s.heap.get? b = some o ∧ H b = none := fun b o e =>
  ⟨I.base.keep b o (I.ok.bs b o e).1 (I.ok.bs b o e).2 (I.ok.nofr e) (I.ok.noex b o e), I.base.free b o (I.ok.bs b o e).1 (I.ok.bs b o e).2 (I.ok.noex b o e)⟩
theorem Inv.bk (I : Inv X pins σ H s) : ∀ b o, X.base.get? b = some o → s.heap.get? b = some o := fun b o e => (I.bs b o e).1
theorem Inv.mod (I : Inv X pins σ H s) : Mod X.K X.mg X.base := I.ok.mod
theorem Inv.kIn (I : Inv X pins σ H s) : X.K.In s.heap := I.ok.mod.kin.keeps I.bk
theorem Inv.lt (I : Inv X pins σ H s) : X.env.locals < s.heap.objs.size := let ⟨_, hn, _⟩ := I.loc; hn.lt
theorem Inv.sz (I : Inv X pins σ H s) : X.s₀.heap.objs.size ≤ s.heap.objs.size := Nat.le_trans I.ok.above (Nat.le_of_lt I.lt)
theorem Inv.nofs (I : Inv X pins σ H s) {a : Addr} (h : s.heap.objs.size ≤ a) : a ∉ X.fs := fun hb => by
  obtain ⟨_, o, ho, _⟩ := I.ok.funs.mem hb
  exact absurd (Nat.lt_of_lt_of_le (Heap.lt_size ho) (Nat.le_trans I.sz h)) (Nat.lt_irrefl _)
theorem Inv.cne (I : Inv X pins σ H s) : ∀ x c, X.env.cells.lookup x = some c → c ≠ X.env.locals := fun x c e z => by
  obtain ⟨v, o, ho, hd⟩ := I.cell x c e
  obtain ⟨m, ⟨o', es, ep, ho', hd', _⟩, _⟩ := I.loc
  rw [z, ho'] at ho; cases ho; rw [hd'] at hd; cases hd
theorem Inv.funs (I : Inv X pins σ H s) : s.heap.FunFrames X.base X.outer := by
  have all : ∀ (l : List Env), (∀ b ∈ frs l, b ∈ X.fs) → X.s₀.heap.FunFrames X.base l → s.heap.FunFrames X.base l := by
    intro l
    induction l with
    | nil => intro _ _; trivial
    | cons env r ih =>
      intro hs hl
      obtain ⟨hk, ⟨L, o, hf, hn, ho, hd⟩, hr⟩ := hl
      have hL : L ∈ X.fs := hs L (by unfold frs; rw [List.filterMap_cons, hf]; exact List.mem_cons_self)
      obtain ⟨sl, e⟩ := I.base.slot L o ho (I.ok.frf L hL) hL fun z => I.ok.exfs L z hL
      exact ⟨hk, ⟨L, _, hf, hn, e, hd⟩, ih (fun b hb => hs b (by unfold frs; rw [List.filterMap_cons, hf]; exact List.mem_cons_of_mem _ hb)) hr⟩
  exact all X.outer (fun _ hb => hb) I.ok.funs
theorem Inv.stack (I : Inv X pins σ H s) : s.heap.FunFrames X.base X.stack := by
  rcases I.ok.stk with e | ⟨e, hf⟩
  · rw [e]; exact I.funs
  · rw [e]
    obtain ⟨m, hn, _⟩ := I.loc
    refine .cons (by rw [I.ok.kind]; decide) hf hn ?_ I.funs
    exact Heap.get?_none_of_le (Nat.le_trans I.ok.bsz I.ok.above)
theorem Inv.stkSub (I : Inv X pins σ H s) : ∀ b ∈ frs X.stack, b ∈ X.env.locals :: X.fs := fun b hb => by
  rcases I.ok.stk with e | ⟨e, hf⟩
  · rw [e] at hb; exact List.mem_cons_of_mem _ hb
  · rw [e] at hb
    unfold frs at hb
    rw [List.filterMap_cons, hf] at hb
    exact hb
theorem Inv.stkFree (I : Inv X pins σ H s) : ∀ b ∈ frs X.stack, H b = none := fun b hb => by
  rcases List.mem_cons.mp (I.stkSub b hb) with e | hb
  · rw [e]; exact I.free
  · obtain ⟨_, o, ho, _⟩ := I.ok.funs.mem hb
    exact I.base.free b o ho (I.ok.frf b hb) fun z => I.ok.exfs b z hb
theorem Inv.step {g' : Array GenState} {t' : Nat} {d' : Drawn} {ch : List Addr} (I : Inv X pins σ H s)
    (hch : ∀ b ∈ ch, (b ∈ X.ex ∨ X.s₀.heap.objs.size ≤ b) ∧ b ≠ X.env.locals ∧ (∀ x c, X.env.cells.lookup x = some c → c ≠ b) ∧ ∀ p ∈ X.pn ++ pins, p.1 ≠ b)
    (keep : ∀ b o, b ≠ X.env.locals → b ∉ X.fs → b ∉ ch → s.heap.get? b = some o → H b = none → h'.get? b = some o)
    (slot : ∀ b o, b ≠ X.env.locals → b ∈ X.fs → b ∉ ch → s.heap.get? b = some o → H b = none → ∃ sl, h'.get? b = some { o with slots := sl }) (free : ∀ b o, b ∉ ch → s.heap.get? b = some o → H b = none → H' b = none)
    (there : ∀ b o, b ∉ ch → s.heap.get? b = some o → ∃ o', h'.get? b = some o')
    (tups : ∀ b xs, H b = some (.tup xs) → H' b = some (.tup xs)) (frzs : ∀ b o u, H b = some (.frz o u) → H' b = some (.frz o u)) (tbls : ∀ b ps, H b = some (.tbl ps) → ∃ more, H' b = some (.tbl (ps ++ more)))
    (ns : ∀ m, s.heap.Ns X.env.locals m → h'.Ns X.env.locals m) (hok : HOk X.prog X.w H' h') (hg : AllBare g') :
    Inv X pins σ H' { s with heap := h', gens := g', drawn := d', toks := t' } := by
  have neL : ∀ b o, X.s₀.heap.get? b = some o → b ≠ X.env.locals := fun b o e => Nat.ne_of_lt (Nat.lt_of_lt_of_le (Heap.lt_size e) I.ok.above)
  have neC : ∀ b o, X.s₀.heap.get? b = some o → b ∉ X.ex → b ∉ ch := fun b o e hx hb => by
    rcases (hch b hb).1 with z | z
    · exact hx z
    · exact absurd (Nat.lt_of_lt_of_le (Heap.lt_size e) z) (Nat.lt_irrefl _)
  have cellK : ∀ x c, X.env.cells.lookup x = some c → ∀ v, s.heap.IsCell c v → h'.IsCell c v := fun x c e v ⟨o, ho, hd⟩ => by
    have nch : c ∉ ch := fun z => (hch c z).2.2.1 x c e rfl
    by_cases hc : c ∈ X.fs
    · obtain ⟨sl, q⟩ := slot c o (I.cne x c e) hc nch ho (I.freeC x c e)
      exact ⟨_, q, hd⟩
    · exact ⟨o, keep c o (I.cne x c e) hc nch ho (I.freeC x c e), hd⟩
  refine ⟨I.ok, I.os, hg, ⟨fun b o e n hb hx => ?_, fun b o e n hb hx => ?_, fun b o e n hx => ?_, fun b o e hx => ?_, fun b xs e => tups b xs (I.base.tups b xs e), fun b o xs e => frzs b o xs (I.base.frzs b o xs e), fun b ps e => ?_⟩, ?_, fun x c e => ?_, ?_, fun x c e => ?_, fun p hp => ?_, hok, I.len⟩
  · exact keep b o (neL b o e) hb (neC b o e hx) (I.base.keep b o e n hb hx) (I.base.free b o e n hx)
  · obtain ⟨sl, e1⟩ := I.base.slot b o e n hb hx
    obtain ⟨sl', e2⟩ := slot b _ (neL b o e) hb (neC b o e hx) e1 (I.base.free b o e n hx)
    exact ⟨sl', e2⟩
  · obtain ⟨o', e1⟩ := I.base.there b o e hx
    exact free b o' (neC b o e hx) e1 (I.base.free b o e n hx)
  · obtain ⟨o', e1⟩ := I.base.there b o e hx
    exact there b o' (neC b o e hx) e1
  · obtain ⟨m1, e1⟩ := I.base.tbls b ps e
    obtain ⟨m2, e2⟩ := tbls b _ e1
    exact ⟨m1 ++ m2, by rw [e2, Array.append_assoc]⟩
  · obtain ⟨m, hn, hl⟩ := I.loc
    refine ⟨m, ns m hn, fun i x v e1 e2 e3 => ?_⟩
    obtain ⟨u, r, l⟩ := hl i x v e1 e2 e3
    refine ⟨u, r, ?_⟩
    rcases l with l | ⟨k, c, e, z⟩
    · exact .inl l
    · exact .inr ⟨k, c, e, cellK x c e _ z⟩
  · obtain ⟨v, z⟩ := I.cell x c e
    exact ⟨v, cellK x c e v z⟩
  · obtain ⟨m, ⟨o, _, _, ho, _⟩, _⟩ := I.loc
    exact free _ o (fun z => (hch _ z).2.1 rfl) ho I.free
  · obtain ⟨v, o, ho, hd⟩ := I.cell x c e
    exact free c o (fun z => (hch c z).2.2.1 x c e rfl) ho (I.freeC x c e)
  · obtain ⟨e, n, ne, nf, d⟩ := I.pin p hp
    have nch : p.1 ∉ ch := fun z => (hch p.1 z).2.2.2 p hp rfl
    exact ⟨keep p.1 p.2 ne nf nch e n, free p.1 p.2 nch e n, ne, nf, d⟩
theorem Inv.un {t' : Nat} (I : Inv X pins σ H s) (u : Un X.fs [] H H' s.heap h') (hok : HOk X.prog X.w H' h') : Inv X pins σ H' { s with heap := h', toks := t' } := by
  obtain ⟨m, ⟨o, es, ep, ho, r⟩, _⟩ := id I.loc
  obtain ⟨sl, hL⟩ := u.any ho I.free (by simp)
  exact I.step (g' := s.gens) (d' := s.drawn) (ch := []) (fun _ z => nomatch z) (fun b o _ hb _ e n => u.keep b o e n hb (by simp)) (fun b o _ hb _ e n => u.slot b o e n hb (by simp)) (fun b o _ e n => u.free b o e n (by simp)) (fun b o _ e => u.there b o e (by simp)) u.tups u.frzs u.tbls (fun m' hm => by
    obtain ⟨o', es', ep', ho', r'⟩ := hm
    rw [ho] at ho'; cases ho'
    exact ⟨_, es', ep', hL, r'⟩) hok I.bare
theorem Inv.call {g' : Array GenState} {t' : Nat} {d' : Drawn} {ch : List Addr} (I : Inv X pins σ H s) (u : Un (frs X.stack) ch H H' s.heap h') (hok : HOk X.prog X.w H' h') (hg : AllBare g')
    (hch : ∀ b ∈ ch, (b ∈ X.ex ∨ X.s₀.heap.objs.size ≤ b) ∧ b ≠ X.env.locals ∧ (∀ x c, X.env.cells.lookup x = some c → c ≠ b) ∧ ∀ p ∈ X.pn ++ pins, p.1 ≠ b) :
    Inv X pins σ H' { s with heap := h', gens := g', drawn := d', toks := t' } := by
  obtain ⟨m, ⟨o, es, ep, ho, r⟩, _⟩ := id I.loc
  obtain ⟨sl, hL⟩ := u.any ho I.free fun z => (hch _ z).2.1 rfl
  exact I.step (ch := ch) hch (fun b o hL hb hc e n => u.keep b o e n (fun z => (List.mem_cons.mp (I.stkSub b z)).elim hL hb) hc) (fun b o _ _ hc e n => u.any e n hc) (fun b o hc e n => u.free b o e n hc) (fun b o hc e => u.there b o e hc) u.tups u.frzs u.tbls (fun m' hm => by
    obtain ⟨o', es', ep', ho', r'⟩ := hm
    rw [ho] at ho'; cases ho'
    exact ⟨_, es', ep', hL, r'⟩) hok hg
theorem Inv.turned {t' : Nat} {it : Addr} (I : Inv X pins σ H s) (k : ∀ b o, b ≠ it → s.heap.get? b = some o → h'.get? b = some o) (hn : H it = none) (hL : it ≠ X.env.locals)
    (h1 : it ∈ X.ex ∨ X.s₀.heap.objs.size ≤ it) (h2 : ∀ x c, X.env.cells.lookup x = some c → c ≠ it) (h3 : ∀ p ∈ X.pn ++ pins, p.1 ≠ it) : Inv X pins σ H { s with heap := h', toks := t' } := by
  have nit : ∀ b u, H b = some u → b ≠ it := fun b u e z => by rw [z, hn] at e; cases e
  refine I.step (g' := s.gens) (d' := s.drawn) (ch := [it]) (fun b hb => ?_) (fun b o _ _ hc e _ => k b o (fun z => hc (by simp [z])) e) (fun b o _ _ hc e _ => ⟨o.slots, k b o (fun z => hc (by simp [z])) e⟩) (fun _ _ _ _ n => n)
    (fun b o hc e => ⟨o, k b o (fun z => hc (by simp [z])) e⟩) (fun _ _ e => e) (fun _ _ _ e => e) (fun b ps e => ⟨#[], by rw [e]; simp⟩) (fun m hm => ?_) (fun b u e => ?_) I.bare
  · have e : b = it := by simpa using hb
    subst e
    exact ⟨h1, hL, h2, h3⟩
  · obtain ⟨o, es, ep, ho, r⟩ := hm
    exact ⟨o, es, ep, k _ o (Ne.symm hL) ho, r⟩
  · refine (I.hok b u e).stay (fun c v hc q => k c v ?_ q) (fun _ q => q) fun _ _ q => q
    rcases hc with z | z
    · rw [z]; exact nit b u e
    · exact nit c _ z
theorem Inv.tok (I : Inv X pins σ H s) (t : Nat) : Inv X pins σ H { s with toks := t } := I.un (h' := s.heap) (t' := t) Un.refl I.hok
theorem Inv.kept {t' : Nat} (I : Inv X pins σ H s) (k : ∀ b u, s.heap.get? b = some u → h'.get? b = some u) : Inv X pins σ H { s with heap := h', toks := t' } := I.un (Un.kept k) (I.hok.kept k)
theorem Inv.laid {a : Addr} {o : HO} {t' : Nat} (I : Inv X pins σ H s) (k : ∀ b u, s.heap.get? b = some u → h'.get? b = some u) (hp : s.heap.objs.size ≤ a) (new : ObjOk X.prog X.w (upd H a o) h' a o) :
    Inv X pins σ (upd H a o) { s with heap := h', toks := t' } := I.un (Un.laid k hp (I.hok.fresh hp)) (I.hok.laid k hp new)
theorem Inv.write {x e : Addr} {o : HO} {t' : Nat} (I : Inv X pins σ H s) (mu : Mut (H x)) (he : e = x ∨ H e = some (.own x)) (k : ∀ b u, b ≠ e → s.heap.get? b = some u → h'.get? b = some u) (heo : ∃ u, h'.get? e = some u)
    (new : ObjOk X.prog X.w (upd H x o) h' x o) : Inv X pins σ (upd H x o) { s with heap := h', toks := t' } := I.un (Un.write mu he k heo) (I.hok.write mu he k heo new)
theorem Inv.pins_of {pins' : List (Addr × Obj)} (I : Inv X pins σ H s) (h : ∀ p ∈ pins', s.heap.get? p.1 = some p.2 ∧ H p.1 = none ∧ p.1 ≠ X.env.locals ∧ p.1 ∉ X.fs ∧ ∀ v, p.2.data ≠ .cell v) : Inv X pins' σ H s :=
  ⟨I.ok, I.os, I.bare, I.base, I.loc, I.cell, I.free, I.freeC, fun p hp => (List.mem_append.mp hp).elim (fun z => I.pin p (List.mem_append_left _ z)) (h p), I.hok, I.len⟩
theorem nodup_ix {N : List Str} (hN : N.Nodup) {i j : Nat} {x : Str} (a : N[i]? = some x) (b : N[j]? = some x) : i = j := by
  obtain ⟨h1, e1⟩ := List.getElem?_eq_some_iff.mp a
  obtain ⟨h2, e2⟩ := List.getElem?_eq_some_iff.mp b
  exact (List.getElem_inj hN).mp (e1.trans e2.symm)
theorem store_ok2 {M : Model} {A : Around} {E : Value → Shared → Prop} {i : Nat} {x : Str} {v : V} {u : Value} {Q : Unit → Shared → Prop} (I : Inv X pins σ H s) (hN : X.N.Nodup) (hi : X.N[i]? = some x) (hx : Loc X.env.scope x) (r : RelV v u)
    (h : ∀ s', Inv X pins (σ.set i (some v)) H s' → (∃ a, Heap.SameBut a s.heap s'.heap ∧ (a = X.env.locals ∨ X.env.cells.lookup x = some a)) → Q () s') (hf : X.fn x = true ∨ X.env.scope.names.lookup x = some .local := by first | exact .inl rfl | exact .inr rfl | assumption) : wpAny M A (storeName X.env x u) Q E s := by
  obtain ⟨m, hn, hl⟩ := id I.loc
  have hcls : (X.env.scope.kind == .class || (X.env.scope.kind == .module && X.env.locals != X.env.globals)) = false := by rw [I.ok.kind]; rfl
  have hiσ : i < σ.length := by rw [I.len]; exact (List.getElem?_eq_some_iff.mp hi).1
  have cne := I.cne
  have tracked : ∀ {a : Addr} {h' : Heap}, (∃ o, s.heap.get? a = some o ∧ H a = none) → Heap.SameBut a s.heap h' → HOk X.prog X.w H h' := fun {a h'} ha hs b ob e => by
    obtain ⟨_, _, hfree⟩ := ha
    refine (I.hok b ob e).stay (fun c w' hc q => (hs.2 c ?_).trans q) (fun _ q => q) fun _ _ q => q
    rintro rfl
    rcases hc with rfl | hc
    · rw [hfree] at e; cases e
    · rw [hfree] at hc; cases hc
  rcases hx with hk | hk
  · refine wpAny_storeName_local hk hn (fun h' hn' hs => ?_) hcls
    obtain ⟨oL, _, _, hoL, _⟩ := id hn
    refine h _ ⟨I.ok, I.os, I.bare, ⟨fun b o e n hb hx => ?_, fun b o e n hb hx => ?_, I.base.free, fun b o e hx => ?_, I.base.tups, I.base.frzs, I.base.tbls⟩, ⟨_, hn', fun j y v' e1 e2 e3 => ?_⟩, fun y c e => ?_, I.free, I.freeC, fun p hp => ?_, tracked ⟨oL, hoL, I.free⟩ hs, by simpa using I.len⟩ ⟨_, hs, .inl rfl⟩
    · exact (hs.2 b (Nat.ne_of_lt (Nat.lt_of_lt_of_le (Heap.lt_size e) I.ok.above))).trans (I.base.keep b o e n hb hx)
    · obtain ⟨sl, e1⟩ := I.base.slot b o e n hb hx
      exact ⟨sl, (hs.2 b (Nat.ne_of_lt (Nat.lt_of_lt_of_le (Heap.lt_size e) I.ok.above))).trans e1⟩
    · obtain ⟨o', e1⟩ := I.base.there b o e hx
      exact ⟨o', (hs.2 b (Nat.ne_of_lt (Nat.lt_of_lt_of_le (Heap.lt_size e) I.ok.above))).trans e1⟩
    · by_cases hj : j = i
      · subst hj
        rw [hi] at e1; cases e1
        rw [List.getElem?_set_self hiσ] at e2
        cases e2
        exact ⟨u, r, .inl ⟨hk, by simp⟩⟩
      · rw [List.getElem?_set_ne (Ne.symm hj)] at e2
        obtain ⟨u', r', q⟩ := hl j y v' e1 e2 e3
        refine ⟨u', r', ?_⟩
        rcases q with ⟨k, e⟩ | ⟨k, c, e, z⟩
        · refine .inl ⟨k, ?_⟩
          have : y ≠ x := fun e => hj (nodup_ix hN e1 (e ▸ hi))
          simp [this, e]
        · exact .inr ⟨k, c, e, z.sameBut hs (cne y c e)⟩
    · obtain ⟨w', z⟩ := I.cell y c e
      exact ⟨w', z.sameBut hs (cne y c e)⟩
    · obtain ⟨e, n, ne, nf, d⟩ := I.pin p hp
      exact ⟨(hs.2 p.1 ne).trans e, n, ne, nf, d⟩
  · have hfn : X.fn x = true := by
      rcases hf with z | z
      · exact z
      · rw [z] at hk; cases hk
    obtain ⟨c, hc⟩ := I.ok.has x (.inl hk)
    obtain ⟨w', z⟩ := I.cell x c hc
    refine wpAny_storeName_cell I.ok.kind hk hc z (fun h' hc' hs => ?_)
    obtain ⟨oc, hoc, hocd⟩ := id z
    refine h { s with heap := h' } ⟨I.ok, I.os, I.bare, ⟨fun b o e n hb hx => ?_, fun b o e n hb hx => ?_, I.base.free, fun b o e hx => ?_, I.base.tups, I.base.frzs, I.base.tbls⟩, ⟨m, hn.sameBut hs (Ne.symm (cne x c hc)), fun j y v' e1 e2 e3 => ?_⟩, fun y c' e => ?_, I.free, I.freeC, fun p hp => ?_, tracked ⟨oc, hoc, I.freeC x c hc⟩ hs, by simpa using I.len⟩ ⟨c, hs, .inr hc⟩
    · exact (hs.2 b (Nat.ne_of_lt (Nat.lt_of_lt_of_le (Heap.lt_size e) (I.ok.cab x c hfn hc)))).trans (I.base.keep b o e n hb hx)
    · obtain ⟨sl, e1⟩ := I.base.slot b o e n hb hx
      exact ⟨sl, (hs.2 b (Nat.ne_of_lt (Nat.lt_of_lt_of_le (Heap.lt_size e) (I.ok.cab x c hfn hc)))).trans e1⟩
    · obtain ⟨o', e1⟩ := I.base.there b o e hx
      exact ⟨o', (hs.2 b (Nat.ne_of_lt (Nat.lt_of_lt_of_le (Heap.lt_size e) (I.ok.cab x c hfn hc)))).trans e1⟩
    · by_cases hj : j = i
      · subst hj
        rw [hi] at e1; cases e1
        rw [List.getElem?_set_self hiσ] at e2
        cases e2
        exact ⟨u, r, .inr ⟨.inl hk, c, hc, hc'⟩⟩
      · rw [List.getElem?_set_ne (Ne.symm hj)] at e2
        obtain ⟨u', r', q⟩ := hl j y v' e1 e2 e3
        refine ⟨u', r', ?_⟩
        rcases q with q | ⟨k, c', e, z'⟩
        · exact .inl q
        · refine .inr ⟨k, c', e, z'.sameBut hs ?_⟩
          rintro rfl
          exact hj (nodup_ix hN e1 (I.ok.inj _ _ _ e hc ▸ hi))
    · by_cases hcc : c' = c
      · subst hcc; exact ⟨_, hc'⟩
      · obtain ⟨w2, z2⟩ := I.cell y c' e
        exact ⟨w2, z2.sameBut hs hcc⟩
    · obtain ⟨e, n, ne, nf, d⟩ := I.pin p hp
      refine ⟨(hs.2 p.1 ?_).trans e, n, ne, nf, d⟩
      intro q
      rw [q, hoc] at e
      have q' : oc = p.2 := Option.some.inj e
      exact d w' (by rw [← q']; exact hocd)
theorem store_ok {M : Model} {A : Around} {E : Value → Shared → Prop} {i : Nat} {x : Str} {v : V} {u : Value} {Q : Unit → Shared → Prop} (I : Inv X pins σ H s) (hN : X.N.Nodup) (hi : X.N[i]? = some x) (hx : Loc X.env.scope x) (r : RelV v u)
    (h : ∀ s', Inv X pins (σ.set i (some v)) H s' → Q () s') (hf : X.fn x = true ∨ X.env.scope.names.lookup x = some .local := by first | exact .inl rfl | exact .inr rfl | assumption) : wpAny M A (storeName X.env x u) Q E s :=
  store_ok2 I hN hi hx r (fun s' I' _ => h s' I') hf
theorem Inv.call' {s' : Shared} {ch : List Addr} (I : Inv X pins σ H s) (ho : s'.os = s.os) (u : Un (frs X.stack) ch H H' s.heap s'.heap) (hok : HOk X.prog X.w H' s'.heap) (hg : AllBare s'.gens)
    (hch : ∀ b ∈ ch, (b ∈ X.ex ∨ X.s₀.heap.objs.size ≤ b) ∧ b ≠ X.env.locals ∧ (∀ x c, X.env.cells.lookup x = some c → c ≠ b) ∧ ∀ p ∈ X.pn ++ pins, p.1 ≠ b) : Inv X pins σ H' s' := by
  obtain ⟨h', g', d', t', o'⟩ := s'
  have e : o' = s.os := ho
  subst e
  exact I.call (g' := g') (t' := t') (d' := d') u hok hg hch
end
abbrev XK := Value → Option Addr → Hp → Prop
abbrev St := List (Option V)
abbrev VK := V → Hp → Prop
abbrev TE := St → Hp → VK → Prop
abbrev TT := St → Hp → (Bool → Hp → Prop) → Prop
abbrev TA := St → Hp → (List V → Hp → Prop) → Prop
structure Ends where
  nx : St → Hp → Prop
  rt : VK
  bk : St → Hp → Prop := fun _ _ => False
  ct : St → Hp → Prop := fun _ _ => False
abbrev TS := Ends → St → Hp → Prop
def EP (X : Cx) (pins : List (Addr × Obj)) (σ : St) (Q : VK) (u : Value) (s' : Shared) : Prop := ∃ v H', Inv X pins σ H' s' ∧ RelV v u ∧ Q v H'
def TP (X : Cx) (pins : List (Addr × Obj)) (σ : St) (Q : Bool → Hp → Prop) (b : Bool) (s' : Shared) : Prop := ∃ H', Inv X pins σ H' s' ∧ Q b H'
def AP (X : Cx) (pins : List (Addr × Obj)) (σ : St) (Q : List V → Hp → Prop) (us : List Value) (s' : Shared) : Prop := ∃ vs H', Inv X pins σ H' s' ∧ Vals vs us ∧ Q vs H'
def SP (X : Cx) (pins : List (Addr × Obj)) (D : Ends) (f : Flow) (s' : Shared) : Prop :=
  match f with
  | .next => ∃ σ' H', Inv X pins σ' H' s' ∧ D.nx σ' H'
  | .brk => ∃ σ' H', Inv X pins σ' H' s' ∧ D.bk σ' H'
  | .cont => ∃ σ' H', Inv X pins σ' H' s' ∧ D.ct σ' H'
  | .ret u => ∃ v σ' H', Inv X pins σ' H' s' ∧ RelV v u ∧ D.rt v H'
def PE (X : Cx) (e : Expr) (t : TE) : Prop :=
  ∀ (pins : List (Addr × Obj)) (s : Shared) (σ : St) (H : Hp) (Q : VK), Inv X pins σ H s → t σ H Q → wpAny (model X.prog X.w) X.A (eval e X.env) (EP X pins σ Q) X.xe s
def PT (X : Cx) (e : Expr) (t : TT) : Prop :=
  ∀ (pins : List (Addr × Obj)) (s : Shared) (σ : St) (H : Hp) (Q : Bool → Hp → Prop), Inv X pins σ H s → t σ H Q → wpAny (model X.prog X.w) X.A (isTrue e X.env (eval e X.env)) (TP X pins σ Q) X.xe s
def PW (X : Cx) (e : Expr) (t : TT) : Prop :=
  ∀ (whole : Sem Value) (pins : List (Addr × Obj)) (s : Shared) (σ : St) (H : Hp) (Q : Bool → Hp → Prop), Inv X pins σ H s → t σ H Q → wpAny (model X.prog X.w) X.A (isTrue e X.env whole) (TP X pins σ Q) X.xe s
theorem PW.pt {X : Cx} {e : Expr} {t : TT} (h : PW X e t) : PT X e t := h _
def PA (X : Cx) (es : List Expr) (t : TA) : Prop :=
  ∀ (pos : Pos) (pins : List (Addr × Obj)) (s : Shared) (σ : St) (H : Hp) (Q : List V → Hp → Prop), Inv X pins σ H s → t σ H Q → wpAny (model X.prog X.w) X.A (spliced (backTo pos (starEach es X.env))) (AP X pins σ Q) X.xe s
def PS (X : Cx) (st : Stmt) (t : TS) : Prop :=
  ∀ (pins : List (Addr × Obj)) (s : Shared) (σ : St) (H : Hp) (D : Ends), Inv X pins σ H s → t D σ H → wpAny (model X.prog X.w) X.A (exec st X.env) (SP X pins D) X.xe s
def PSs (X : Cx) (st : List Stmt) (t : TS) : Prop :=
  ∀ (pins : List (Addr × Obj)) (s : Shared) (σ : St) (H : Hp) (D : Ends), Inv X pins σ H s → t D σ H → wpAny (model X.prog X.w) X.A (execs st X.env) (SP X pins D) X.xe s
theorem thn {α : Type} {t : Sem α} {Q Q' : α → Shared → Prop} {M : Model} {A : Around} {E : Value → Shared → Prop} {s : Shared} (h : wpAny M A t Q E s) (hQ : ∀ a s, Q a s → Q' a s) : wpAny M A t Q' E s := wpAny_mono h hQ fun _ _ x => x
end L2
namespace L2
open PySem PySem.Spec PyProof.Rows
section
variable {X : Cx}
theorem bin {a b : Expr} {ta tb : TE} (ha : PE X a ta) (hb : PE X b tb) {pins : List (Addr × Obj)} {s : Shared} {σ : St} {H : Hp} {R : V → V → Hp → Prop} (I : Inv X pins σ H s) (h : ta σ H fun x H1 => tb σ H1 fun y H2 => R x y H2)
    {α : Type} {Q : α → Shared → Prop} {f : Value → Value → Sem α}
    (hf : ∀ v u s2 x y H2, Inv X pins σ H2 s2 → RelV x v → RelV y u → R x y H2 → wpAny (model X.prog X.w) X.A (f v u) Q X.xe s2) :
    wpAny (model X.prog X.w) X.A (eval a X.env) (fun v s₁ => wpAny (model X.prog X.w) X.A (eval b X.env) (fun u s₂ => wpAny (model X.prog X.w) X.A (f v u) Q X.xe s₂) X.xe s₁) X.xe s := by
  refine thn (ha pins s σ H _ I h) fun v s1 ⟨x, H1, I1, r1, q1⟩ => ?_
  refine thn (hb pins s1 σ H1 _ I1 q1) fun u s2 ⟨y, H2, I2, r2, q2⟩ => ?_
  exact hf v u s2 x y H2 I2 r1 r2 q2
def tVar (i : Nat) : TE := fun σ H Q => ∃ v, σ[i]? = some (some v) ∧ Q v H
def tC (v : V) : TE := fun _ H Q => Q v H
theorem pe_var {i : Nat} {x : Str} {pos : Pos} (hN : X.N[i]? = some x) (hv : Vis X.env.scope x) (hd : (x == ("__debug__" : Str)) = false := by decide) (hcd : (x == ("__classdict__" : Str)) = false := by decide) : PE X (.Name x pos) (tVar i) := by
  intro pins s σ H Q I h
  obtain ⟨v, e, h⟩ := h
  obtain ⟨m, hn, hl⟩ := I.loc
  obtain ⟨u, r, l⟩ := hl i x v hN e hv
  have fin : EP X pins σ Q u s := ⟨v, H, I, r, h⟩
  rcases l with ⟨hk, hm⟩ | ⟨hk, c, hc, hcell⟩
  · exact wpAny_Name (wpAny_loadName_local I.ok.kind hk hn hm fin) hd
  · rcases hk with hk | hk
    · exact wpAny_Name (wpAny_loadName_cell I.ok.kind hk hc hcell fin) hd
    · exact wpAny_Name (wpAny_loadName_free I.ok.kind hk hc hcell fin hcd) hd
theorem pe_int {i j pos} : PE X (.Constant (.int i) j pos) (tC (.int i)) := fun _ _ _ H _ I h => wpAny_Constant_int ⟨.int i, H, I.tok _, ⟨_, rfl⟩, h⟩
theorem pe_bl {b j pos} : PE X (.Constant (.bool b) j pos) (tC (.bl b)) := fun _ _ _ H _ I h => Constant_bool ⟨.bl b, H, I, rfl, h⟩
theorem pe_non {j pos} : PE X (.Constant .none j pos) (tC .non) := fun _ _ _ H _ I h => Constant_none ⟨.non, H, I, rfl, h⟩
theorem pe_str {x j pos} : PE X (.Constant (.str x) j pos) (tC (.str x)) := fun _ _ _ H _ I h => Calls.Constant_str ⟨.str x, H, I.tok _, ⟨_, rfl⟩, h⟩
def Gl (X : Cx) (x : Str) : Prop := X.env.kindOf x = some .globalImplicit
theorem ld_glob {E : Value → Shared → Prop} {pins : List (Addr × Obj)} {s : Shared} {σ : St} {H : Hp} {x : Str} {u : Value} {pos : Pos} {Q : Value → Shared → Prop} (I : Inv X pins σ H s) (hg : Gl X x) (hm : X.mg x = some u) (h : Q u s)
    (hd : (x == ("__debug__" : Str)) = false := by decide) : wpAny (model X.prog X.w) X.A (eval (.Name x pos) X.env) Q E s :=
  Calls.Name_function_global I.ok.kind hg (Calls.loadGlobal_global (by rw [I.ok.glob]; exact I.mod.glob.keeps I.bk) hm h) hd
theorem ld_blt {E : Value → Shared → Prop} {pins : List (Addr × Obj)} {s : Shared} {σ : St} {H : Hp} {x : Str} {u : Value} {pos : Pos} {Q : Value → Shared → Prop} (I : Inv X pins σ H s) (hg : Gl X x) (hm : X.mg x = none) (hv : bootBuiltins x = some u) (h : Q u s)
    (hn : x ≠ "__name__" := by decide) (hd : (x == ("__debug__" : Str)) = false := by decide) : wpAny (model X.prog X.w) X.A (eval (.Name x pos) X.env) Q E s := by
  obtain ⟨mb, h1, h2⟩ := I.mod.blt
  exact Calls.Name_function_global I.ok.kind hg (Calls.loadGlobal_builtin (by rw [I.ok.glob]; exact I.mod.glob.keeps I.bk) hm (by rw [I.ok.blt]; exact h1.keeps I.bk) ((h2 x hn).trans hv) h) hd
theorem pe_glob {x : Str} {v : V} {u : Value} {pos : Pos} (hg : Gl X x) (hm : X.mg x = some u) (r : RelV v u) (hd : (x == ("__debug__" : Str)) = false := by decide) : PE X (.Name x pos) (tC v) :=
  fun _ _ _ H _ I h => ld_glob I hg hm ⟨v, H, I, r, h⟩ hd
theorem pe_bltn {x : Str} {v : V} {u : Value} {pos : Pos} (hg : Gl X x) (hm : X.mg x = none) (hv : bootBuiltins x = some u) (r : RelV v u) (hn : x ≠ "__name__" := by decide) (hd : (x == ("__debug__" : Str)) = false := by decide) : PE X (.Name x pos) (tC v) :=
  fun _ _ _ H _ I h => ld_blt I hg hm hv ⟨v, H, I, r, h⟩ hn hd
variable {a b : Expr} {ta tb : TE} {pos : Pos}
def PC (X : Cx) (op : CmpOp) (a b : Expr) (t : TE) : Prop :=
  ∀ (pins : List (Addr × Obj)) (s : Shared) (σ : St) (H : Hp) (Q : VK), Inv X pins σ H s → t σ H Q →
    wpAny (model X.prog X.w) X.A (eval a X.env) (fun v s₁ => wpAny (model X.prog X.w) X.A (eval b X.env) (fun u s₂ => wpAny (model X.prog X.w) X.A (compareOp op v u) (EP X pins σ Q) X.xe s₂) X.xe s₁) X.xe s
def tB (t : TE) : TT := fun σ H Q => t σ H fun x H1 => ∃ c, x = .bl c ∧ Q c H1
theorem pt_cmp {op : CmpOp} {t : TE} (h : PC X op a b t) (h1 : behindInMarks op b = false := by first | exact nobehind _ (by decide) (by decide) | rfl) : PT X (.Compare a [op] [b] pos) (tB t) := by
  intro pins s σ H Q I hw
  refine wpAny_isTrue_Compare1 (thn (h pins s σ H _ I hw) fun v s1 h1 => thn h1 fun u s2 h2 => thn h2 fun c s3 ⟨x, H1, I1, r1, q1⟩ => ?_) h1
  obtain ⟨d, rfl, q⟩ := q1
  cases r1
  exact wpAny_truthy_bool ⟨H1, I1, q⟩
theorem pt_val {e : Expr} {t : TE} (h : PE X e t) (he : ∀ whole, isTrue e X.env whole = (do let v ← whole; standAt e.pos; holding [v] (truthy v)) := by intro _; rfl) : PT X e (tB t) := by
  intro pins s σ H Q I hw
  refine isTrue_plain (thn (h pins s σ H _ I hw) fun v s1 ⟨x, H1, I1, r1, q1⟩ => ?_) (he _)
  obtain ⟨d, rfl, q⟩ := q1
  cases r1
  exact wpAny_truthy_bool ⟨H1, I1, q⟩
variable {tA tB' : TT} {rest : List Expr}
def tAnd (t u : TT) : TT := fun σ H Q => t σ H fun c H1 => if c = true then u σ H1 Q else Q false H1
def tOr (t u : TT) : TT := fun σ H Q => t σ H fun c H1 => if c = true then Q true H1 else u σ H1 Q
def tNot (t : TT) : TT := fun σ H Q => t σ H fun c H1 => Q (!c) H1
theorem pw_and1 (ha : PT X a tA) : PW X (.BoolOp .And [a] pos) tA := by
  intro wh pins s σ H Q I h
  refine isTrue_and (thn (ha pins s σ H Q I h) fun c s1 e => ?_)
  cases c with
  | true => exact isTrue_and_nil e
  | false => exact e
theorem pw_or1 (ha : PT X a tA) : PW X (.BoolOp .Or [a] pos) tA := by
  intro wh pins s σ H Q I h
  refine isTrue_or (thn (ha pins s σ H Q I h) fun c s1 e => ?_)
  cases c with
  | false => exact isTrue_or_nil e
  | true => exact e
theorem pw_and (ha : PT X a tA) (hb : PW X (.BoolOp .And (b :: rest) pos) tB') : PW X (.BoolOp .And (a :: b :: rest) pos) (tAnd tA tB') := by
  intro wh pins s σ H Q I h
  refine isTrue_and (thn (ha pins s σ H _ I h) fun c s1 ⟨H1, I1, q1⟩ => ?_)
  cases c with
  | true => exact hb wh pins s1 σ H1 Q I1 q1
  | false => exact ⟨H1, I1, q1⟩
theorem pw_or (ha : PT X a tA) (hb : PW X (.BoolOp .Or (b :: rest) pos) tB') : PW X (.BoolOp .Or (a :: b :: rest) pos) (tOr tA tB') := by
  intro wh pins s σ H Q I h
  refine isTrue_or (thn (ha pins s σ H _ I h) fun c s1 ⟨H1, I1, q1⟩ => ?_)
  cases c with
  | true => exact ⟨H1, I1, q1⟩
  | false => exact hb wh pins s1 σ H1 Q I1 q1
theorem pt_not (ha : PT X a tA) : PT X (.UnaryOp .Not a pos) (tNot tA) := by
  intro pins s σ H Q I h
  exact isTrue_not (ha pins s σ H (fun c H1 => Q (!c) H1) I h)
def tAndV (ta tb : TE) : TE := fun σ H Q => ta σ H fun x H1 => ∃ c, x = .bl c ∧ if c = true then tb σ H1 Q else Q (.bl false) H1
def tOrV (ta tb : TE) : TE := fun σ H Q => ta σ H fun x H1 => ∃ c, x = .bl c ∧ if c = true then Q (.bl true) H1 else tb σ H1 Q
def tNotV (ta : TE) : TE := fun σ H Q => ta σ H fun x H1 => ∃ c, x = .bl c ∧ Q (.bl (!c)) H1
theorem pe_one {op} {t : TE} (h : PE X a t) : PE X (.BoolOp op [a] pos) t := fun pins s σ H Q I hw => BoolOp_one (h pins s σ H Q I hw)
theorem pe_and (ha : PE X a ta) (hb : PE X (.BoolOp .And (b :: rest) pos) tb) : PE X (.BoolOp .And (a :: b :: rest) pos) (tAndV ta tb) := by
  intro pins s σ H Q I h
  refine BoolOp_and (thn (ha pins s σ H _ I h) fun v s1 ⟨x, H1, I1, r1, q1⟩ => ?_)
  obtain ⟨c, rfl, q1⟩ := q1
  cases r1
  refine wpAny_truthy_bool ?_
  cases c with
  | true => exact hb pins s1 σ H1 Q I1 q1
  | false => exact ⟨.bl false, H1, I1, rfl, q1⟩
theorem pe_or (ha : PE X a ta) (hb : PE X (.BoolOp .Or (b :: rest) pos) tb) : PE X (.BoolOp .Or (a :: b :: rest) pos) (tOrV ta tb) := by
  intro pins s σ H Q I h
  refine BoolOp_or (thn (ha pins s σ H _ I h) fun v s1 ⟨x, H1, I1, r1, q1⟩ => ?_)
  obtain ⟨c, rfl, q1⟩ := q1
  cases r1
  refine wpAny_truthy_bool ?_
  cases c with
  | false => exact hb pins s1 σ H1 Q I1 q1
  | true => exact ⟨.bl true, H1, I1, rfl, q1⟩
theorem pe_not (ha : PE X a ta) : PE X (.UnaryOp .Not a pos) (tNotV ta) := by
  intro pins s σ H Q I h
  refine UnaryOp_ (thn (ha pins s σ H _ I h) fun v s1 ⟨x, H1, I1, r1, q1⟩ => ?_)
  obtain ⟨c, rfl, q1⟩ := q1
  cases r1
  exact not_of (wpAny_truthy_bool ⟨.bl (!c), H1, I1, rfl, q1⟩)
end
end L2
namespace L2
open PySem PySem.Spec PyProof.Rows
def SqL (K : PySem.W.Frag) (H : Hp) (a : Addr) (xs : List V) : Prop :=
  Rd H a (.lst xs) ∨
    ∃ (o : Obj) (its : Array Value) (n : Nat), K.lookup a = some o ∧ o.cls = .type "list" ∧ o.dict = none ∧ o.data = .seq its n ∧ its.size ≤ sizeLine ∧ Vals xs its.toList
def SqT (K : PySem.W.Frag) (H : Hp) (a : Addr) (xs : List V) : Prop :=
  Rd H a (.tup xs) ∨
    ∃ (o : Obj) (its : Array Value) (n : Nat), K.lookup a = some o ∧ o.cls = .type "tuple" ∧ o.data = .seq its n ∧ its.size ≤ sizeLine ∧ Vals xs its.toList
def absV : Value → Option V
  | .none => some .non
  | .bool b => some (.bl b)
  | .int i _ => some (.int i)
  | .str x _ => some (.str x)
  | .bytes b _ => some (.byt b)
  | .float b _ => some (.flt b)
  | .ref a => some (.ref a)
  | .type n => some (.ty n)
  | _ => none
theorem RelV.abs {x : V} {u : Value} (r : RelV x u) : absV u = some x := by
  cases x with
  | non => cases r; rfl
  | bl _ => cases r; rfl
  | int _ => obtain ⟨t, rfl⟩ := r; rfl
  | str _ => obtain ⟨t, rfl⟩ := r; rfl
  | byt _ => obtain ⟨t, rfl⟩ := r; rfl
  | flt _ => obtain ⟨t, rfl⟩ := r; rfl
  | ref _ => cases r; rfl
  | ty _ => cases r; rfl
theorem RelV.inj {x y : V} {u : Value} (r : RelV x u) (q : RelV y u) : x = y := Option.some.inj (r.abs.symm.trans q.abs)
theorem Vals.inj : ∀ {xs ys : List V} {us : List Value}, Vals xs us → Vals ys us → xs = ys
  | _, _, _, .nil, .nil => rfl
  | _, _, _, .cons r t, .cons r' t' => by rw [r.inj r', Vals.inj t t']
section
variable {X : Cx} {pins : List (Addr × Obj)} {σ : St} {H : Hp} {s : Shared} {a : Addr} {xs ys : List V}
theorem SqL.of {K : PySem.W.Frag} (h : H a = some (.lst xs)) : SqL K H a xs := .inl (.inl h)
theorem SqT.of {K : PySem.W.Frag} (h : H a = some (.tup xs)) : SqT K H a xs := .inl (.inl h)
theorem Inv.list (I : Inv X pins σ H s) (h : SqL X.K H a xs) : ∃ its : List Value, Vals xs its ∧ PlainL s.heap a its.toArray ∧ xs.length ≤ sizeLine := by
  rcases h with h | ⟨o, its, n, hk, hc, hd, hs, hz, r⟩
  · obtain ⟨z, its, n, r, e⟩ := h.ok I.hok
    exact ⟨its, r, ⟨_, n, e, rfl, rfl, rfl⟩, z⟩
  · refine ⟨its.toList, r, ⟨o, n, I.kIn a o hk, hc, hd, by simpa using hs⟩, ?_⟩
    have e := r.length
    simp only [Array.length_toList] at e
    omega
theorem Inv.tuple (I : Inv X pins σ H s) (h : SqT X.K H a xs) : ∃ its : List Value, Vals xs its ∧ IsTup s.heap a its.toArray ∧ xs.length ≤ sizeLine := by
  rcases h with h | ⟨o, its, n, hk, hc, hs, hz, r⟩
  · obtain ⟨z, its, r, p⟩ := h.ok I.hok
    exact ⟨its, r, p, z⟩
  · refine ⟨its.toList, r, ⟨o, I.kIn a o hk, hc, n, by simpa using hs⟩, ?_⟩
    have e := r.length
    simp only [Array.length_toList] at e
    omega
theorem Inv.list_inj (I : Inv X pins σ H s) (h : SqL X.K H a xs) (h' : SqL X.K H a ys) : xs = ys := by
  obtain ⟨its, r, ⟨o, n, e, _, _, d⟩, _⟩ := I.list h
  obtain ⟨its', r', ⟨o', n', e', _, _, d'⟩, _⟩ := I.list h'
  rw [e] at e'; cases e'
  rw [d] at d'
  injection d' with d1 _
  have : its = its' := by simpa using congrArg Array.toList d1
  subst this
  exact r.inj r'
theorem Inv.tuple_inj (I : Inv X pins σ H s) (h : SqT X.K H a xs) (h' : SqT X.K H a ys) : xs = ys := by
  obtain ⟨its, r, ⟨o, e, _, n, d⟩, _⟩ := I.tuple h
  obtain ⟨its', r', ⟨o', e', _, n', d'⟩, _⟩ := I.tuple h'
  rw [e] at e'; cases e'
  rw [d] at d'
  injection d' with d1 _
  have : its = its' := by simpa using congrArg Array.toList d1
  subst this
  exact r.inj r'
end
abbrev Cx.wish (X : Cx) (E : Value → Shared → Prop) : Cx := { X with xe := E }
abbrev Cx.nox (X : Cx) : Cx := X.wish fun _ _ => False
theorem Cx.Ok.wish {X : Cx} (ok : X.Ok) (E : Value → Shared → Prop) : (X.wish E).Ok :=
  ⟨ok.mod, ok.kind, ok.glob, ok.blt, ok.above, ok.inj, ok.has, ok.cab, ok.hd, ok.frames, ok.stk, ok.exf, ok.bs, ok.bsz, ok.noex, ok.exfs, ok.funs, ok.frf⟩
theorem Cx.Ok.unwish {X : Cx} {E : Value → Shared → Prop} (ok : (X.wish E).Ok) : X.Ok :=
  ⟨ok.mod, ok.kind, ok.glob, ok.blt, ok.above, ok.inj, ok.has, ok.cab, ok.hd, ok.frames, ok.stk, ok.exf, ok.bs, ok.bsz, ok.noex, ok.exfs, ok.funs, ok.frf⟩
section
variable {X : Cx} {pins : List (Addr × Obj)} {σ : St} {H : Hp} {s : Shared} {E : Value → Shared → Prop}
theorem Inv.wish (I : Inv X pins σ H s) (E : Value → Shared → Prop) : Inv (X.wish E) pins σ H s := ⟨I.ok.wish E, I.os, I.bare, I.base, I.loc, I.cell, I.free, I.freeC, I.pin, I.hok, I.len⟩
theorem Inv.unwish (I : Inv (X.wish E) pins σ H s) : Inv X pins σ H s := ⟨I.ok.unwish, I.os, I.bare, I.base, I.loc, I.cell, I.free, I.freeC, I.pin, I.hok, I.len⟩
theorem SP.unwish {D : Ends} {f : Flow} {s' : Shared} (h : SP (X.wish E) pins D f s') : SP X pins D f s' := by
  cases f with
  | next => obtain ⟨σ', H', I, q⟩ := h; exact ⟨σ', H', I.unwish, q⟩
  | brk => obtain ⟨σ', H', I, q⟩ := h; exact ⟨σ', H', I.unwish, q⟩
  | cont => obtain ⟨σ', H', I, q⟩ := h; exact ⟨σ', H', I.unwish, q⟩
  | ret u => obtain ⟨v, σ', H', I, r, q⟩ := h; exact ⟨v, σ', H', I.unwish, r, q⟩
theorem PSs.nox {st : List Stmt} {t : TS} (h : PSs X.nox st t) : PSs X st t := fun pins s σ H D I hw =>
  wpAny_mono (h pins s σ H D (I.wish _) hw) (fun _ _ q => q.unwish) fun _ _ z => False.elim z
end
section
variable {X : Cx} {st : Stmt} {rest : List Stmt} {t u : TS} {e : Expr} {te : TE} {pos : Pos}
def tNext : TS := fun D σ H => D.nx σ H
def tSeq (t u : TS) : TS := fun D σ H => t { D with nx := u D } σ H
theorem pss_nil : PSs X [] tNext := fun _ _ σ H _ I h => wpAny_execs_nil ⟨σ, H, I, h⟩
theorem pss_cons (h1 : PS X st t) (h2 : PSs X rest u) : PSs X (st :: rest) (tSeq t u) := by
  intro pins s σ H D I h
  refine wpAny_execs_cons (thn (h1 pins s σ H { D with nx := u D } I h) fun f s1 q => ?_)
  cases f with
  | next =>
    obtain ⟨σ', H', I', q⟩ := q
    exact h2 pins s1 σ' H' D I' q
  | ret v => exact q
  | brk => exact q
  | cont => exact q
theorem pss_one (h1 : PS X st t) : PSs X [st] t := by
  intro pins s σ H D I h
  refine wpAny_execs_cons (thn (h1 pins s σ H D I h) fun f s1 q => ?_)
  cases f with
  | next => exact wpAny_execs_nil q
  | ret v => exact q
  | brk => exact q
  | cont => exact q
theorem Inv.quiet {pins : List (Addr × Obj)} {σ : St} {H : Hp} {s : Shared} (I : Inv X pins σ H s) : interactive X.env = false := by simp [interactive, I.ok.kind]
def tDrop (te : TE) : TS := fun D σ H => te σ H fun _ H1 => D.nx σ H1
theorem ps_expr (he : PE X e te) (hs : swapsWith e none pos.line X.env = pure false := by rfl) : PS X (.Expr e pos) (tDrop te) := by
  intro pins s σ H D I h
  exact wpAny_Expr_any (thn (he pins s σ H _ I h) fun v s1 ⟨x, H1, I1, r1, q1⟩ => ⟨σ, H1, I1, q1⟩) I.quiet hs
def tRet (te : TE) : TS := fun D σ H => te σ H D.rt
theorem ps_ret (he : PE X e te) : PS X (.Return (some e) pos) (tRet te) := by
  intro pins s σ H D I h
  exact wpAny_Return_some (thn (he pins s σ H _ I h) fun v s1 ⟨x, H1, I1, r1, q1⟩ => ⟨x, σ, H1, I1, r1, q1⟩)
def tIfS (c : TT) (t u : TS) : TS := fun D σ H => c σ H fun b H1 => if b = true then t D σ H1 else u D σ H1
theorem ps_if {c : Expr} {a b : List Stmt} {tc : TT} (hc : PT X c tc) (ha : PSs X a t) (hb : PSs X b u) : PS X (.If c a b pos) (tIfS tc t u) := by
  intro pins s σ H D I h
  refine wpAny_If (thn (hc pins s σ H _ I h) fun d s1 ⟨H1, I1, q1⟩ => ?_)
  cases d with
  | true => exact ha pins s1 σ H1 D I1 q1
  | false => exact hb pins s1 σ H1 D I1 q1
def tNever : TS := fun _ _ _ => False
theorem ps_never : PS X st tNever := fun _ _ _ _ _ _ h => h.elim
theorem pss_never {sts : List Stmt} : PSs X sts tNever := fun _ _ _ _ _ _ h => h.elim
end
abbrev TG := V → St → Hp → (St → Hp → Prop) → Prop
abbrev TGs := List V → St → Hp → (St → Hp → Prop) → Prop
def PG (X : Cx) (target : Expr) (t : TG) : Prop :=
  ∀ (pins : List (Addr × Obj)) (s : Shared) (σ : St) (H : Hp) (v : V) (u : Value) (Q : St → Hp → Prop), Inv X pins σ H s → RelV v u → t v σ H Q →
    wpAny (model X.prog X.w) X.A (assign target X.env u) (fun _ s' => ∃ σ' H', Inv X pins σ' H' s' ∧ Q σ' H') X.xe s
def PGs (X : Cx) (ts : List Expr) (t : TGs) : Prop :=
  ∀ (pins : List (Addr × Obj)) (s : Shared) (σ : St) (H : Hp) (vs : List V) (us : List Value) (Q : St → Hp → Prop), Inv X pins σ H s → Vals vs us → t vs σ H Q →
    wpAny (model X.prog X.w) X.A (assignInOrder ((assignEach ts X.env).map (·.2)) us) (fun _ s' => ∃ σ' H', Inv X pins σ' H' s' ∧ Q σ' H') X.xe s
abbrev TSet := V → V → V → Hp → (Hp → Prop) → Prop
def PSet (X : Cx) (t : TSet) : Prop :=
  ∀ (pins : List (Addr × Obj)) (s : Shared) (σ : St) (H : Hp) (o i v : V) (ov iv u : Value) (Q : Hp → Prop), Inv X pins σ H s → RelV o ov → RelV i iv → RelV v u → t o i v H Q →
    wpAny (model X.prog X.w) X.A (setItem ov iv u) (fun _ s' => ∃ H', Inv X pins σ H' s' ∧ Q H') X.xe s
section
variable {X : Cx} {pos : Pos}
def gName (i : Nat) : TG := fun v σ H Q => Q (σ.set i (some v)) H
theorem pg_name {i : Nat} {x : Str} (hN : X.N.Nodup) (hi : X.N[i]? = some x) (hx : Loc X.env.scope x) (hf : X.fn x = true ∨ X.env.scope.names.lookup x = some .local := by first | exact .inl rfl | exact .inr rfl | assumption) : PG X (.Name x pos) (gName i) := by
  intro pins s σ H v u Q I r h
  exact wpAny_assign_Name (store_ok I hN hi hx r (fun s' I' => ⟨_, H, I', h⟩) hf)
def gNil : TGs := fun vs σ H Q => vs = [] ∧ Q σ H
def gCons (t : TG) (u : TGs) : TGs := fun vs σ H Q => ∃ v r, vs = v :: r ∧ t v σ H fun σ' H' => u r σ' H' Q
theorem pgs_nil : PGs X [] gNil := by
  intro pins s σ H vs us Q I r h
  obtain ⟨e, h⟩ := h
  subst e
  cases r
  exact assignInOrder_nil ⟨σ, H, I, h⟩
theorem pgs_cons {e : Expr} {es : List Expr} {t : TG} {u : TGs} (h1 : PG X e t) (h2 : PGs X es u)
    (hs : (assignEach (e :: es) X.env).map (·.2) = assign e X.env :: (assignEach es X.env).map (·.2) := by rfl) : PGs X (e :: es) (gCons t u) := by
  intro pins s σ H vs us Q I r h
  obtain ⟨v, vr, e1, h⟩ := h
  subst e1
  cases r with
  | cons r rr =>
    rw [hs]
    refine assignInOrder_cons (thn (h1 pins s σ H _ _ _ I r h) fun _ s1 ⟨σ1, H1, I1, q1⟩ => ?_)
    exact h2 pins s1 σ1 H1 _ _ Q I1 rr q1
def gTup (K : PySem.W.Frag) (n : Nat) (t : TGs) : TG := fun v σ H Q => ∃ a xs, v = .ref a ∧ SqT K H a xs ∧ xs.length = n ∧ t xs σ H Q
theorem pg_tup {es : List Expr} {k : Nat} {t : TGs} {n : Nat} (hc : X.calm = true) (h : PGs X es t)
    (hn : (assignEach es X.env).length = n := by rfl) (hst : (assignEach es X.env).findIdx? (·.1) = none := by rfl) : PG X (.Tuple es k pos) (gTup X.K n t) := by
  intro pins s σ H v u Q I r hw
  obtain ⟨a, xs, e1, hq, hl, hw⟩ := hw
  subst e1
  cases r
  obtain ⟨its, rv, ht, hz⟩ := I.tuple hq
  refine assign_Tuple_tuple (I.ok.hd hc) ht (by simp [hn, ← hl, rv.length]) hst fun h' hx => ?_
  have I1 : Inv X pins σ H { s with heap := h' } := I.kept (t' := s.toks) fun b o e => hx b o (Nat.ne_of_lt (Heap.lt_size e)) e
  exact h pins _ σ H xs _ Q I1 (by simpa using rv) hw
def gSub (to ti : TE) (t : TSet) : TG := fun v σ H Q => to σ H fun o H1 => ti σ H1 fun i H2 => t o i v H2 fun H3 => Q σ H3
theorem pg_sub {o i : Expr} {to ti : TE} {t : TSet} (ho : PE X o to) (hi : PE X i ti) (hs : PSet X t)
    (ha : ∀ v, assign (.Subscript o i pos) X.env v = (do
      let ov ← holding [v] (eval o X.env)
      let iv ← holding [v, ov] (eval i X.env)
      standAt pos
      holding [v, ov, iv] (setItem ov iv v)
      release [v, ov, iv] []) := by intro _; rfl) : PG X (.Subscript o i pos) (gSub to ti t) := by
  intro pins s σ H v u Q I r h
  rw [ha]
  refine wpAny_bind (wpAny_holding (thn (ho pins s σ H _ I h) fun ov s1 ⟨x, H1, I1, r1, q1⟩ => ?_))
  refine wpAny_bind (wpAny_holding (thn (hi pins s1 σ H1 _ I1 q1) fun iv s2 ⟨y, H2, I2, r2, q2⟩ => ?_))
  refine wpAny_bind (wpAny_standAt (wpAny_bind (wpAny_holding (thn (hs pins s2 σ H2 x y v ov iv u _ I2 r1 r2 r q2) fun _ s3 ⟨H3, I3, q3⟩ => ?_))))
  exact wpAny_release ⟨σ, H3, I3, q3⟩
def tAsg (te : TE) (g : TG) : TS := fun D σ H => te σ H fun x H1 => g x σ H1 D.nx
theorem ps_asg {tg e : Expr} {te : TE} {g : TG} (he : PE X e te) (hg : PG X tg g) (hs : swapsWithSole [tg] e pos.line X.env = pure false := by rfl) (hw : swappedStores [tg] e X.env = pure none := by rfl)
    (h1 : (assignEach [tg] X.env).map (·.2) = [assign tg X.env] := by rfl) : PS X (.Assign [tg] e pos) (tAsg te g) := by
  intro pins s σ H D I h
  refine wpAny_Assign_stores (thn (he pins s σ H _ I h) fun v s1 ⟨x, H1, I1, r1, q1⟩ => ?_) hs hw
  rw [h1]
  exact thn (hg pins s1 σ H1 x v _ I1 r1 q1) fun _ s2 q => q
theorem ps_set {i : Nat} {x : Str} {e : Expr} {te : TE} {pos' : Pos} (hN : X.N.Nodup) (hi : X.N[i]? = some x) (hx : Loc X.env.scope x) (he : PE X e te) (hs : swapsWith e (some (.Name x pos')) pos.line X.env = pure false := by rfl) (hf : X.fn x = true ∨ X.env.scope.names.lookup x = some .local := by first | exact .inl rfl | exact .inr rfl | assumption) :
    PS X (.Assign [.Name x pos'] e pos) (tAsg te (gName i)) := by
  intro pins s σ H D I h
  refine wpAny_Assign_Name (thn (he pins s σ H _ I h) fun v s1 ⟨y, H1, I1, r1, q1⟩ => ?_) hs
  exact store_ok I1 hN hi hx r1 (fun s2 I2 => ⟨_, H1, I2, q1⟩) hf
def tPar (i j : Nat) (ta : TA) : TS := fun D σ H => ta σ H fun vs H1 => ∃ v w, vs = [v, w] ∧ D.nx ((σ.set i (some v)).set j (some w)) H1
theorem ps_par {i j : Nat} {x y : Str} {a b : Expr} {ta : TA} {px py pt : Pos} {kt k2 pt2} (hc : X.calm = true) (hN : X.N.Nodup) (hi : X.N[i]? = some x) (hj : X.N[j]? = some y) (hij : i ≠ j)
    (hx : X.env.scope.names.lookup x = some .local) (hy : X.env.scope.names.lookup y = some .local) (ha : PA X [a, b] ta)
    (hw : swappedStores [.Tuple [.Name x px, .Name y py] kt pt] (.Tuple [a, b] k2 pt2) X.env = pure (some [x, y]))
    (hs : swapsWithSole [.Tuple [.Name x px, .Name y py] kt pt] (.Tuple [a, b] k2 pt2) pos.line X.env = pure false := by rfl) :
    PS X (.Assign [.Tuple [.Name x px, .Name y py] kt pt] (.Tuple [a, b] k2 pt2) pos) (tPar i j ta) := by
  intro pins s σ H D I h
  rw [exec_Assign_arm]
  refine wpAny_bind (wpAny_standAt ?_)
  rw [hs]
  refine wpAny_bind (wpAny_pure ?_)
  rw [if_neg (by decide)]
  refine wpAny_bind (Tuple_ (thn (ha _ pins s σ H _ I h) fun us s1 ⟨vs, H1, I1, r1, q1⟩ => ?_))
  obtain ⟨v, w, e1, q1⟩ := q1
  subst e1
  obtain ⟨u1, u2, rfl, rv, rw'⟩ : ∃ u1 u2, us = [u1, u2] ∧ RelV v u1 ∧ RelV w u2 := by
    cases r1 with
    | cons p q =>
      cases q with
      | cons p' q' =>
        cases q'
        exact ⟨_, _, rfl, p, p'⟩
  refine wpAny_newObj_type ?_ (by show 2 ≤ sizeLine; decide)
  have I2 : Inv X pins σ H1 { s1 with heap := s1.heap.push { cls := .type "tuple", data := .seq [u1, u2].toArray } } := I1.kept (t' := s1.toks) fun b o e => Heap.get?_push_of_some _ e
  rw [hw]
  refine wpAny_bind (wpAny_pure ?_)
  show wpAny (model X.prog X.w) X.A (do rule "assign.swapped-stores"; let items ← unpackItems (.ref s1.heap.objs.size) 2 none; assignInOrder [fun v => bindName X.env y v, fun v => bindName X.env x v] items.reverse; pure Flow.next) _ _ _
  refine wpAny_bind (wpAny_rule (wpAny_bind (unpackItems_tuple (items := #[u1, u2]) (I.ok.hd hc) (IsTup.new s1.heap _) fun h' hx' => ?_)))
  have I3 := I2.kept (h' := h') (t' := s1.toks) fun b o e => hx' b o (Nat.ne_of_lt (Heap.lt_size e)) e
  show wpAny _ _ (assignInOrder [fun v => bindName X.env y v, fun v => bindName X.env x v] [u2, u1] >>= fun _ => pure Flow.next) _ _ _
  refine wpAny_bind (assignInOrder_cons (wpAny_bindName (store_ok I3 hN hj (.inl hy) rw' (fun s2 I4 => ?_) (.inr hy))))
  refine assignInOrder_cons (wpAny_bindName (store_ok I4 hN hi (.inl hx) rv (fun s3 I5 => assignInOrder_nil (wpAny_pure ?_)) (.inr hx)))
  rw [List.set_comm _ _ (Ne.symm hij)] at I5
  exact ⟨_, H1, I5, q1⟩
end
section
variable {X : Cx} {pos : Pos}
def tWhile (c : TT) (tb : TS) : TS := fun D σ H => ∃ W : Nat → St → Hp → Prop, (∃ m, W m σ H) ∧ ∀ m σ H, W m σ H →
  c σ H fun b H1 => if b = true then ∃ N : St → Hp → Prop, (∀ σ' H', N σ' H' → ∃ m', m' < m ∧ W m' σ' H') ∧ tb { D with nx := N, ct := N, bk := D.nx } σ H1 else D.nx σ H1
theorem ps_while {c : Expr} {body : List Stmt} {tc : TT} {tb : TS} (hp : PassesOwn (model X.prog X.w) X.A X.env X.xe) (hc : PT X c tc) (hb : PSs X body tb) : PS X (.While c body [] pos) (tWhile tc tb) := by
  intro pins s σ H D I h
  obtain ⟨W, ⟨m0, w0⟩, turn⟩ := h
  refine wpAny_While (codeAny_whileLoop (fun n s' => ∃ σ' H', Inv X pins σ' H' s' ∧ W n σ' H') ?_ m0 ⟨σ, H, I, w0⟩)
  rintro n s1 ⟨σ1, H1, I1, w1⟩
  refine wpAny_passesOwn hp (thn (hc pins s1 σ1 H1 _ I1 (turn n σ1 H1 w1)) fun b s2 ⟨H2, I2, q2⟩ => ?_)
  cases b with
  | true =>
    obtain ⟨N, hN, q2⟩ := q2
    rw [if_pos rfl]
    refine wpAny_passesOwn hp (thn (hb pins s2 σ1 H2 _ I2 q2) fun f s3 q3 => ?_)
    cases f with
    | next =>
      obtain ⟨σ3, H3, I3, n3⟩ := q3
      obtain ⟨m', hm, w3⟩ := hN σ3 H3 n3
      exact ⟨m', hm, σ3, H3, I3, w3⟩
    | cont =>
      obtain ⟨σ3, H3, I3, n3⟩ := q3
      obtain ⟨m', hm, w3⟩ := hN σ3 H3 n3
      exact ⟨m', hm, σ3, H3, I3, w3⟩
    | brk => exact q3
    | ret v => exact q3
  | false =>
    rw [if_neg Bool.false_ne_true]
    exact wpAny_execs_nil ⟨σ1, H2, I2, q2⟩
end
structure It where
  go : Nat → Hp → Prop
  yld : Nat → Hp → V → Hp → Prop
  stop : Nat → Hp → Prop
def FpOk (X : Cx) (pins : List (Addr × Obj)) (H : Hp) (b : Addr) : Prop :=
  H b = none ∧ b ≠ X.env.locals ∧ b ∉ X.fs ∧ (b ∈ X.ex ∨ X.s₀.heap.objs.size ≤ b) ∧ (∀ x c, X.env.cells.lookup x = some c → c ≠ b) ∧ ∀ p ∈ X.pn ++ pins, p.1 ≠ b
theorem Inv.fpOk {X : Cx} {pins : List (Addr × Obj)} {σ : St} {H H' : Hp} {s : Shared} {b : Addr} (I : Inv X pins σ H s) (hb : s.heap.objs.size ≤ b) (hn : H' b = none) : FpOk X pins H' b := by
  refine ⟨hn, Nat.ne_of_gt (Nat.lt_of_lt_of_le I.lt hb), I.nofs hb, .inr (Nat.le_trans I.sz hb), fun x c e z => ?_, fun p hp z => ?_⟩
  · obtain ⟨v, q⟩ := I.cell x c e
    exact absurd (Nat.lt_of_lt_of_le q.lt (by rw [z]; exact hb)) (Nat.lt_irrefl _)
  · exact absurd (Nat.lt_of_lt_of_le (Heap.lt_size (I.pin p hp).1) (by rw [z]; exact hb)) (Nat.lt_irrefl _)
structure Turn (P : Program) (w : World) (K : PySem.W.Frag) (tg : Expr) (J : It) (fp : List Addr) (it : Addr) (tn : Nat → Heap → Prop) : Prop where
  mem : it ∈ fp
  obj : ∀ i h, tn i h → ∀ b ∈ fp, ∃ o, h.get? b = some o ∧ ∀ v, o.data ≠ .cell v
  keep : ∀ i h h', tn i h → (∀ b ∈ fp, ∀ o, h.get? b = some o → h'.get? b = some o) → tn i h'
  item : ∀ (X : Cx), X.prog = P → X.w = w → X.K = K → X.calm = true → ∀ (i : Nat) (pins : List (Addr × Obj)) (s : Shared) (σ : St) (H : Hp) (E : Value → Shared → Prop), Inv X pins σ H s → (∀ b ∈ fp, FpOk X pins H b) → tn i s.heap → J.go i H →
    wpAny (model P w) X.A (pyNext (.ref it)) (fun r s1 => ∃ u, r = some u ∧
      wpAny (model P w) X.A (letOwnedTupleGo tg (.ref it) u) (fun _ s2 => ∃ x H', Inv X pins σ H' s2 ∧ RelV x u ∧ J.yld i H x H' ∧ tn (i + 1) s2.heap ∧ ∀ b ∈ fp, H' b = none) E s1) E s
  done : ∀ (X : Cx), X.prog = P → X.w = w → X.K = K → X.calm = true → ∀ (i : Nat) (pins : List (Addr × Obj)) (s : Shared) (σ : St) (H : Hp) (E : Value → Shared → Prop), Inv X pins σ H s → (∀ b ∈ fp, FpOk X pins H b) → tn i s.heap → J.stop i H →
    wpAny (model P w) X.A (pyNext (.ref it)) (fun r s1 => r = none ∧ Inv X pins σ H s1) E s
  self : ∀ (A : Around) (i : Nat) (s : Shared) (Q : Value → Shared → Prop) (E : Value → Shared → Prop), tn i s.heap → Q (.ref it) s → wpAny (model P w) A (pyIter (.ref it)) Q E s
abbrev TI := St → Hp → (It → Hp → Prop) → Prop
def PIE (X : Cx) (pins : List (Addr × Obj)) (σ : St) (tg : Expr) (R : It → Hp → Prop) (itv : Value) (s2 : Shared) : Prop :=
  ∃ (it : Addr) (fp : List Addr) (tn : Nat → Heap → Prop) (J : It) (H' : Hp), itv = .ref it ∧ Inv X pins σ H' s2 ∧ Turn X.prog X.w X.K tg J fp it tn ∧ tn 0 s2.heap ∧ (∀ b ∈ fp, FpOk X pins H' b) ∧ R J H'
def PI (X : Cx) (tg iter : Expr) (wi : TI) : Prop :=
  ∀ (pins : List (Addr × Obj)) (s : Shared) (σ : St) (H : Hp) (R : It → Hp → Prop), Inv X pins σ H s → wi σ H R →
    wpAny (model X.prog X.w) X.A (eval iter X.env) (fun v s1 => wpAny (model X.prog X.w) X.A (pyIter v) (PIE X pins σ tg R) X.xe s1) X.xe s
theorem go_of {M : Model} {A : Around} {E : Value → Shared → Prop} {s : Shared} {tg : Expr} {it : Addr} {u : Value} {o : Obj} {n : String} {vs : Array Value} {Q : Unit → Shared → Prop} (ho : s.heap.get? it = some o) (hc : o.cls = .type n) (hd : o.data = .fields vs)
    (hn : ["enumerate", "zip", "dict_itemiterator", "dict_reverseitemiterator", "odict_iterator", "itertools.zip_longest", "itertools.pairwise"].contains n = false) (hQ : Q () s) : wpAny M A (letOwnedTupleGo tg (.ref it) u) Q E s := by
  unfold letOwnedTupleGo
  cases tg <;> first
    | exact wpAny_pure hQ
    | (cases u <;> first
        | exact wpAny_pure hQ
        | (refine wpAny_bind (wpAny_load ho ?_)
           rw [hc, hd]
           show wpAny M A (if (["enumerate", "zip", "dict_itemiterator", "dict_reverseitemiterator", "odict_iterator", "itertools.zip_longest", "itertools.pairwise"].contains n && vs[0]? == some (rawInt _)) = true then _ else _) Q E s
           rw [if_neg (by intro h; rw [hn, Bool.false_and] at h; cases h)]
           exact wpAny_pure hQ))
def Itl (K : PySem.W.Frag) (a : Addr) : It :=
  ⟨fun i H => ∃ xs x, SqL K H a xs ∧ xs[i]? = some x, fun i H x H' => H' = H ∧ ∀ xs, SqL K H a xs → xs[i]? = some x, fun i H => ∃ xs, SqL K H a xs ∧ xs.length ≤ i⟩
def Itt (K : PySem.W.Frag) (a : Addr) : It :=
  ⟨fun i H => ∃ xs x, SqT K H a xs ∧ xs[i]? = some x, fun i H x H' => H' = H ∧ ∀ xs, SqT K H a xs → xs[i]? = some x, fun i H => ∃ xs, SqT K H a xs ∧ xs.length ≤ i⟩
def Itr (lo : Int) (n : Nat) : It := ⟨fun i _ => i < n, fun i H x H' => H' = H ∧ x = .int (lo + i), fun i _ => n ≤ i⟩
theorem turn_list {P : Program} {w : World} {K : PySem.W.Frag} {tg : Expr} (a it : Addr) : Turn P w K tg (Itl K a) [it] it (fun i h => h.IsListIter it a i) where
  mem := by simp
  obj := fun i h st b hb => by
    have e : b = it := by simpa using hb
    subst e
    obtain ⟨o, e, c, d⟩ := st
    exact ⟨o, e, fun v z => by rw [d] at z; cases z⟩
  keep := fun i h h' st k => st.at fun o e => k it (by simp) o e
  item := by
    intro X hP hw hK hc i pins s σ H E I hf st hg
    subst hP hw hK
    obtain ⟨xs, x, hq, hx⟩ := hg
    obtain ⟨its, rv, p, hz⟩ := I.list hq
    obtain ⟨u, hu, ru⟩ := rv.get hx
    obtain ⟨f0, f1, f2, f3, f4, f5⟩ := hf it (by simp)
    refine wpAny_pyNext_list_item st p.isList (x := u) (by simpa using hu) fun h' st' sb => ?_
    have I1 : Inv X pins σ H { s with heap := h' } := I.turned (t' := s.toks) (fun b o hb e => (sb.2 b hb).trans e) f0 f1 f3 f4 f5
    obtain ⟨o, e, c, d⟩ := id st'
    exact ⟨u, rfl, go_of (s := { s with heap := h' }) e c d (by decide) ⟨x, H, I1, ru, ⟨rfl, fun ys hy => by rw [I.list_inj hy hq]; exact hx⟩, st', fun b hb => (hf b hb).1⟩⟩
  done := by
    intro X hP hw hK hc i pins s σ H E I hf st hg
    subst hP hw hK
    obtain ⟨xs, hq, hx⟩ := hg
    obtain ⟨its, rv, p, hz⟩ := I.list hq
    obtain ⟨f0, f1, f2, f3, f4, f5⟩ := hf it (by simp)
    have hl := rv.length
    exact wpAny_pyNext_list_end (I.ok.hd hc) st p.isList (by simp; omega) fun h' eb => ⟨rfl, I.turned (t' := s.toks) (fun b o hb e => eb b o hb e) f0 f1 f3 f4 f5⟩
  self := fun _ _ _ _ _ st h => wpAny_pyIter_listiter st h
theorem turn_tuple {P : Program} {w : World} {K : PySem.W.Frag} {tg : Expr} (a it : Addr) : Turn P w K tg (Itt K a) [it] it (fun i h => h.IsTupleIter it a i) where
  mem := by simp
  obj := fun i h st b hb => by
    have e : b = it := by simpa using hb
    subst e
    obtain ⟨o, e, c, d⟩ := st
    exact ⟨o, e, fun v z => by rw [d] at z; cases z⟩
  keep := fun i h h' st k => st.at fun o e => k it (by simp) o e
  item := by
    intro X hP hw hK hc i pins s σ H E I hf st hg
    subst hP hw hK
    obtain ⟨xs, x, hq, hx⟩ := hg
    obtain ⟨its, rv, p, hz⟩ := I.tuple hq
    obtain ⟨u, hu, ru⟩ := rv.get hx
    obtain ⟨f0, f1, f2, f3, f4, f5⟩ := hf it (by simp)
    refine wpAny_pyNext_tuple_item st (show s.heap.IsTuple a its.toArray from p) (x := u) (by simpa using hu) fun h' st' sb => ?_
    have I1 : Inv X pins σ H { s with heap := h' } := I.turned (t' := s.toks) (fun b o hb e => (sb.2 b hb).trans e) f0 f1 f3 f4 f5
    obtain ⟨o, e, c, d⟩ := id st'
    exact ⟨u, rfl, go_of (s := { s with heap := h' }) e c d (by decide) ⟨x, H, I1, ru, ⟨rfl, fun ys hy => by rw [I.tuple_inj hy hq]; exact hx⟩, st', fun b hb => (hf b hb).1⟩⟩
  done := by
    intro X hP hw hK hc i pins s σ H E I hf st hg
    subst hP hw hK
    obtain ⟨xs, hq, hx⟩ := hg
    obtain ⟨its, rv, p, hz⟩ := I.tuple hq
    obtain ⟨f0, f1, f2, f3, f4, f5⟩ := hf it (by simp)
    have hl := rv.length
    exact wpAny_pyNext_tuple_end (I.ok.hd hc) st (show s.heap.IsTuple a its.toArray from p) (by simp; omega) fun h' eb => ⟨rfl, I.turned (t' := s.toks) (fun b o hb e => eb b o hb e) f0 f1 f3 f4 f5⟩
  self := fun _ _ _ _ _ st h => wpAny_pyIter_tupleiter st h
theorem turn_range {P : Program} {w : World} {K : PySem.W.Frag} {tg : Expr} (it : Addr) (lo : Int) (n : Nat) : Turn P w K tg (Itr lo n) [it] it (fun i h => IsRangeIter h it (lo + (i : Nat) * 1) ((n : Int) - (i : Nat)) 1) where
  mem := by simp
  obj := fun i h st b hb => by
    have e : b = it := by simpa using hb
    subst e
    exact ⟨_, st, fun v z => by
      have z' : Data.fields _ = Data.cell v := z
      cases z'⟩
  keep := fun i h h' st k => k it (by simp) _ st
  item := by
    intro X hP hw hK hc i pins s σ H E I hf st hg
    subst hP hw hK
    obtain ⟨f0, f1, f2, f3, f4, f5⟩ := hf it (by simp)
    have W := Walks.range (prog := X.prog) (w := X.w) (I.ok.hd hc) it lo 1 n
    refine W.item i s _ _ hg st fun v h' tk hv st' kk => ?_
    obtain ⟨t, rfl⟩ := hv
    have I1 : Inv X pins σ H { s with heap := h', toks := tk } := I.turned (fun b o hb e => kk b o (by simpa using hb) e) f0 f1 f3 f4 f5
    refine ⟨_, rfl, go_of (s := { s with heap := h', toks := tk }) (n := "range_iterator") st' rfl rfl (by decide) ⟨.int (lo + i), H, I1, ⟨t, ?_⟩, ⟨rfl, rfl⟩, st', fun b hb => (hf b hb).1⟩⟩
    rw [Int.mul_one]
  done := by
    intro X hP hw hK hc i pins s σ H E I hf st hg
    subst hP hw hK
    obtain ⟨f0, f1, f2, f3, f4, f5⟩ := hf it (by simp)
    exact wpAny_pyNext_range_end (I.ok.hd hc) st (by have : n ≤ i := hg; omega) fun h' eb => ⟨rfl, I.turned (t' := s.toks) (fun b o hb e => eb b o hb e) f0 f1 f3 f4 f5⟩
  self := fun _ _ _ _ _ st h => wpAny_pyIter_rangeiter st h
end L2
namespace L2
open PySem PySem.Spec PyProof.Rows
section
variable {X : Cx} {tg : Expr}
def iList (K : PySem.W.Frag) (tl : TE) : TI := fun σ H R => tl σ H fun x H1 => ∃ a, x = .ref a ∧ (∃ xs, SqL K H1 a xs) ∧ R (Itl K a) H1
def iTup (K : PySem.W.Frag) (tl : TE) : TI := fun σ H R => tl σ H fun x H1 => ∃ a, x = .ref a ∧ (∃ xs, SqT K H1 a xs) ∧ R (Itt K a) H1
theorem pi_list {l : Expr} {tl : TE} (hl : PE X l tl) : PI X tg l (iList X.K tl) := by
  intro pins s σ H R I h
  refine thn (hl pins s σ H _ I h) fun v s1 ⟨x, H1, I1, r1, q1⟩ => ?_
  obtain ⟨a, e, ⟨xs, hq⟩, q⟩ := q1
  subst e
  cases r1
  obtain ⟨its, rv, p, hz⟩ := I1.list hq
  refine wpAny_pyIter_list p.isList ?_
  refine ⟨s1.heap.objs.size, [s1.heap.objs.size], _, _, H1, rfl, I1.kept (t' := s1.toks) fun b o e => Heap.get?_push_of_some _ e, turn_list a _, ⟨_, Heap.get?_push_size _ rfl, rfl, rfl⟩, fun b hb => ?_, q⟩
  have e : b = s1.heap.objs.size := by simpa using hb
  subst e
  exact I1.fpOk (Nat.le_refl _) (I1.hok.fresh (Nat.le_refl _))
theorem pi_tup {l : Expr} {tl : TE} (hl : PE X l tl) : PI X tg l (iTup X.K tl) := by
  intro pins s σ H R I h
  refine thn (hl pins s σ H _ I h) fun v s1 ⟨x, H1, I1, r1, q1⟩ => ?_
  obtain ⟨a, e, ⟨xs, hq⟩, q⟩ := q1
  subst e
  cases r1
  obtain ⟨its, rv, p, hz⟩ := I1.tuple hq
  refine wpAny_pyIter_tuple (show s1.heap.IsTuple a its.toArray from p) ?_
  refine ⟨s1.heap.objs.size, [s1.heap.objs.size], _, _, H1, rfl, I1.kept (t' := s1.toks) fun b o e => Heap.get?_push_of_some _ e, turn_tuple a _, ⟨_, Heap.get?_push_size _ rfl, rfl, rfl⟩, fun b hb => ?_, q⟩
  have e : b = s1.heap.objs.size := by simpa using hb
  subst e
  exact I1.fpOk (Nat.le_refl _) (I1.hok.fresh (Nat.le_refl _))
theorem range_it {pins : List (Addr × Obj)} {σ : St} {H : Hp} {s : Shared} {R : It → Hp → Prop} {E : Value → Shared → Prop} {lo hi : Int} {t u v : Tok} {tk : Nat} (I : Inv X pins σ H s) (h1 : -(2 ^ 62) ≤ lo) (h2 : lo < 2 ^ 62) (h3 : -(2 ^ 62) ≤ hi) (h4 : hi < 2 ^ 62)
    (q : R (Itr lo (hi - lo).toNat) H) : wpAny (model X.prog X.w) X.A (pyIter (.ref s.heap.objs.size)) (PIE X pins σ tg R) E { s with heap := s.heap.push { cls := .type "range", data := .fields #[.int lo t, .int hi u, .int 1 v] }, toks := tk } := by
  refine wpAny_pyIter_range (IsRange.new ..) (small_one h1 h2 h3 h4) ?_
  have I1 : Inv X pins σ H { s with heap := s.heap.push { cls := .type "range", data := .fields #[.int lo t, .int hi u, .int 1 v] }, toks := tk } := I.kept fun b o e => Heap.get?_push_of_some _ e
  refine ⟨(s.heap.push { cls := .type "range", data := .fields #[.int lo t, .int hi u, .int 1 v] }).objs.size, [(s.heap.push { cls := .type "range", data := .fields #[.int lo t, .int hi u, .int 1 v] }).objs.size], _, _, H, rfl,
    I1.kept (t' := tk) fun b o e => Heap.get?_push_of_some _ e, turn_range _ lo (hi - lo).toNat, ?_, fun b hb => ?_, q⟩
  · have e1 : lo + ((0 : Nat) : Int) * 1 = lo := by simp
    have e2 : (((hi - lo).toNat : Nat) : Int) - ((0 : Nat) : Int) = Builtin.Range.rangeSize lo hi 1 := by rw [rangeSize_one]; split <;> omega
    show IsRangeIter _ _ (lo + ((0 : Nat) : Int) * 1) ((((hi - lo).toNat : Nat) : Int) - ((0 : Nat) : Int)) 1
    rw [e1, e2]
    exact Heap.get?_push_size _ rfl
  · have e : b = (s.heap.push { cls := .type "range", data := .fields #[.int lo t, .int hi u, .int 1 v] }).objs.size := by simpa using hb
    subst e
    exact I1.fpOk (Nat.le_refl _) (I1.hok.fresh (Nat.le_refl _))
def iRng1 (ta : TA) : TI := fun σ H R => ta σ H fun vs H1 => ∃ j : Int, vs = [.int j] ∧ -(2 ^ 62) ≤ j ∧ j < 2 ^ 62 ∧ R (Itr 0 j.toNat) H1
def iRng2 (ta : TA) : TI := fun σ H R => ta σ H fun vs H1 => ∃ i j : Int, vs = [.int i, .int j] ∧ (-(2 ^ 62) ≤ i ∧ i < 2 ^ 62 ∧ -(2 ^ 62) ≤ j ∧ j < 2 ^ 62) ∧ R (Itr i (j - i).toNat) H1
theorem pi_range1 {a : Expr} {ta : TA} {p pos : Pos} (hg : Gl X "range") (hm : X.mg "range" = none) (ha : PA X [a] ta) (hs : starEach [a] X.env = [(false, eval a X.env)] := by rfl) : PI X tg (.Call (.Name "range" p) [a] [] pos) (iRng1 ta) := by
  intro pins s σ H R I h
  refine Call_ (ld_blt I hg hm boot_range (PyProof.Rows.callWith_type1 (thn (ha pos pins s σ H _ I h) fun us s1 ⟨vs, H1, I1, r1, q1⟩ => ?_) hs rfl))
  obtain ⟨j, e, q1, q2, q⟩ := q1
  subst e
  cases r1 with
  | cons r rr =>
    cases rr
    obtain ⟨t, rfl⟩ := r
    exact call_range_1 (range_it I1 (by omega) (by omega) q1 q2 (by simpa using q))
theorem pi_range2 {a b : Expr} {ta : TA} {p pos : Pos} (hg : Gl X "range") (hm : X.mg "range" = none) (ha : PA X [a, b] ta) (hs : starEach [a, b] X.env = [(false, eval a X.env), (false, eval b X.env)] := by rfl) (hs2 : starEach [b] X.env = [(false, eval b X.env)] := by rfl) :
    PI X tg (.Call (.Name "range" p) [a, b] [] pos) (iRng2 ta) := by
  intro pins s σ H R I h
  refine Call_ (ld_blt I hg hm boot_range (PyProof.Rows.callWith_type1 (thn (ha pos pins s σ H _ I h) fun us s1 ⟨vs, H1, I1, r1, q1⟩ => ?_) (by rw [hs, hs2]) (by rw [hs2]; rfl)))
  obtain ⟨i, j, e, ⟨q1, q2, q3, q4⟩, q⟩ := q1
  subst e
  cases r1 with
  | cons r rr =>
    cases rr with
    | cons r' rr =>
      cases rr
      obtain ⟨t, rfl⟩ := r
      obtain ⟨t', rfl⟩ := r'
      exact call_range_2 (range_it I1 q1 q2 q3 q4 q)
def tFor (wi : TI) (g : TG) (tb : TS) : TS := fun D σ H => wi σ H fun J H1 => ∃ W : Nat → Nat → St → Hp → Prop, (∃ m, W 0 m σ H1) ∧ ∀ i m σ H, W i m σ H →
  (J.stop i H ∧ D.nx σ H) ∨ (J.go i H ∧ ∃ N : St → Hp → Prop, (∀ σ' H', N σ' H' → ∃ m', m' < m ∧ W (i + 1) m' σ' H') ∧ ∀ x H', J.yld i H x H' → g x σ H' fun σ2 H2 => tb { D with nx := N, ct := N, bk := D.nx } σ2 H2)
def pinsAt (fp : List Addr) (h : Heap) : List (Addr × Obj) := fp.filterMap fun b => (h.get? b).map fun o => (b, o)
theorem mem_pinsAt {fp : List Addr} {h : Heap} {b : Addr} {o : Obj} (hb : b ∈ fp) (e : h.get? b = some o) : (b, o) ∈ pinsAt fp h := List.mem_filterMap.mpr ⟨b, hb, by rw [e]; rfl⟩
theorem of_pinsAt {fp : List Addr} {h : Heap} {p : Addr × Obj} (hp : p ∈ pinsAt fp h) : p.1 ∈ fp ∧ h.get? p.1 = some p.2 := by
  obtain ⟨b, hb, e⟩ := List.mem_filterMap.mp hp
  cases q : h.get? b with
  | none => rw [q] at e; cases e
  | some o =>
    rw [q] at e
    have e' : (b, o) = p := Option.some.inj e
    subst e'
    exact ⟨hb, q⟩
theorem Inv.pinned {pins : List (Addr × Obj)} {σ : St} {H : Hp} {s : Shared} {fp : List Addr} (I : Inv X pins σ H s) (hf : ∀ b ∈ fp, FpOk X pins H b) (ho : ∀ b ∈ fp, ∃ o, s.heap.get? b = some o ∧ ∀ v, o.data ≠ .cell v) : Inv X (pins ++ pinsAt fp s.heap) σ H s :=
  I.pins_of fun p hp => (List.mem_append.mp hp).elim (fun z => I.pin p (List.mem_append_right _ z)) fun z => by
    obtain ⟨hb, e⟩ := of_pinsAt z
    obtain ⟨f0, f1, f2, _⟩ := hf p.1 hb
    obtain ⟨o, e', d⟩ := ho p.1 hb
    rw [e] at e'; cases e'
    exact ⟨e, f0, f1, f2, d⟩
theorem Inv.unpinned {pins pl : List (Addr × Obj)} {σ : St} {H : Hp} {s : Shared} (I : Inv X (pins ++ pl) σ H s) : Inv X pins σ H s := I.pins_of fun p hp => I.pin p (List.mem_append_right _ (List.mem_append_left _ hp))
theorem ps_for {iter : Expr} {body : List Stmt} {wi : TI} {g : TG} {tb : TS} {pos : Pos} (hp : PassesOwn (model X.prog X.w) X.A X.env X.xe) (hc : X.calm = true) (hi : PI X tg iter wi) (hg : PG X tg g) (hb : PSs X body tb)
    (hs : ∀ x, foldedSetIterable iter X.env x = pure x := by intro _; rfl) : PS X (.For tg iter body [] pos) (tFor wi g tb) := by
  intro pins s σ H D I h
  refine wpAny_For (thn (hi pins s σ H _ I h) fun v s1 h1 => thn h1 fun itv s2 h2 => ?_) hs
  obtain ⟨it, fp, tn, J, H2, e, I2, T, st2, f2, W, ⟨m0, w0⟩, turn⟩ := h2
  subst e
  have stat : ∀ {H' : Hp}, (∀ b ∈ fp, H' b = none) → ∀ b ∈ fp, FpOk X pins H' b := fun hn b hb => ⟨hn b hb, (f2 b hb).2⟩
  refine codeAny_forLoop_any (fun n s' => ∃ i σ' H', Inv X pins σ' H' s' ∧ tn i s'.heap ∧ (∀ b ∈ fp, H' b = none) ∧ W i n σ' H') ?_ m0 ⟨0, σ, H2, I2, st2, fun b hb => (f2 b hb).1, w0⟩
  rintro n s3 ⟨i, σ3, H3, I3, st3, fr3, w3⟩
  rcases turn i n σ3 H3 w3 with ⟨stop, qn⟩ | ⟨go, N, hN, step⟩
  · refine wpAny_passesOwn hp (thn (T.done X rfl rfl rfl hc i pins s3 σ3 H3 X.xe I3 (stat fr3) st3 stop) fun r s4 ⟨hr, I4⟩ => ?_)
    subst hr
    exact wpAny_execs_nil ⟨σ3, H3, I4, qn⟩
  · refine wpAny_passesOwn hp (thn (T.item X rfl rfl rfl hc i pins s3 σ3 H3 X.xe I3 (stat fr3) st3 go) fun r s4 ⟨u, hr, h4⟩ => ?_)
    subst hr
    refine wpAny_passesOwn hp (thn h4 fun _ s5 ⟨x, H5, I5, r5, y5, st5, fr5⟩ => ?_)
    have I5' := I5.pinned (stat fr5) (T.obj _ _ st5)
    refine wpAny_passesOwn hp (thn (hg _ s5 σ3 H5 x u _ I5' r5 (step x H5 y5)) fun _ s6 ⟨σ6, H6, I6, q6⟩ => ?_)
    refine wpAny_passesOwn hp (thn (hb _ s6 σ6 H6 _ I6 q6) fun f s7 q7 => ?_)
    have again : ∀ {σ7 : St} {H7 : Hp}, Inv X (pins ++ pinsAt fp s5.heap) σ7 H7 s7 → N σ7 H7 → ∃ m, m < n ∧ ∃ i σ' H', Inv X pins σ' H' s7 ∧ tn i s7.heap ∧ (∀ b ∈ fp, H' b = none) ∧ W i m σ' H' := fun {σ7 H7} I7 n7 => by
      obtain ⟨m', hm, w7⟩ := hN σ7 H7 n7
      refine ⟨m', hm, i + 1, σ7, H7, I7.unpinned, T.keep _ _ _ st5 fun b hb o e => (I7.pin (b, o) (List.mem_append_right _ (List.mem_append_right _ (mem_pinsAt hb e)))).1, fun b hb => ?_, w7⟩
      obtain ⟨o, e, d⟩ := T.obj _ _ st5 b hb
      exact (I7.pin (b, o) (List.mem_append_right _ (List.mem_append_right _ (mem_pinsAt hb e)))).2.1
    cases f with
    | next => obtain ⟨σ7, H7, I7, n7⟩ := q7; exact again I7 n7
    | cont => obtain ⟨σ7, H7, I7, n7⟩ := q7; exact again I7 n7
    | brk => obtain ⟨σ7, H7, I7, q7⟩ := q7; exact ⟨σ7, H7, I7.unpinned, q7⟩
    | ret v => obtain ⟨x7, σ7, H7, I7, r7, q7⟩ := q7; exact ⟨x7, σ7, H7, I7.unpinned, r7, q7⟩
end
theorem for_list {K : PySem.W.Frag} {a : Addr} {xs : List V} {g : TG} {tb : TS} {D : Ends} {σ : St} {H : Hp} (Pv : Nat → St → Hp → Prop) (h0 : Pv 0 σ H) (hl : ∀ i σ H, i ≤ xs.length → Pv i σ H → SqL K H a xs)
    (hs : ∀ i x σ H, xs[i]? = some x → Pv i σ H → g x σ H fun σ2 H2 => tb { D with nx := Pv (i + 1), ct := Pv (i + 1), bk := D.nx } σ2 H2) (hd : ∀ σ H, Pv xs.length σ H → D.nx σ H) :
    ∃ W : Nat → Nat → St → Hp → Prop, (∃ m, W 0 m σ H) ∧ ∀ i m σ H, W i m σ H →
      ((Itl K a).stop i H ∧ D.nx σ H) ∨ ((Itl K a).go i H ∧ ∃ N : St → Hp → Prop, (∀ σ' H', N σ' H' → ∃ m', m' < m ∧ W (i + 1) m' σ' H') ∧ ∀ x H', (Itl K a).yld i H x H' → g x σ H' fun σ2 H2 => tb { D with nx := N, ct := N, bk := D.nx } σ2 H2) := by
  refine ⟨fun i m σ H => m = xs.length - i ∧ i ≤ xs.length ∧ Pv i σ H, ⟨xs.length, by simp, Nat.zero_le _, h0⟩, ?_⟩
  rintro i m σ H ⟨rfl, hi, p⟩
  have q := hl i σ H hi p
  by_cases hlt : i < xs.length
  · refine .inr ⟨⟨xs, xs[i], q, by simp [hlt]⟩, Pv (i + 1), fun σ' H' p' => ⟨xs.length - (i + 1), by omega, rfl, hlt, p'⟩, fun x H' y => ?_⟩
    obtain ⟨e, y⟩ := y
    subst e
    exact hs i x σ _ (y xs q) p
  · have e : i = xs.length := by omega
    subst e
    exact .inl ⟨⟨xs, q, Nat.le_refl _⟩, hd σ H p⟩
theorem for_range {lo : Int} {n : Nat} {g : TG} {tb : TS} {D : Ends} {σ : St} {H : Hp} (Pv : Nat → St → Hp → Prop) (h0 : Pv 0 σ H)
    (hs : ∀ i σ H, i < n → Pv i σ H → g (.int (lo + i)) σ H fun σ2 H2 => tb { D with nx := Pv (i + 1), ct := Pv (i + 1), bk := D.nx } σ2 H2) (hd : ∀ σ H, Pv n σ H → D.nx σ H) :
    ∃ W : Nat → Nat → St → Hp → Prop, (∃ m, W 0 m σ H) ∧ ∀ i m σ H, W i m σ H →
      ((Itr lo n).stop i H ∧ D.nx σ H) ∨ ((Itr lo n).go i H ∧ ∃ N : St → Hp → Prop, (∀ σ' H', N σ' H' → ∃ m', m' < m ∧ W (i + 1) m' σ' H') ∧ ∀ x H', (Itr lo n).yld i H x H' → g x σ H' fun σ2 H2 => tb { D with nx := N, ct := N, bk := D.nx } σ2 H2) := by
  refine ⟨fun i m σ H => m = n - i ∧ i ≤ n ∧ Pv i σ H, ⟨n, by simp, Nat.zero_le _, h0⟩, ?_⟩
  rintro i m σ H ⟨rfl, hi, p⟩
  by_cases hlt : i < n
  · refine .inr ⟨hlt, Pv (i + 1), fun σ' H' p' => ⟨n - (i + 1), by omega, rfl, hlt, p'⟩, fun x H' y => ?_⟩
    obtain ⟨e, y⟩ := y
    subst e y
    exact hs i σ _ hlt p
  · have e : i = n := by omega
    subst e
    exact .inl ⟨Nat.le_refl _, hd σ H p⟩
theorem while_by {c : TT} {tb : TS} {D : Ends} {σ : St} {H : Hp} (Pv : St → Hp → Prop) (μ : St → Hp → Nat) (h0 : Pv σ H)
    (hs : ∀ σ H, Pv σ H → c σ H fun b H1 => if b = true then tb { D with nx := fun σ' H' => Pv σ' H' ∧ μ σ' H' < μ σ H, ct := fun σ' H' => Pv σ' H' ∧ μ σ' H' < μ σ H, bk := D.nx } σ H1 else D.nx σ H1)
    (mono : ∀ σ H Q Q', (∀ b H1, Q b H1 → Q' b H1) → c σ H Q → c σ H Q') : tWhile c tb D σ H := by
  refine ⟨fun m σ H => m = μ σ H ∧ Pv σ H, ⟨_, rfl, h0⟩, ?_⟩
  rintro m σ H ⟨rfl, p⟩
  refine mono σ H _ _ (fun b H1 q => ?_) (hs σ H p)
  cases b with
  | true => exact ⟨_, fun σ' H' ⟨p', l⟩ => ⟨_, l, rfl, p'⟩, q⟩
  | false => exact q
end L2
namespace L2
open PySem PySem.Spec PyProof.Rows
abbrev R2 := V → V → Hp → VK → Prop
def OpR (X : Cx) (f : Value → Value → Sem Value) (r : R2) : Prop :=
  ∀ (pins : List (Addr × Obj)) (s : Shared) (σ : St) (H : Hp) (x y : V) (v u : Value) (Q : VK), Inv X pins σ H s → RelV x v → RelV y u → r x y H Q →
    wpAny (model X.prog X.w) X.A (f v u) (EP X pins σ Q) X.xe s
def UnR (X : Cx) (f : Value → Sem Value) (r : V → Hp → VK → Prop) : Prop :=
  ∀ (pins : List (Addr × Obj)) (s : Shared) (σ : St) (H : Hp) (x : V) (v : Value) (Q : VK), Inv X pins σ H s → RelV x v → r x H Q →
    wpAny (model X.prog X.w) X.A (f v) (EP X pins σ Q) X.xe s
def CallR (X : Cx) (f : Value) (r : List V → Hp → VK → Prop) : Prop :=
  ∀ (pins : List (Addr × Obj)) (s : Shared) (σ : St) (H : Hp) (xs : List V) (us : List Value) (Q : VK), Inv X pins σ H s → Vals xs us → r xs H Q →
    wpAny (model X.prog X.w) X.A (call f us) (EP X pins σ Q) X.xe s
def tOp (r : R2) (ta tb : TE) : TE := fun σ H Q => ta σ H fun x H1 => tb σ H1 fun y H2 => r x y H2 Q
def tUn (r : V → Hp → VK → Prop) (ta : TE) : TE := fun σ H Q => ta σ H fun x H1 => r x H1 Q
def rI (C : Int → Int → Prop) (g : Int → Int → V) : R2 := fun x y H Q => ∃ i j, x = .int i ∧ y = .int j ∧ C i j ∧ Q (g i j) H
def rI0 (g : Int → Int → V) : R2 := fun x y H Q => ∃ i j, x = .int i ∧ y = .int j ∧ Q (g i j) H
def rU (g : Int → V) : V → Hp → VK → Prop := fun x H Q => ∃ i, x = .int i ∧ Q (g i) H
section
variable {X : Cx} {a b c : Expr} {ta tb tc : TE} {pos : Pos}
theorem binT (ha : PE X a ta) (hb : PE X b tb) {pins : List (Addr × Obj)} {s : Shared} {σ : St} {H : Hp} {R : V → V → Hp → Prop} (I : Inv X pins σ H s)
    (h : ta σ H fun x H1 => tb σ H1 fun y H2 => R x y H2) {Q : Value → Shared → Prop} {f : Value → Value → Sem Value}
    (hf : ∀ v u s2 x y H2, Inv X pins σ H2 s2 → RelV x v → RelV y u → R x y H2 → wpAny (model X.prog X.w) X.A (f v u) Q X.xe s2) :
    wpAny (model X.prog X.w) X.A (eval a X.env) (fun v s₁ => wpAny (model X.prog X.w) X.A (eval b X.env) (fun u s₂ => wpAny (model X.prog X.w) X.A (f v u) Q X.xe s₂) X.xe s₁) X.xe s := by
  refine thn (ha pins s σ H _ I h) fun v s1 ⟨x, H1, I1, r1, q1⟩ => ?_
  refine thn (hb pins s1 σ H1 _ I1 q1) fun u s2 ⟨y, H2, I2, r2, q2⟩ => ?_
  exact hf v u s2 x y H2 I2 r1 r2 q2
theorem pe_op {op : Operator} {r : R2} (ho : OpR X (binaryOp op) r) (ha : PE X a ta) (hb : PE X b tb) : PE X (.BinOp a op b pos) (tOp r ta tb) := by
  intro pins s σ H Q I h
  exact wpAny_BinOp (binT ha hb I h fun v u s2 x y H2 I2 rx ry q => ho pins s2 σ H2 x y v u Q I2 rx ry q)
theorem pe_un {op : UnaryOp} {r : V → Hp → VK → Prop} (ho : UnR X (unaryOp op) r) (ha : PE X a ta) : PE X (.UnaryOp op a pos) (tUn r ta) := by
  intro pins s σ H Q I h
  exact UnaryOp_ (thn (ha pins s σ H _ I h) fun v s1 ⟨x, H1, I1, r1, q1⟩ => ho pins s1 σ H1 x v Q I1 r1 q1)
theorem opI {f : Value → Value → Sem Value} {C : Int → Int → Prop} {g : Int → Int → Int}
    (rule : ∀ (i j : Int) (t u : Tok) (s : Shared) (Q : Value → Shared → Prop) (E : Value → Shared → Prop), C i j → Q (.int (g i j) s.toks) { s with toks := s.toks + 1 } → wpAny (model X.prog X.w) X.A (f (.int i t) (.int j u)) Q E s) :
    OpR X f (rI C fun i j => .int (g i j)) := by
  intro pins s σ H x y v u Q I rx ry h
  obtain ⟨i, j, rfl, rfl, hc, q⟩ := h
  obtain ⟨t, rfl⟩ := rx
  obtain ⟨t', rfl⟩ := ry
  exact rule i j t t' s _ _ hc ⟨.int (g i j), H, I.tok _, ⟨_, rfl⟩, q⟩
theorem opI0 {f : Value → Value → Sem Value} {g : Int → Int → Int}
    (rule : ∀ (i j : Int) (t u : Tok) (s : Shared) (Q : Value → Shared → Prop) (E : Value → Shared → Prop), Q (.int (g i j) s.toks) { s with toks := s.toks + 1 } → wpAny (model X.prog X.w) X.A (f (.int i t) (.int j u)) Q E s) :
    OpR X f (rI0 fun i j => .int (g i j)) := by
  intro pins s σ H x y v u Q I rx ry h
  obtain ⟨i, j, rfl, rfl, q⟩ := h
  obtain ⟨t, rfl⟩ := rx
  obtain ⟨t', rfl⟩ := ry
  exact rule i j t t' s _ _ ⟨.int (g i j), H, I.tok _, ⟨_, rfl⟩, q⟩
theorem opB0 {f : Value → Value → Sem Value} {g : Int → Int → Bool}
    (rule : ∀ (i j : Int) (t u : Tok) (s : Shared) (Q : Value → Shared → Prop) (E : Value → Shared → Prop), Q (.bool (g i j)) s → wpAny (model X.prog X.w) X.A (f (.int i t) (.int j u)) Q E s) :
    OpR X f (rI0 fun i j => .bl (g i j)) := by
  intro pins s σ H x y v u Q I rx ry h
  obtain ⟨i, j, rfl, rfl, q⟩ := h
  obtain ⟨t, rfl⟩ := rx
  obtain ⟨t', rfl⟩ := ry
  exact rule i j t t' s _ _ ⟨.bl (g i j), H, I, rfl, q⟩
def CDiv (i j : Int) : Prop := 0 < j ∧ j < 1073741824
def CPow (i j : Int) : Prop := 0 ≤ j ∧ j ≤ 1000000 ∧ i.natAbs < 2 ^ 64
def CMul (i j : Int) : Prop := (-(2 ^ 64) < i ∧ i < 2 ^ 64) ∨ (-(2 ^ 64) < j ∧ j < 2 ^ 64)
theorem CMul.ok {i j : Int} (h : CMul i j) : IntMulOk i j := by
  rcases h with ⟨h1, h2⟩ | ⟨h1, h2⟩
  · exact .of_left (intBits_le_64 h1 h2)
  · exact .of_right (intBits_le_64 h1 h2)
theorem op_add : OpR X (binaryOp .Add) (rI0 fun i j => .int (i + j)) := opI0 fun _ _ _ _ _ _ _ q => add_int q
theorem op_sub : OpR X (binaryOp .Sub) (rI0 fun i j => .int (i - j)) := opI0 fun _ _ _ _ _ _ _ q => sub_int q
theorem op_mul : OpR X (binaryOp .Mult) (rI CMul fun i j => .int (i * j)) := opI fun _ _ _ _ _ _ _ hc q => mul_int q hc.ok
theorem op_fdiv : OpR X (binaryOp .FloorDiv) (rI CDiv fun i j => .int (i / j)) := opI fun i j _ _ _ _ _ hc q => by
  have h1 : (0 : Int) < j := hc.1
  have h2 : j < 1073741824 := hc.2
  exact floordiv_int (by omega) (by rw [Int.fdiv_eq_ediv_of_nonneg i (by omega)]; exact q) (.inl (PyProof.noPylong_small (by omega)))
theorem op_mod : OpR X (binaryOp .Mod) (rI (fun _ j => 0 < j) fun i j => .int (i % j)) := opI fun i j _ _ _ _ _ hc q => by
  have h1 : (0 : Int) < j := hc
  exact mod_int' (by omega) (by rw [Int.fmod_eq_emod_of_nonneg i (by omega)]; exact q)
theorem op_pow : OpR X (binaryOp .Pow) (rI CPow fun i j => .int (i ^ j.toNat)) := opI fun _ _ _ _ _ _ _ hc q => pow_int_small hc.1 hc.2.1 hc.2.2 q
theorem unI {f : Value → Sem Value} {g : Int → Int}
    (rule : ∀ (i : Int) (t : Tok) (s : Shared) (Q : Value → Shared → Prop) (E : Value → Shared → Prop), Q (.int (g i) s.toks) { s with toks := s.toks + 1 } → wpAny (model X.prog X.w) X.A (f (.int i t)) Q E s) :
    UnR X f (rU fun i => .int (g i)) := by
  intro pins s σ H x v Q I rx h
  obtain ⟨i, rfl, q⟩ := h
  obtain ⟨t, rfl⟩ := rx
  exact rule i t s _ _ ⟨.int (g i), H, I.tok _, ⟨_, rfl⟩, q⟩
theorem un_neg : UnR X (unaryOp .USub) (rU fun i => .int (-i)) := unI fun _ _ _ _ _ q => neg_int q
end
def scal : V → V → Bool
  | .non, .non => true | .non, .int _ => true | .int _, .non => true | .non, .bl _ => true | .bl _, .non => true | .non, .str _ => true | .str _, .non => true
  | .int _, .int _ => true | .bl _, .bl _ => true | .str _, .str _ => true | .byt _, .byt _ => true
  | .int _, .str _ => true | .str _, .int _ => true | .bl _, .str _ => true | .str _, .bl _ => true
  | _, _ => false
def rEq : R2 := fun x y H Q => scal x y = true ∧ Q (.bl (decide (x = y))) H
def rNe : R2 := fun x y H Q => scal x y = true ∧ Q (.bl (!decide (x = y))) H
theorem dec_int {i j : Int} : decide (V.int i = V.int j) = (i == j) := by
  rw [Bool.eq_iff_iff]
  simp
theorem dec_bl {i j : Bool} : decide (V.bl i = V.bl j) = (i == j) := by
  rw [Bool.eq_iff_iff]
  simp
theorem dec_str {i j : Str} : decide (V.str i = V.str j) = (i == j) := by
  rw [Bool.eq_iff_iff]
  simp
theorem dec_byt {i j : Array UInt8} : decide (V.byt i = V.byt j) = (i.toList == j.toList) := by
  rw [Bool.eq_iff_iff]
  cases i
  cases j
  simp
section
variable {X : Cx} {a b c : Expr} {ta tb tc : TE} {pos : Pos}
theorem fin_bl {pins : List (Addr × Obj)} {σ : St} {H : Hp} {s : Shared} {Q : VK} {k k' : Bool} (I : Inv X pins σ H s) (q : Q (.bl k) H) (e : k = k') : EP X pins σ Q (.bool k') s := by
  subst e
  exact ⟨.bl k, H, I, rfl, q⟩
theorem op_eq : OpR X (compareOp .Eq) rEq := by
  intro pins s σ H x y v u Q I rx ry h
  obtain ⟨hs, q⟩ := h
  cases x with
  | non =>
    cases rx
    cases y with
    | non => cases ry; exact PySem.EqNone.eq_none_none (fin_bl I q (by simp))
    | bl j => cases ry; exact PySem.EqNone.eq_none_bool (fin_bl I q (by simp))
    | int j => obtain ⟨t', rfl⟩ := ry; exact PySem.EqNone.eq_none_int (fin_bl I q (by simp))
    | str j => obtain ⟨t', rfl⟩ := ry; exact PySem.EqNone.eq_none_str (fin_bl I q (by simp))
    | _ => exact absurd (show false = true from hs) Bool.false_ne_true
  | bl i =>
    cases rx
    cases y with
    | non => cases ry; exact PySem.EqNone.eq_bool_none (fin_bl I q (by simp))
    | bl j => cases ry; exact eq_bool (fin_bl I q dec_bl)
    | str j => obtain ⟨t', rfl⟩ := ry; exact PySem.EqMixed.eq_bool_str (fin_bl I q (by simp))
    | _ => exact absurd (show false = true from hs) Bool.false_ne_true
  | int i =>
    obtain ⟨t, rfl⟩ := rx
    cases y with
    | non => cases ry; exact PySem.EqNone.eq_int_none (fin_bl I q (by simp))
    | int j => obtain ⟨t', rfl⟩ := ry; exact eq_int (fin_bl I q dec_int)
    | str j => obtain ⟨t', rfl⟩ := ry; exact PySem.EqMixed.eq_int_str (fin_bl I q (by simp))
    | _ => exact absurd (show false = true from hs) Bool.false_ne_true
  | str i =>
    obtain ⟨t, rfl⟩ := rx
    cases y with
    | non => cases ry; exact PySem.EqNone.eq_str_none (fin_bl I q (by simp))
    | bl j => cases ry; exact PySem.EqMixed.eq_str_bool (fin_bl I q (by simp))
    | int j => obtain ⟨t', rfl⟩ := ry; exact PySem.EqMixed.eq_str_int (fin_bl I q (by simp))
    | str j => obtain ⟨t', rfl⟩ := ry; exact eq_str (fin_bl I q dec_str)
    | _ => exact absurd (show false = true from hs) Bool.false_ne_true
  | byt i =>
    obtain ⟨t, rfl⟩ := rx
    cases y with
    | byt j => obtain ⟨t', rfl⟩ := ry; exact PySem.W.eq_bytes (fin_bl I q dec_byt)
    | _ => exact absurd (show false = true from hs) Bool.false_ne_true
  | _ => cases y <;> exact absurd (show false = true from hs) Bool.false_ne_true
theorem op_ne : OpR X (compareOp .NotEq) rNe := by
  intro pins s σ H x y v u Q I rx ry h
  obtain ⟨hs, q⟩ := h
  cases x with
  | non =>
    cases rx
    cases y with
    | non => cases ry; exact PySem.EqNone.ne_none_none (fin_bl I q (by simp))
    | bl j => cases ry; exact PySem.EqNone.ne_none_bool (fin_bl I q (by simp))
    | int j => obtain ⟨t', rfl⟩ := ry; exact PySem.EqNone.ne_none_int (fin_bl I q (by simp))
    | str j => obtain ⟨t', rfl⟩ := ry; exact PySem.EqNone.ne_none_str (fin_bl I q (by simp))
    | _ => exact absurd (show false = true from hs) Bool.false_ne_true
  | bl i =>
    cases rx
    cases y with
    | non => cases ry; exact PySem.EqNone.ne_bool_none (fin_bl I q (by simp))
    | bl j => cases ry; exact ne_bool (fin_bl I q (congrArg not dec_bl))
    | str j => obtain ⟨t', rfl⟩ := ry; exact PySem.EqMixed.ne_bool_str (fin_bl I q (by simp))
    | _ => exact absurd (show false = true from hs) Bool.false_ne_true
  | int i =>
    obtain ⟨t, rfl⟩ := rx
    cases y with
    | non => cases ry; exact PySem.EqNone.ne_int_none (fin_bl I q (by simp))
    | int j => obtain ⟨t', rfl⟩ := ry; exact ne_int (fin_bl I q (congrArg not dec_int))
    | str j => obtain ⟨t', rfl⟩ := ry; exact PySem.EqMixed.ne_int_str (fin_bl I q (by simp))
    | _ => exact absurd (show false = true from hs) Bool.false_ne_true
  | str i =>
    obtain ⟨t, rfl⟩ := rx
    cases y with
    | non => cases ry; exact PySem.EqNone.ne_str_none (fin_bl I q (by simp))
    | bl j => cases ry; exact PySem.EqMixed.ne_str_bool (fin_bl I q (by simp))
    | int j => obtain ⟨t', rfl⟩ := ry; exact PySem.EqMixed.ne_str_int (fin_bl I q (by simp))
    | str j => obtain ⟨t', rfl⟩ := ry; exact ne_str (fin_bl I q (congrArg not dec_str))
    | _ => exact absurd (show false = true from hs) Bool.false_ne_true
  | byt i =>
    obtain ⟨t, rfl⟩ := rx
    cases y with
    | byt j => obtain ⟨t', rfl⟩ := ry; exact PySem.W.ne_bytes (fin_bl I q (congrArg not dec_byt))
    | _ => exact absurd (show false = true from hs) Bool.false_ne_true
  | _ => cases y <;> exact absurd (show false = true from hs) Bool.false_ne_true
theorem op_lt : OpR X (compareOp .Lt) (rI0 fun i j => .bl (decide (i < j))) := opB0 fun _ _ _ _ _ _ _ q => lt_int q
theorem op_le : OpR X (compareOp .LtE) (rI0 fun i j => .bl (decide (i ≤ j))) := opB0 fun _ _ _ _ _ _ _ q => le_int q
theorem op_gt : OpR X (compareOp .Gt) (rI0 fun i j => .bl (decide (j < i))) := opB0 fun _ _ _ _ _ _ _ q => gt_int q
theorem op_ge : OpR X (compareOp .GtE) (rI0 fun i j => .bl (decide (j ≤ i))) := opB0 fun _ _ _ _ _ _ _ q => ge_int q
theorem op_isN : OpR X (compareOp .Is) (fun x y H Q => y = .non ∧ Q (.bl (decide (x = .non))) H) := by
  intro pins s σ H x y v u Q I rx ry h
  obtain ⟨rfl, q⟩ := h
  cases ry
  refine is_none_gen (fin_bl I q ?_)
  cases x <;> first
    | (cases rx; rfl)
    | (obtain ⟨t, rfl⟩ := rx; rfl)
theorem nomark (b : Expr) {op : CmpOp} (h : op ≠ .In := by decide) (h2 : op ≠ .NotIn := by decide) : behindInMarks op b = false := by
  have e1 : (op == CmpOp.In) = false := by cases op <;> first | rfl | exact absurd rfl h
  have e2 : (op == CmpOp.NotIn) = false := by cases op <;> first | rfl | exact absurd rfl h2
  cases b <;> simp [behindInMarks, e1, e2]
theorem pe_cmpR {op : CmpOp} {r : R2} (ho : OpR X (compareOp op) r) (ha : PE X a ta) (hb : PE X b tb) (hm : behindInMarks op b = false) : PE X (.Compare a [op] [b] pos) (tOp r ta tb) := by
  intro pins s σ H Q I h
  exact wpAny_Compare1 (binT ha hb I h fun v u s2 x y H2 I2 rx ry q => ho pins s2 σ H2 x y v u Q I2 rx ry q) hm
def tTest (t : TE) : TT := fun σ H Q => t σ H fun x H' => ∃ k, x = .bl k ∧ Q k H'
theorem pt_cmpR {op : CmpOp} {r : R2} (ho : OpR X (compareOp op) r) (ha : PE X a ta) (hb : PE X b tb) (hm : behindInMarks op b = false) : PT X (.Compare a [op] [b] pos) (tTest (tOp r ta tb)) := by
  intro pins s σ H Q I h
  refine wpAny_isTrue_Compare1 (thn (ha pins s σ H _ I h) fun v s1 ⟨x, H1, I1, r1, q1⟩ => thn (hb pins s1 σ H1 _ I1 q1) fun u s2 ⟨y, H2, I2, r2, q2⟩ =>
    thn (ho pins s2 σ H2 x y v u _ I2 r1 r2 q2) fun c s3 ⟨z, H3, I3, r3, k, e, q3⟩ => ?_) hm
  subst e
  cases r3
  exact wpAny_truthy_bool ⟨H3, I3, q3⟩
theorem line63 : (sizeLine : Nat) < 2 ^ 63 := by rw [sizeLine_eq]; decide
theorem vals1 {x : V} {us : List Value} (r : Vals [x] us) : ∃ u, us = [u] ∧ RelV x u := by
  cases r with
  | cons r1 r2 => cases r2; exact ⟨_, rfl, r1⟩
theorem vals2 {x y : V} {us : List Value} (r : Vals [x, y] us) : ∃ u w', us = [u, w'] ∧ RelV x u ∧ RelV y w' := by
  cases r with
  | cons r1 r2 =>
    cases r2 with
    | cons r3 r4 => cases r4; exact ⟨_, _, rfl, r1, r3⟩
theorem call_max2 (hc : X.calm = true) : CallR X (.builtin "max") (fun xs H Q => ∃ i j, xs = [.int i, .int j] ∧ Q (.int (if j > i then j else i)) H) := by
  intro pins s σ H xs us Q I r h
  obtain ⟨i, j, rfl, q⟩ := h
  obtain ⟨u, w', rfl, ⟨t, rfl⟩, ⟨t', rfl⟩⟩ := vals2 r
  refine max_two_ints (I.ok.hd hc) fun h' tk k => ⟨_, H, I.kept k, ?_, q⟩
  by_cases hj : j > i
  · rw [if_pos hj, if_pos hj]; exact ⟨_, rfl⟩
  · rw [if_neg hj, if_neg hj]; exact ⟨_, rfl⟩
theorem call_min2 (hc : X.calm = true) : CallR X (.builtin "min") (fun xs H Q => ∃ i j, xs = [.int i, .int j] ∧ Q (.int (if j < i then j else i)) H) := by
  intro pins s σ H xs us Q I r h
  obtain ⟨i, j, rfl, q⟩ := h
  obtain ⟨u, w', rfl, ⟨t, rfl⟩, ⟨t', rfl⟩⟩ := vals2 r
  refine min_two_ints (I.ok.hd hc) fun h' tk k => ⟨_, H, I.kept k, ?_, q⟩
  by_cases hj : j < i
  · rw [if_pos hj, if_pos hj]; exact ⟨_, rfl⟩
  · rw [if_neg hj, if_neg hj]; exact ⟨_, rfl⟩
end
end L2
namespace L2
open PySem PySem.Spec PyProof.Rows
structure ObjM (h : Heap) (x dx C : Addr) (mA : Str → Option Value) : Prop where
  obj : h.get? x = some (PySem.W.instObj C dx)
  ns : h.Ns1 dx mA
  ne : dx ≠ x
theorem lookIn_ns {h : Heap} {dx : Addr} {mA : Str → Option Value} (n : h.Ns1 dx mA) : ∃ od, h.get? dx = some od ∧ ∀ name, PySem.W.lookIn name od = some (mA name) := by
  obtain ⟨o, es, ep, ho, hd, hk, _, hm⟩ := n
  refine ⟨o, ho, fun name => ?_⟩
  have e := hm name
  unfold nsFind findBy at e
  rw [← Array.find?_toList] at e
  unfold PySem.W.lookIn
  rw [hd]
  dsimp only
  split
  · rename_i y q
    rw [q] at e
    exact congrArg some e
  · rename_i q
    rw [q] at e
    have a : es.toList.any (·.refKey) = false := by
      rw [List.any_eq_false]
      intro y hy
      obtain ⟨z, t, hkey⟩ := hk y (Array.mem_toList_iff.mp hy)
      simp [DictEntry.refKey, hkey]
    have a' : ¬ es.toList.any (·.refKey) = true := by rw [a]; exact Bool.false_ne_true
    rw [if_neg a']
    exact congrArg some e
theorem ObjM.look {h : Heap} {x dx C : Addr} {mA : Str → Option Value} (I : ObjM h x dx C mA) : ∃ od, PySem.W.InstAt h x (PySem.W.instObj C dx) C (some od) ∧ ∀ name, PySem.W.lookIn name od = some (mA name) :=
  let ⟨od, ho, hl⟩ := lookIn_ns I.ns
  ⟨od, ⟨I.obj, rfl, rfl, ho⟩, hl⟩
theorem RelO.some_of {v : V} {o : Option Value} (r : RelO (some v) o) : ∃ u, o = some u ∧ RelV v u := by
  cases o with
  | none => exact (show False from r).elim
  | some u => exact ⟨u, rfl, r⟩
section
variable {P : Program} {w : World} {H H' : Hp} {h h' : Heap} {a C dx : Addr} {fs fs' : List (Str × V)}
theorem ins_get (hok : HOk P w H h) (e : H a = some (.ins C dx fs)) : ∃ mA, ObjM h a dx C mA ∧ (∀ f, RelO (fs.lookup f) (mA f)) ∧ PySem.Within mA (fs.map (·.1)) ∧ fs.length ≤ 1000 ∧ H dx = some (.own a) := by
  obtain ⟨d, z, ne, ob, mA, n, r, q⟩ := (show ObjOk P w H h a (.ins C dx fs) from hok a _ e)
  exact ⟨mA, ⟨ob, n, ne⟩, r, q, z, d⟩
end
structure Cls (K : PySem.W.Frag) (C : Addr) : Prop where
  pg : PySem.W.plainGet K C Str.empty = true
  hd : PySem.W.hasDictIn K C = true
  po : PySem.W.plainOver K C = true
  sa : PySem.W.findIn K (.ref C) "__setattr__" = some (some (.builtin "object.__setattr__"))
theorem Cls.get {K : PySem.W.Frag} {C : Addr} (c : Cls K C) (f : Str) : PySem.W.plainGet K C f = true := c.pg
section
variable {X : Cx} {pins : List (Addr × Obj)} {σ : St} {H : Hp} {s : Shared} {A : Around} {E : Value → Shared → Prop} {Q : Value → Shared → Prop} {c : Value} {b : Bool}
inductive TyOf (K : PySem.W.Frag) (H : Hp) : V → Value → Prop where
  | non : TyOf K H .non (.type "NoneType")
  | bl (x : Bool) : TyOf K H (.bl x) (.type "bool")
  | int (i : Int) : TyOf K H (.int i) (.type "int")
  | str (x : Str) : TyOf K H (.str x) (.type "str")
  | flt (x : UInt64) : TyOf K H (.flt x) (.type "float")
  | lst {a : Addr} {xs : List V} (e : H a = some (.lst xs)) : TyOf K H (.ref a) (.type "list")
  | frz {a : Addr} {o : Obj} {xs : List V} (e : H a = some (.frz o (.lst xs))) : TyOf K H (.ref a) (.type "list")
  | tup {a : Addr} {xs : List V} (e : H a = some (.tup xs)) : TyOf K H (.ref a) (.type "tuple")
  | dK {a : Addr} {kvs : List (Key × V)} (e : H a = some (.dK kvs)) : TyOf K H (.ref a) (.type "dict")
  | dT {a : Addr} {kvs : List (List Key × V)} (e : H a = some (.dT kvs)) : TyOf K H (.ref a) (.type "dict")
  | ins {a C dx : Addr} {fs : List (Str × V)} (e : H a = some (.ins C dx fs)) (cl : Cls K C) (ha : PySem.W.findIn K (.ref C) "__class__" = some (some (.builtin "object.__class__")))
      (hn : PySem.W.specialIn K (.builtin "object.__class__") "__get__" = some (some (.builtin "getset_descriptor.__get__"))) (htk : PySem.W.takesIn K (.builtin "object.__class__") = some true)
      (hm : PySem.W.mroIn K C (.type "object") = some true) : TyOf K H (.ref a) (.ref C)
theorem isinst_ok {x : V} {u t : Value} (I : Inv X pins σ H s) (rx : RelV x u) (ty : TyOf X.K H x t) (e : PySem.W.kitOne X.K t c = some b) (h : ∀ tk, Q (.bool b) { s with toks := tk }) :
    wpAny (model X.prog X.w) A (call (.builtin "isinstance") [u, c]) Q E s := by
  cases ty with
  | non => cases (show u = Value.none from rx); exact PySem.W.kia_one PySem.W.kitx_none I.kIn True.intro e (fun z => nomatch z) h
  | bl y => cases (show u = Value.bool y from rx); exact PySem.W.kia_one PySem.W.kitx_bool I.kIn True.intro e (fun z => nomatch z) h
  | int i => obtain ⟨t, q⟩ := (show ∃ t, u = Value.int i t from rx); cases q; exact PySem.W.kia_one PySem.W.kitx_int I.kIn True.intro e (fun z => nomatch z) h
  | str y => obtain ⟨t, q⟩ := (show ∃ t, u = Value.str y t from rx); cases q; exact PySem.W.kia_one PySem.W.kitx_str I.kIn True.intro e (fun z => nomatch z) h
  | flt y => obtain ⟨t, q⟩ := (show ∃ t, u = Value.float y t from rx); cases q; exact PySem.W.kia_one PySem.W.kitx_float I.kIn True.intro e (fun z => nomatch z) h
  | @lst a xs ea =>
    cases (show u = Value.ref a from rx)
    obtain ⟨_, _, n, _, h1⟩ := (show ObjOk X.prog X.w H s.heap a (.lst xs) from I.hok a _ ea)
    exact PySem.W.kia_one PySem.W.kitx_list I.kIn ⟨_, h1, rfl⟩ e (fun z => nomatch z) h
  | @frz a ob xs ea =>
    cases (show u = Value.ref a from rx)
    obtain ⟨_, _, _, n, _, h1⟩ := (show ObjOk X.prog X.w H s.heap a (.frz ob (.lst xs)) from I.hok a _ ea)
    exact PySem.W.kia_one PySem.W.kitx_list I.kIn ⟨_, h1, rfl⟩ e (fun z => nomatch z) h
  | @tup a xs ea =>
    cases (show u = Value.ref a from rx)
    obtain ⟨_, _, _, p⟩ := (show ObjOk X.prog X.w H s.heap a (.tup xs) from I.hok a _ ea)
    obtain ⟨o, h1, h2, _⟩ := p
    exact PySem.W.kia_one PySem.W.kitx_tuple I.kIn ⟨o, h1, h2⟩ e (fun z => nomatch z) h
  | @dK a kvs ea =>
    cases (show u = Value.ref a from rx)
    obtain ⟨_, _, vs, _, p⟩ := (show ObjOk X.prog X.w H s.heap a (.dK kvs) from I.hok a _ ea)
    obtain ⟨o, es, ep, h1, h2, _⟩ := p
    exact PySem.W.kia_one PySem.W.kitx_dict I.kIn ⟨o, h1, h2.1⟩ e (fun z => nomatch z) h
  | @dT a kvs ea =>
    cases (show u = Value.ref a from rx)
    obtain ⟨_, _, xs, _, o, es, ep, h1, h2, _⟩ := (show ObjOk X.prog X.w H s.heap a (.dT kvs) from I.hok a _ ea)
    exact PySem.W.kia_one PySem.W.kitx_dict I.kIn ⟨o, h1, h2.1⟩ e (fun z => nomatch z) h
  | @ins a C dx fs ea cl ha hn htk hm =>
    cases (show u = Value.ref a from rx)
    obtain ⟨mA, O, _⟩ := ins_get I.hok ea
    obtain ⟨od, J, _⟩ := O.look
    exact PySem.W.kia_one (PySem.W.kitx_own (cl.get _) cl.hd ha hn htk hm) I.kIn J e (fun z => nomatch z) h
end
end L2
namespace L2
open PySem PySem.Spec PyProof.Rows
structure Room (k : Nat) (A : Around) : Prop where
  hd : A.handled = none
  dp : A.depth + 3 * k + 5 < recursionLimit
  un : A.units + 16 * k + 200 < cLine
  gd : A.guards = some []
theorem Room.mono {j k : Nat} {A : Around} (r : Room k A) (h : j ≤ k) : Room j A := ⟨r.hd, by have := r.dp; omega, by have := r.un; omega, r.gd⟩
theorem Room.deeper {k : Nat} {A : Around} (r : Room (k + 1) A) (env : Env) : Room k (A.deeper env) :=
  ⟨r.hd, by have := r.dp; show A.depth + 1 + 3 * k + 5 < _; omega, by have := r.un; show A.units + 3 + 16 * k + 200 < _; omega, r.gd⟩
theorem Room.depth {k : Nat} {A : Around} (r : Room k A) : A.depth < recursionLimit := by have := r.dp; omega
theorem Room.units {k : Nat} {A : Around} (r : Room k A) : A.units + 64 < cLine := by have := r.un; omega
def tNil : TA := fun _ H Q => Q [] H
def tCons (ta : TE) (tr : TA) : TA := fun σ H Q => ta σ H fun x H1 => tr σ H1 fun xs H2 => Q (x :: xs) H2
section
variable {X : Cx} {e : Expr} {es : List Expr} {te : TE} {t : TA} {pos : Pos}
theorem pa_nil : PA X [] tNil := fun _ _ _ _ H Q I h => Calls.spliced_nil ⟨[], H, I, .nil, h⟩
theorem pa_cons (ha : PE X e te) (hr : PA X es t) (hs : starEach (e :: es) X.env = (false, eval e X.env) :: starEach es X.env := by rfl) : PA X (e :: es) (tCons te t) := by
  intro pos pins s σ H Q I h
  rw [hs]
  show wpAny _ _ (spliced ((false, eval e X.env) :: backTo pos (starEach es X.env))) _ _ s
  refine Calls.spliced_cons (thn (ha pins s σ H _ I h) fun u s1 ⟨x, H1, I1, r1, q1⟩ => ?_)
  exact thn (hr pos pins s1 σ H1 _ I1 q1) fun us s2 ⟨xs, H2, I2, r2, q2⟩ => ⟨x :: xs, H2, I2, .cons r1 r2, q2⟩
def tTup (t : TA) : TE := fun σ H Q => t σ H fun xs H1 => xs.length ≤ sizeLine ∧ ∀ p, H1 p = none → Q (.ref p) (upd H1 p (.tup xs))
def tLst (t : TA) : TE := fun σ H Q => t σ H fun xs H1 => xs.length ≤ sizeLine ∧ ∀ p, H1 p = none → Q (.ref p) (upd H1 p (.lst xs))
theorem pe_tup {x1} (h : PA X es t) : PE X (.Tuple es x1 pos) (tTup t) := by
  intro pins s σ H Q I hq
  refine wpAny_Tuple_spliced (thn (h pos pins s σ H _ I hq) fun us s1 ⟨xs, H1, I1, r, z, q⟩ => ⟨by rw [← r.length]; exact z, ?_⟩)
  have hf : H1 s1.heap.objs.size = none := I1.hok.fresh (Nat.le_refl _)
  refine ⟨.ref s1.heap.objs.size, upd H1 s1.heap.objs.size (.tup xs), I1.laid (t' := s1.toks) (fun b u e => Heap.get?_push_of_some _ e) (Nat.le_refl _) ?_, rfl, q _ hf⟩
  exact ⟨z, us, r, ⟨_, Heap.get?_push_size _ rfl, rfl, _, rfl⟩⟩
theorem pe_lst (h : PA X es t) : PE X (.List es pos) (tLst t) := by
  intro pins s σ H Q I hq
  refine wpAny_List_spliced (thn (h pos pins s σ H _ I hq) fun us s1 ⟨xs, H1, I1, r, z, q⟩ => ⟨by rw [← r.length]; exact z, ?_⟩)
  have hf : H1 s1.heap.objs.size = none := I1.hok.fresh (Nat.le_refl _)
  refine ⟨.ref s1.heap.objs.size, upd H1 s1.heap.objs.size (.lst xs), I1.laid (t' := s1.toks) (fun b u e => Heap.get?_push_of_some _ e) (Nat.le_refl _) ?_, rfl, q _ hf⟩
  exact ⟨z, us, 0, r, Heap.get?_push_size _ rfl⟩
end
abbrev Sp := List V → Hp → VK → XK → Prop
abbrev CXT := List Env → Hp → Shared → XK → Value → Shared → Prop
structure Env0 (P : Program) (w : World) (K : PySem.W.Frag) (mg : Str → Option Value) (base : Heap) (A : Around) (outer : List Env) (s : Shared) (H : Hp) : Prop where
  frames : A.frames = some outer
  mod : Mod K mg base
  bs : ∀ b o, base.get? b = some o → s.heap.get? b = some o ∧ H b = none
  bsz : base.objs.size ≤ s.heap.objs.size
  funs : s.heap.FunFrames base outer
  frf : ∀ b ∈ frs outer, H b = none
  hok : HOk P w H s.heap
  bare : AllBare s.gens
def CE (outer : List Env) (P : Program) (w : World) (H : Hp) (s : Shared) (Q : VK) (u : Value) (s' : Shared) : Prop :=
  ∃ v H', s'.os = s.os ∧ AllBare s'.gens ∧ Un (frs outer) [] H H' s.heap s'.heap ∧ HOk P w H' s'.heap ∧ RelV v u ∧ Q v H'
def CR (CX : CXT) (outer : List Env) (P : Program) (w : World) (H : Hp) (s : Shared) (Q : VK) (E : XK) (r : Result) (s' : Shared) : Prop :=
  match r with
  | .ok (.ret u) => CE outer P w H s Q u s'
  | .ok _ => False
  | .error e => CX outer H s E e s'
structure FnOk (P : Program) (w : World) (K : PySem.W.Frag) (mg : Str → Option Value) (base : Heap) (CX : CXT) (k : Nat) (f : Addr) (fd : FuncData) (ps : List Str) (sp : Sp) : Prop where
  len : ∀ vs H Q E, sp vs H Q E → vs.length = ps.length
  run : ∀ (A : Around) (outer : List Env) (s : Shared) (H : Hp) (args : Args) (us : List Value) (vs : List V) (Q : VK) (E : XK), Room k A → Env0 P w K mg base A outer s H → BindsTo s fd args (ps.zip us) → Vals vs us → sp vs H Q E →
    codeAny (model P w) A (.call (.ref f) args) (CR CX outer P w H s Q E) s
theorem FnOk.imp {P : Program} {w : World} {K : PySem.W.Frag} {mg : Str → Option Value} {base : Heap} {CX : CXT} {k : Nat} {f : Addr} {fd : FuncData} {ps : List Str} {sp sp' : Sp} (F : FnOk P w K mg base CX k f fd ps sp)
    (h : ∀ vs H Q E, sp' vs H Q E → sp vs H Q E) : FnOk P w K mg base CX k f fd ps sp' :=
  ⟨fun vs H Q E q => F.len vs H Q E (h _ _ _ _ q), fun A outer s H args us vs Q E hr he hb hv hs => F.run A outer s H args us vs Q E hr he hb hv (h _ _ _ _ hs)⟩
section
variable {X : Cx} {pins : List (Addr × Obj)} {σ : St} {H : Hp} {s s' : Shared}
theorem Inv.env0 (I : Inv X pins σ H s) : Env0 X.prog X.w X.K X.mg X.base X.A X.stack s H :=
  ⟨I.ok.frames, I.ok.mod, I.bs, Nat.le_trans I.ok.bsz I.sz, I.stack, I.stkFree, I.hok, I.bare⟩
theorem Inv.after {Q : VK} {u : Value} (I : Inv X pins σ H s) (h : CE X.stack X.prog X.w H s Q u s') : EP X pins σ Q u s' := by
  obtain ⟨v, H', os, bare, un, hok, r, q⟩ := h
  obtain ⟨hh, g, d, t, os'⟩ := s'
  obtain rfl : os' = s.os := os
  exact ⟨v, H', I.call (h' := hh) (g' := g) (d' := d) (t' := t) (ch := []) un hok bare (fun b z => absurd z (by simp)), r, q⟩
end
def tCall (sp : Sp) (dvs : List V) (E : XK) (t : TA) : TE := fun σ H Q => t σ H fun vs H1 => sp (vs ++ dvs) H1 Q E
def Binds (K : PySem.W.Frag) (fd : FuncData) (ps : List Str) (ds : List Value) : Prop :=
  ∀ (s : Shared) (us : List Value), K.In s.heap → (us ++ ds).length = ps.length → BindsTo s fd ⟨us, []⟩ (ps.zip (us ++ ds))
theorem Binds.all {K : PySem.W.Frag} {fd : FuncData} {ps : List Str} (h : ∀ us : List Value, us.length = ps.length → bindArgs fd ⟨us, []⟩ = pure (ps.zip us)) : Binds K fd ps [] := fun s us _ hl => by
  rw [List.append_nil] at hl ⊢
  exact .of_eq (h us hl)
def Passes (CX : CXT) (X : Cx) (E : XK) : Prop := ∀ (pins : List (Addr × Obj)) (σ : St) (H : Hp) (s : Shared) (e : Value) (s' : Shared), Inv X pins σ H s → CX X.stack H s E e s' → X.xe e s'
section
variable {X : Cx} {CX : CXT} {k : Nat} {f C : Addr} {fd : FuncData} {ps : List Str} {sp : Sp} {dvs : List V} {ds : List Value} {E : XK} {x m : Str} {p pos apos : Pos} {e o : Expr} {es : List Expr} {ta : TE} {t : TA}
theorem run_fn {pins : List (Addr × Obj)} {σ : St} {H : Hp} {s : Shared} {Q : VK} {us : List Value} {vs : List V} (F : FnOk X.prog X.w X.K X.mg X.base CX k f fd ps sp) (hr : Room k X.A) (hb : Binds X.K fd ps ds) (hd : Vals dvs ds) (hx : Passes CX X E)
    (I : Inv X pins σ H s) (r : Vals vs us) (h : sp (vs ++ dvs) H Q E) : wpAny (model X.prog X.w) X.A (call (.ref f) us) (EP X pins σ Q) X.xe s := by
  have r2 : Vals (vs ++ dvs) (us ++ ds) := r.append hd
  have hl : (us ++ ds).length = ps.length := by rw [← r2.length]; exact F.len _ _ _ _ h
  refine wpAny_call (codeAny_mono (F.run X.A X.stack s H ⟨us, []⟩ (us ++ ds) (vs ++ dvs) Q E hr I.env0 (hb s us I.kIn hl) r2 h) fun r s' hq => ?_)
  cases r with
  | error e => exact hx pins σ H s e s' I hq
  | ok fl =>
    cases fl with
    | ret u => exact I.after hq
    | next => exact False.elim hq
    | brk => exact False.elim hq
    | cont => exact False.elim hq
theorem pe_call (F : FnOk X.prog X.w X.K X.mg X.base CX k f fd ps sp) (hr : Room k X.A) (hg : Gl X x) (hm : X.mg x = some (.ref f)) (hk : PySem.W.keepIn X.K (.ref f) = true) (hb : Binds X.K fd ps ds) (hd : Vals dvs ds) (hx : Passes CX X E)
    (ha : PA X (e :: es) t) (hdb : (x == ("__debug__" : Str)) = false := by decide) (he : starEach (e :: es) X.env = (false, eval e X.env) :: starEach es X.env := by rfl) (hpl : (backTo pos (starEach es X.env)).any (·.1) = false := by rfl) :
    PE X (.Call (.Name x p) (e :: es) [] pos) (tCall sp dvs E t) := by
  intro pins s σ H Q I h
  refine wpAny_Call_Name_kw (ld_glob I hg hm ?_ hdb)
  refine PySem.W.callWith_K (h₀ := X.base) I.ok.mod.kin hk (thn (ha pos pins s σ H _ I h) fun us s1 ⟨vs, H1, I1, r, q⟩ => ⟨I1.kIn, ?_⟩) he hpl
  exact run_fn F hr hb hd hx I1 r q
end
structure FnScope (N P : List Str) (sc : Scope) : Prop where
  kind : sc.kind = .function
  co : sc.isCoroutine = false
  gen : sc.isGenerator = false
  nd : N.Nodup
  pre : N.take P.length = P
  par : ∀ x ∈ P, sc.names.lookup x = some .local ∨ sc.names.lookup x = some .cell
  nofree : ∀ y ∈ sc.names, y.2 ≠ .free
theorem bindL_out {kindOf : Str → Option NameKind} {x : Str} : ∀ {binds : List (Str × Value)} {m : Str → Option Value}, (∀ v, (x, v) ∉ binds) → bindL kindOf binds m x = m x
  | [], _, _ => rfl
  | (n, v) :: r, m, h => by
    unfold bindL
    rw [bindL_out fun w hw => h w (List.mem_cons_of_mem _ hw)]
    split
    · have : x ≠ n := by rintro rfl; exact h v List.mem_cons_self
      simp [this]
    · rfl
theorem bindC_out {kindOf : Str → Option NameKind} {x : Str} : ∀ {binds : List (Str × Value)} {m : Str → Option Value}, (∀ v, (x, v) ∉ binds) → bindC kindOf binds m x = m x
  | [], _, _ => rfl
  | (n, v) :: r, m, h => by
    unfold bindC
    rw [bindC_out fun w hw => h w (List.mem_cons_of_mem _ hw)]
    split
    · rfl
    · have : x ≠ n := by rintro rfl; exact h v List.mem_cons_self
      simp [this]
theorem bindL_get {kindOf : Str → Option NameKind} {x : Str} {v : Value} : ∀ {P : List Str} {vs : List Value} {i : Nat} {m : Str → Option Value}, P.Nodup → P[i]? = some x → vs[i]? = some v → kindOf x = some .local →
    bindL kindOf (P.zip vs) m x = some v
  | [], _, _, _, _, h, _, _ => by simp at h
  | _ :: _, [], _, _, _, _, h, _ => by simp at h
  | p :: P, w :: vs, 0, m, nd, h1, h2, hk => by
    simp at h1 h2; subst h1; subst h2
    show bindL kindOf ((p, w) :: P.zip vs) m p = _
    unfold bindL
    rw [bindL_out fun v hv => (List.nodup_cons.mp nd).1 (List.of_mem_zip hv).1, if_pos hk]
    simp
  | p :: P, w :: vs, i + 1, m, nd, h1, h2, hk => by
    show bindL kindOf ((p, w) :: P.zip vs) m x = _
    unfold bindL
    exact bindL_get (i := i) (List.nodup_cons.mp nd).2 (by simpa using h1) (by simpa using h2) hk
theorem bindC_get {kindOf : Str → Option NameKind} {x : Str} {v : Value} : ∀ {P : List Str} {vs : List Value} {i : Nat} {m : Str → Option Value}, P.Nodup → P[i]? = some x → vs[i]? = some v → kindOf x ≠ some .local →
    bindC kindOf (P.zip vs) m x = some v
  | [], _, _, _, _, h, _, _ => by simp at h
  | _ :: _, [], _, _, _, _, h, _ => by simp at h
  | p :: P, w :: vs, 0, m, nd, h1, h2, hk => by
    simp at h1 h2; subst h1; subst h2
    show bindC kindOf ((p, w) :: P.zip vs) m p = _
    unfold bindC
    rw [bindC_out fun v hv => (List.nodup_cons.mp nd).1 (List.of_mem_zip hv).1, if_neg hk]
    simp
  | p :: P, w :: vs, i + 1, m, nd, h1, h2, hk => by
    show bindC kindOf ((p, w) :: P.zip vs) m x = _
    unfold bindC
    exact bindC_get (i := i) (List.nodup_cons.mp nd).2 (by simpa using h1) (by simpa using h2) hk
def start (N : List Str) (vs : List V) : St := vs.map some ++ List.replicate (N.length - vs.length) none
def cxOf (CX : CXT) (P : Program) (w : World) (K : PySem.W.Frag) (mg : Str → Option Value) (base : Heap) (N : List Str) (qual : Str) (scope : Scope) (f : Addr) (cd : Value) (A : Around) (outer : List Env) (s : Shared) (H : Hp) (E : XK) : Cx where
  prog := P
  w := w
  K := K
  mg := mg
  base := base
  A := A.deeper (envOfC qual scope s.heap.objs.size f cd)
  N := N
  s₀ := s
  H₀ := H
  env := envOfC qual scope s.heap.objs.size f cd
  outer := outer
  stack := envOfC qual scope s.heap.objs.size f cd :: outer
  ex := []
  calm := true
  fn := fun _ => true
  pn := []
  xe := fun e s' => wpAny (model P w) (A.deeper (envOfC qual scope s.heap.objs.size f cd)) (leaving (envOfC qual scope s.heap.objs.size f cd) e) (fun _ s'' => CX outer H s E e s'') (fun e' s'' => CX outer H s E e' s'') s'
theorem cell_has {sc : Scope} {n : Nat} {x : Str} (h : sc.names.lookup x = some .cell) : ∃ c, (cellsFrom n sc.names []).lookup x = some c := by
  have q := PySem.W.cellsFrom_some sc.names n [] (.inl h)
  exact Option.isSome_iff_exists.mp q
theorem inv_start {CX : CXT} {P : Program} {w : World} {K : PySem.W.Frag} {mg : Str → Option Value} {base : Heap} {N ps : List Str} {qual : Str} {scope : Scope} {f : Addr} {cd : Value} {A : Around} {outer : List Env} {s s1 : Shared} {H : Hp} {E : XK} {us : List Value} {vs : List V}
    (S : FnScope N ps scope) (hd : A.handled = none) (e0 : Env0 P w K mg base A outer s H) (hl : vs.length = ps.length) (r : Vals vs us)
    (x : InCallC s s.heap.objs.size (bindL (envOfC qual scope s.heap.objs.size f cd).kindOf (ps.zip us) fun _ => none) (cellsFrom (s.heap.objs.size + 1) scope.names []) (bindC (envOfC qual scope s.heap.objs.size f cd).kindOf (ps.zip us) fun _ => none) s1) :
    Inv (cxOf CX P w K mg base N qual scope f cd A outer s H E) [] (start N vs) H s1 := by
  have hpl : ps.length ≤ N.length := by have := congrArg List.length S.pre; rw [List.length_take] at this; omega
  obtain ⟨h1, tk, rfl, hk⟩ := x.done
  have noA : ∀ b : Addr, b ∉ (cxOf CX P w K mg base N qual scope f cd A outer s H E).ex := fun b z => absurd (show b ∈ ([] : List Addr) from z) (by simp)
  refine ⟨⟨e0.mod, S.kind, rfl, rfl, Nat.le_refl _, fun y z c h1 h2 => ?_, fun y hy => ?_, fun y c _ h => ?_, fun _ => hd, Around.frames_deeper e0.frames, .inr ⟨rfl, rfl⟩, fun b z => absurd z (noA b), e0.bs, e0.bsz, fun b _ _ => noA b, fun b z => absurd z (noA b), e0.funs, e0.frf⟩,
    rfl, e0.bare, Un.kept hk, ⟨_, x.toInCall.ns, fun i y v h1 h2 h3 => ?_⟩, fun y c h => ⟨_, x.cell y c h⟩, e0.hok.fresh (Nat.le_refl _), fun y c h => ?_, fun p hp => absurd (show p ∈ ([] : List (Addr × Obj)) from hp) (by simp), e0.hok.kept hk, ?_⟩
  · exact name_of_addr x.apart (PySem.mem_of_lookup h1) (PySem.mem_of_lookup h2)
  · have hy : scope.names.lookup y = some .cell ∨ scope.names.lookup y = some .free := hy
    rcases hy with hy | hy
    · exact cell_has hy
    · exact absurd rfl (S.nofree _ (PySem.mem_of_lookup hy))
  · exact Nat.le_of_lt (x.above y c (PySem.mem_of_lookup h))
  · have hi : i < vs.length := by
      unfold start at h2
      by_cases hi : i < vs.length
      · exact hi
      · rw [List.getElem?_append_right (by simpa using hi)] at h2
        rw [List.getElem?_replicate] at h2
        split at h2 <;> cases h2
    have ha : vs[i]? = some v := by
      unfold start at h2
      rw [List.getElem?_append_left (by simpa using hi), List.getElem?_map] at h2
      cases e : vs[i]? with
      | none => rw [e] at h2; cases h2
      | some a => rw [e] at h2; cases h2; rfl
    obtain ⟨u, hu, rv⟩ := r.get ha
    have hp : ps[i]? = some y := by
      rw [← S.pre, List.getElem?_take_of_lt (by omega)]; exact h1
    have ndP : ps.Nodup := by rw [← S.pre]; exact S.nd.sublist (List.take_sublist _ _)
    refine ⟨u, rv, ?_⟩
    rcases S.par y (List.mem_of_getElem? hp) with k | k
    · exact .inl ⟨k, bindL_get ndP hp hu k⟩
    · obtain ⟨c, e⟩ := cell_has (n := s.heap.objs.size + 1) k
      refine .inr ⟨.inl k, c, e, ?_⟩
      have q := x.cell y c e
      rw [bindC_get ndP hp hu (by show scope.names.lookup y ≠ _; rw [k]; decide)] at q
      exact q
  · exact e0.hok.fresh (Nat.le_of_lt (x.above y c (PySem.mem_of_lookup h)))
  · unfold start
    show _ = N.length
    rw [List.length_append, List.length_map, List.length_replicate]
    omega
theorem fn_of {CX : CXT} {P : Program} {w : World} {K : PySem.W.Frag} {mg : Str → Option Value} {base : Heap} {k : Nat} {f : Addr} {name qual : Str} {params : Arguments} {body : List Stmt} {scope : Scope} {dV kV doc pm cdv ct oc : Value} {an od : Option Addr}
    {osl : Array (Option Value)} {N ps : List Str} {sp : Sp} (lk : K.lookup f = some ⟨oc, od, .func (PySem.W.fnOf name qual params body scope dV kV doc pm an cdv ct), osl⟩) (hcd : PySem.W.codeIn K cdv qual = true) (S : FnScope N ps scope)
    (len : ∀ vs H Q E, sp vs H Q E → vs.length = ps.length)
    (hbody : ∀ (A : Around) (outer : List Env) (s : Shared) (H : Hp) (vs : List V) (Q : VK) (E : XK), Room k (A.deeper (envOfC qual scope s.heap.objs.size f cdv)) → sp vs H Q E →
      ∃ t, PSs (cxOf CX P w K mg base N qual scope f cdv A outer s H E) body t ∧ t { nx := fun _ H' => Q .non H', rt := Q } (start N vs) H) :
    FnOk P w K mg base CX (k + 1) f (PySem.W.fnOf name qual params body scope dV kV doc pm an cdv ct) ps sp := by
  refine ⟨len, fun A outer s H args us vs Q E hr e0 hb r hsp => ?_⟩
  have hl := len _ _ _ _ hsp
  have KX : K.In s.heap := e0.mod.kin.keeps fun b o e => (e0.bs b o e).1
  have lim : s.heap.NoLimit := e0.mod.nolimit.keeps fun b o e => (e0.bs b o e).1
  have hkind : ∀ y ∈ ps.zip us, scope.names.lookup y.1 = some .local ∨ (scope.names.lookup y.1 = some .cell ∧ ((cellsFrom (s.heap.objs.size + 1) scope.names []).lookup y.1).isSome = true) := fun ⟨n, v⟩ hy => by
    rcases S.par n (List.of_mem_zip hy).1 with q | q
    · exact .inl q
    · exact .inr ⟨q, PySem.W.cellsFrom_some _ _ _ (.inl q)⟩
  refine codeAny_call_function hr.depth (KX _ _ lk) rfl S.co S.gen rfl (PySem.W.codeRec_of KX hcd) (hb _ _ _ _ ?_)
  refine wpAny_newFunctionEnv_cells S.kind hkind fun env he s1 x => ?_
  subst he
  refine ⟨lim.keeps x.toInCall.keep, codeAny_func ?_⟩
  obtain ⟨t, ht, hq⟩ := hbody A outer s H vs Q E (hr.deeper _) hsp
  have I : Inv (cxOf CX P w K mg base N qual scope f cdv A outer s H E) [] (start N vs) H s1 := inv_start S hr.hd e0 hl r x
  refine wpAny_mono (ht [] s1 (start N vs) H _ I hq) (fun fl s' hs => ?_) fun e s' hs => hs
  have fin : ∀ {σ' : St} {H' : Hp} {v : V} {u : Value}, Inv (cxOf CX P w K mg base N qual scope f cdv A outer s H E) [] σ' H' s' → RelV v u → Q v H' → CE outer P w H s Q u s' :=
    fun {σ' H' v u} J rv q => ⟨v, H', J.os, J.bare, J.base, J.hok, rv, q⟩
  cases fl with
  | ret u =>
    obtain ⟨v, σ', H', J, rv, q⟩ := hs
    exact fin J rv q
  | next =>
    obtain ⟨σ', H', J, q⟩ := hs
    exact fin (v := V.non) (u := Value.none) J rfl q
  | brk =>
    obtain ⟨_, _, _, q⟩ := hs
    exact False.elim q
  | cont =>
    obtain ⟨_, _, _, q⟩ := hs
    exact False.elim q
end L2
namespace L2
open PySem PySem.Spec PyProof.Rows
section
variable {X : Cx} {x : Str} {p pos : Pos} {e : Expr} {es : List Expr} {t : TA} {id T : String} {r : List V → Hp → VK → Prop}
def tCB (r : List V → Hp → VK → Prop) (t : TA) : TE := fun σ H Q => t σ H fun vs H1 => r vs H1 Q
theorem pe_callB (hc : CallR X (.builtin id) r) (hg : Gl X x) (hm : X.mg x = none) (hv : bootBuiltins x = some (.builtin id)) (ha : PA X (e :: es) t) (hn : x ≠ "__name__" := by decide) (hdb : (x == ("__debug__" : Str)) = false := by decide)
    (he : starEach (e :: es) X.env = (false, eval e X.env) :: starEach es X.env := by rfl) (hpl : (backTo pos (starEach es X.env)).any (·.1) = false := by rfl) : PE X (.Call (.Name x p) (e :: es) [] pos) (tCB r t) := by
  intro pins s σ H Q I h
  refine wpAny_Call_Name_kw (ld_blt I hg hm hv ?_ hn hdb)
  exact PyProof.Rows.callWith_builtin1 (thn (ha pos pins s σ H _ I h) fun us s1 ⟨vs, H1, I1, r1, q1⟩ => hc pins s1 σ H1 vs us Q I1 r1 q1) he hpl
theorem pe_callTy (hc : CallR X (.type T) r) (hg : Gl X x) (hm : X.mg x = none) (hv : bootBuiltins x = some (.type T)) (ha : PA X (e :: es) t) (hn : x ≠ "__name__" := by decide) (hdb : (x == ("__debug__" : Str)) = false := by decide)
    (he : starEach (e :: es) X.env = (false, eval e X.env) :: starEach es X.env := by rfl) (hpl : (backTo pos (starEach es X.env)).any (·.1) = false := by rfl) : PE X (.Call (.Name x p) (e :: es) [] pos) (tCB r t) := by
  intro pins s σ H Q I h
  refine wpAny_Call_Name_kw (ld_blt I hg hm hv ?_ hn hdb)
  exact PyProof.Rows.callWith_type1 (thn (ha pos pins s σ H _ I h) fun us s1 ⟨vs, H1, I1, r1, q1⟩ => hc pins s1 σ H1 vs us Q I1 r1 q1) he hpl
end
end L2
namespace HT
open PySem PyProof.Rows
section
variable {prog : Program} {w : World} {A : Around} {E : Value → Shared → Prop} {s : Shared}
def sIx (n d : Nat) : Option Int → Nat
  | none => d
  | some v => if v < 0 then (v + (n : Int)).toNat else min v.toNat n
theorem sIx_none (n d : Nat) : sIx n d none = d := rfl
theorem sIx_nat (n d k : Nat) : sIx n d (some (k : Int)) = min k n := by
  show (if (k : Int) < 0 then ((k : Int) + (n : Int)).toNat else min (k : Int).toNat n) = min k n
  rw [if_neg (by omega), Int.toNat_natCast]
end
end HT
namespace L2
open PySem PySem.Spec PyProof.Rows
abbrev TO := St → Hp → (Option Int → Hp → Prop) → Prop
def PO (X : Cx) (e : Option Expr) (t : TO) : Prop :=
  ∀ (pins : List (Addr × Obj)) (s : Shared) (σ : St) (H : Hp) (Q : Option Int → Hp → Prop), Inv X pins σ H s → t σ H Q →
    wpAny (model X.prog X.w) X.A (evalPart e X.env) (fun u s' => ∃ o H', Inv X pins σ H' s' ∧ IsPart u o ∧ Q o H') X.xe s
def tNoPart : TO := fun _ H Q => Q none H
def tPart (t : TE) : TO := fun σ H Q => t σ H fun x H1 => ∃ i, x = .int i ∧ Q (some i) H1
theorem intsAre_of {ns : List Int} : ∀ {us : List Value}, Vals (ns.map V.int) us → IntsAre us ns := by
  induction ns with
  | nil => intro us r; rw [List.map_nil] at r; cases r; exact .nil
  | cons n ns ih =>
    intro us r
    rw [List.map_cons] at r
    cases r with
    | cons r1 r2 =>
      obtain ⟨t, e⟩ := r1
      subst e
      exact .cons n t (ih r2)
section
variable {X : Cx} {e : Expr} {te : TE} {lo hi : Option Expr} {tl th : TO} {pos p2 : Pos}
theorem po_none : PO X none tNoPart := by
  intro pins s σ H Q I h
  rw [evalPart_none]
  exact wpAny_pure ⟨none, H, I, .none, h⟩
theorem po_some (h : PE X e te) : PO X (some e) (tPart te) := by
  intro pins s σ H Q I hw
  rw [evalPart_some]
  refine thn (h pins s σ H _ I hw) fun u s1 ⟨x, H1, I1, r1, q1⟩ => ?_
  obtain ⟨i, rfl, q⟩ := q1
  obtain ⟨t, rfl⟩ := r1
  exact ⟨some i, H1, I1, .int i t, q⟩
def SlR (X : Cx) (r : V → Option Int → Option Int → Hp → VK → Prop) : Prop :=
  ∀ (pins : List (Addr × Obj)) (s : Shared) (σ : St) (H : Hp) (x : V) (v vl vu : Value) (lo hi : Option Int) (sl : Addr) (Q : VK), Inv X pins σ H s → RelV x v → s.heap.IsSliceOf sl vl vu .none → IsPart vl lo → IsPart vu hi → r x lo hi H Q →
    ∃ T id, typeLookup (.type T) "__getitem__" = pure (some (.builtin id)) ∧ s.TypeIs v T ∧ wpAny (model X.prog X.w) X.A (getItem v (.ref sl)) (EP X pins σ Q) X.xe s
def tSl (r : V → Option Int → Option Int → Hp → VK → Prop) (te : TE) (tl th : TO) : TE := fun σ H Q => te σ H fun x H1 => tl σ H1 fun l H2 => th σ H2 fun u H3 => r x l u H3 Q
theorem pe_slice {r : V → Option Int → Option Int → Hp → VK → Prop} (hr : SlR X r) (he : PE X e te) (hl : PO X lo tl) (hu : PO X hi th) : PE X (.Subscript e (.Slice lo hi none p2) pos) (tSl r te tl th) := by
  intro pins s σ H Q I h
  refine Subscript_ (thn (he pins s σ H _ I h) fun v s1 ⟨x, H1, I1, r1, q1⟩ => ?_)
  refine wpAny_Slice (thn (hl pins s1 σ H1 _ I1 q1) fun vl s2 ⟨l, H2, I2, pl, q2⟩ => thn (hu pins s2 σ H2 _ I2 q2) fun vu s3 ⟨u, H3, I3, pu, q3⟩ => ?_)
  rw [evalPart_none]
  refine wpAny_pure ?_
  have I4 : Inv X pins σ H3 { s3 with heap := s3.heap.push { cls := .type "slice", data := .fields #[vl, vu, .none] } } := I3.kept (t' := s3.toks) fun b ob q => Heap.get?_push_of_some _ q
  obtain ⟨T, id, hT, ht, hg⟩ := hr pins { s3 with heap := s3.heap.push { cls := .type "slice", data := .fields #[vl, vu, .none] } } σ H3 x v vl vu l u s3.heap.objs.size Q I4 r1 (Heap.IsSliceOf.new ..) pl pu q3
  show wpAny (model X.prog X.w) X.A (subscriptTail e (.Slice lo hi none p2) v (.ref s3.heap.objs.size)) (EP X pins σ Q) X.xe { s3 with heap := s3.heap.push { cls := .type "slice", data := .fields #[vl, vu, .none] } }
  exact tail_any (ops := [.ref s3.heap.objs.size, v]) ht hT hg (by with_unfolding_all rfl)
def cutV (xs : List V) (lo hi : Option Int) : List V := (xs.drop (HT.sIx xs.length 0 lo)).take (HT.sIx xs.length xs.length hi - HT.sIx xs.length 0 lo)
theorem cutV_length (xs : List V) (lo hi : Option Int) : (cutV xs lo hi).length ≤ xs.length := by
  unfold cutV
  rw [List.length_take, List.length_drop]
  omega
end
end L2
namespace L2
open PySem PySem.Spec PyProof.Rows
def ixN (n : Nat) (i : Int) : Option Nat := if 0 ≤ i then (if i < n then some i.toNat else none) else if -(n : Int) ≤ i then some (i + n).toNat else none
def atI {α : Type} (xs : List α) (i : Int) : Option α := (ixN xs.length i).bind fun j => xs[j]?
theorem ixN_seq {n : Nat} {i : Int} {j : Nat} (h : ixN n i = some j) : seqIndex? i n = some j ∧ j < n ∧ -(n : Int) ≤ i ∧ i < n := by
  unfold ixN at h
  by_cases h0 : 0 ≤ i
  · rw [if_pos h0] at h
    by_cases h1 : i < n
    · rw [if_pos h1] at h
      have e : i.toNat = j := Option.some.inj h
      exact ⟨by rw [seqIndex_of h0 h1, e], by omega, by omega, h1⟩
    · rw [if_neg h1] at h; cases h
  · rw [if_neg h0] at h
    by_cases h1 : -(n : Int) ≤ i
    · rw [if_pos h1] at h
      have e : (i + n).toNat = j := Option.some.inj h
      exact ⟨by rw [seqIndex_neg (by omega) h1, e], by omega, h1, by omega⟩
    · rw [if_neg h1] at h; cases h
theorem atI_get {α : Type} {xs : List α} {i : Int} {v : α} (h : atI xs i = some v) : ∃ j, seqIndex? i xs.length = some j ∧ xs[j]? = some v ∧ j < xs.length ∧ -(xs.length : Int) ≤ i ∧ i < xs.length := by
  unfold atI at h
  cases e : ixN xs.length i with
  | none => rw [e] at h; cases h
  | some j =>
    rw [e] at h
    obtain ⟨h1, h2, h3, h4⟩ := ixN_seq e
    exact ⟨j, h1, h, h2, h3, h4⟩
theorem atI_nat {α : Type} {xs : List α} {j : Nat} {v : α} (h : xs[j]? = some v) : atI xs (j : Int) = some v := by
  have hj : j < xs.length := (List.getElem?_eq_some_iff.mp h).1
  have e : ixN xs.length (j : Int) = some j := by
    unfold ixN
    rw [if_pos (by omega), if_pos (by omega)]; simp
  unfold atI; rw [e]; exact h
def PlainIx (b : Expr) : Prop := ∀ o i, subscripted b false o i = operate [o, i] (getItem o i)
def IxR (X : Cx) (r : R2) : Prop :=
  ∀ (value slice : Expr) (pins : List (Addr × Obj)) (s : Shared) (σ : St) (H : Hp) (x y : V) (v u : Value) (Q : VK), Inv X pins σ H s → RelV x v → RelV y u → r x y H Q →
    subscripted slice false v u = operate [v, u] (getItem v u) → wpAny (model X.prog X.w) X.A (subscriptTail value slice v u) (EP X pins σ Q) X.xe s
def MtR (X : Cx) (id : String) (r : V → List V → Hp → VK → Prop) : Prop :=
  ∀ (pins : List (Addr × Obj)) (s : Shared) (σ : St) (H : Hp) (x : V) (xs : List V) (v : Value) (us : List Value) (Q : VK), Inv X pins σ H s → RelV x v → Vals xs us → r x xs H Q →
    wpAny (model X.prog X.w) X.A (call (.builtin id) (v :: us)) (EP X pins σ Q) X.xe s
section
variable {X : Cx} {a b : Expr} {ta tb : TE} {pos : Pos}
theorem pe_ix {r : R2} (hr : IxR X r) (ha : PE X a ta) (hb : PE X b tb) (hs : PlainIx b) : PE X (.Subscript a b pos) (tOp r ta tb) := by
  intro pins s σ H Q I h
  exact Subscript_ (binT ha hb I h fun v u s2 x y H2 I2 rx ry q => hr a b pins s2 σ H2 x y v u Q I2 rx ry q (hs _ _))
def rIxL (K : PySem.W.Frag) : R2 := fun x y H Q => ∃ p xs i v, x = .ref p ∧ y = .int i ∧ SqL K H p xs ∧ atI xs i = some v ∧ Q v H
theorem ix_list : IxR X (rIxL X.K) := by
  intro value slice pins s σ H x y v u Q I rx ry h hs
  obtain ⟨p, xs, i, z, rfl, rfl, hq, he, q⟩ := h
  cases rx
  obtain ⟨t, rfl⟩ := ry
  obtain ⟨its, r, pl, hz⟩ := I.list hq
  obtain ⟨j, h1, h2, h3, h4, h5⟩ := atI_get he
  obtain ⟨w, ew, rw'⟩ := r.get h2
  have hl := r.length
  have hn := line63
  have fin : EP X pins σ Q w s := ⟨z, H, I, rw', q⟩
  by_cases h0 : 0 ≤ i
  · have hj : i.toNat = j := by
      rw [seqIndex_of h0 h5] at h1
      exact Option.some.inj h1
    exact item_listR pl.isList h0 (by omega) (by rw [hj]; simpa using ew) fin hs
  · have hj : (i + (its.toArray.size : Int)).toNat = j := by
      rw [seqIndex_neg (by omega) h4] at h1
      rw [List.size_toArray, ← hl]
      exact Option.some.inj h1
    exact subscriptTail_builtinR (x := w) pl.isList.typeIs slot_list_getitem.lookup
      (wpAny_getItem_list_neg (Q := fun r s' => r = w ∧ EP X pins σ Q r s') pl.isList (by omega) (by rw [List.size_toArray] <;> omega) (by omega) (by rw [hj]; simpa using ew) ⟨rfl, fin⟩) hs
theorem mapSeq_set (its : List Value) (n j : Nat) (u : Value) : Obj.mapSeq (·.setIfInBounds j u) { cls := .type "list", data := .seq its.toArray n } = { cls := .type "list", data := .seq (its.set j u).toArray n } := by
  simp [Obj.mapSeq]
theorem Inv.lst {pins : List (Addr × Obj)} {σ : St} {H : Hp} {s : Shared} {p : Addr} {xs : List V} (I : Inv X pins σ H s) (h : H p = some (.lst xs)) :
    ∃ (its : List Value) (n : Nat), Vals xs its ∧ s.heap.get? p = some { cls := .type "list", data := .seq its.toArray n } ∧ xs.length ≤ sizeLine := by
  obtain ⟨z, its, n, r, e⟩ := I.hok p _ h
  exact ⟨its, n, r, e, z⟩
theorem Inv.lstUpd {pins : List (Addr × Obj)} {σ : St} {H : Hp} {s : Shared} {p : Addr} {xs ys : List V} {its its' : List Value} {n n' : Nat} {f : Obj → Obj} (I : Inv X pins σ H s) (h : H p = some (.lst xs))
    (ho : s.heap.get? p = some { cls := .type "list", data := .seq its.toArray n }) (hf : f { cls := .type "list", data := .seq its.toArray n } = { cls := .type "list", data := .seq its'.toArray n' }) (r : Vals ys its') (hz : ys.length ≤ sizeLine) (t : Nat) :
    Inv X pins σ (upd H p (.lst ys)) { s with heap := s.heap.update p f, toks := t } := by
  have e : (s.heap.update p f).get? p = some { cls := .type "list", data := .seq its'.toArray n' } := by
    rw [Heap.get?_update_self f ho (by rw [hf] <;> rfl), hf]
  refine I.write (x := p) (e := p) (by rw [h]; trivial) (.inl rfl) (fun b u hb q => (Heap.get?_update_other _ _ (Ne.symm hb)).trans q) ⟨_, e⟩ ?_
  exact ⟨hz, its', n', r, e⟩
def rSetL : V → V → V → Hp → (Hp → Prop) → Prop := fun o i v H Q => ∃ p xs k j, o = .ref p ∧ i = .int k ∧ H p = some (.lst xs) ∧ ixN xs.length k = some j ∧ Q (upd H p (.lst (xs.set j v)))
theorem set_list : PSet X rSetL := by
  intro pins s σ H o i v ov iv u Q I ro ri rv h
  obtain ⟨p, xs, k, j, rfl, rfl, hp, hj, q⟩ := h
  cases ro
  obtain ⟨t, rfl⟩ := ri
  obtain ⟨its, n, r, ho, hz⟩ := I.lst hp
  obtain ⟨h1, h2, h3, h4⟩ := ixN_seq hj
  have hl := r.length
  have hn := line63
  have I' : Inv X pins σ (upd H p (.lst (xs.set j v))) { s with heap := s.heap.update p (Obj.mapSeq (·.setIfInBounds j u)) } :=
    I.lstUpd hp ho (mapSeq_set its n j u) (r.set rv j) (by rw [List.length_set]; exact hz) s.toks
  by_cases h0 : 0 ≤ k
  · have hk : k.toNat = j := by
      rw [seqIndex_of h0 h4] at h1
      exact Option.some.inj h1
    exact PySem.W.ki_setAt ho h0 (by omega) (by rw [List.size_toArray, ← hl]; exact h4) (by rw [hk]; exact ⟨_, I', q⟩)
  · have hk : (k + (its.toArray.size : Int)).toNat = j := by
      rw [seqIndex_neg (by omega) h3] at h1
      rw [List.size_toArray, ← hl]
      exact Option.some.inj h1
    exact PySem.W.ki_setBack ho (by omega) (by rw [List.size_toArray, ← hl]; exact h3) (by omega) (by rw [hk]; exact ⟨_, I', q⟩)
theorem slice_bounds (lo hi : Option Int) (n : Nat) : (sliceBounds lo hi none n).1 = ((HT.sIx n 0 lo : Nat) : Int) ∧ (sliceBounds lo hi none n).2.1 = ((HT.sIx n n hi : Nat) : Int) ∧ (sliceBounds lo hi none n).2.2 = 1 := by
  refine ⟨?_, ?_, rfl⟩
  · cases lo with
    | none => simp [sliceBounds, HT.sIx]
    | some i =>
      simp only [sliceBounds, HT.sIx, Option.getD_none, show (1 : Int) > 0 by decide, if_true]
      by_cases h : i < 0
      · simp only [h, if_true] <;> omega
      · simp only [h, if_false] <;> omega
  · cases hi with
    | none => simp [sliceBounds, HT.sIx]
    | some i =>
      simp only [sliceBounds, HT.sIx, Option.getD_none, show (1 : Int) > 0 by decide, if_true]
      by_cases h : i < 0
      · simp only [h, if_true] <;> omega
      · simp only [h, if_false] <;> omega
theorem slicePick_cut (its : List Value) (lo hi : Option Int) : slicePick its.toArray lo hi none = ((its.drop (HT.sIx its.length 0 lo)).take (HT.sIx its.length its.length hi - HT.sIx its.length 0 lo)).toArray := by
  obtain ⟨h1, h2, h3⟩ := slice_bounds lo hi its.toArray.size
  unfold slicePick
  rw [h1, h2, h3]
  simp only [sliceRange_one, pick_run, List.size_toArray] <;> rfl
def rSlL (K : PySem.W.Frag) : V → Option Int → Option Int → Hp → VK → Prop := fun x lo hi H Q => ∃ a xs, x = .ref a ∧ SqL K H a xs ∧ ∀ p, H p = none → Q (.ref p) (upd H p (.lst (cutV xs lo hi)))
theorem sl_list : SlR X (rSlL X.K) := by
  intro pins s σ H x v vl vu lo hi sl Q I rx hs pl pu h
  obtain ⟨a, xs, rfl, hx, q⟩ := h
  cases rx
  obtain ⟨its, r, ht, hz⟩ := I.list hx
  have hlen := r.length
  refine ⟨"list", _, slot_list_getitem.lookup, ht.isList.typeIs, ?_⟩
  refine wpAny_getItem_list_slice ht.isList hs pl pu .none (by simp) ?_ (by rw [List.size_toArray] <;> omega)
  rw [slicePick_cut, ← hlen]
  refine ⟨.ref s.heap.objs.size, _, I.laid (t' := s.toks) (o := .lst (cutV xs lo hi)) (fun b ob q => Heap.get?_push_of_some _ q) (Nat.le_refl _) ?_, rfl, q _ (I.hok.fresh (Nat.le_refl _))⟩
  exact ⟨Nat.le_trans (cutV_length xs lo hi) hz, _, 0, (r.drop (HT.sIx xs.length 0 lo)).take (HT.sIx xs.length xs.length hi - HT.sIx xs.length 0 lo), Heap.get?_push_size _ rfl⟩
def flatV : V → Bool
  | .non => true
  | .bl _ => true
  | .int _ => true
  | .str _ => true
  | _ => false
def eqV : V → V → Bool
  | .non, .non => true
  | .bl a, .bl b => a == b
  | .bl a, .int b => (if a then 1 else 0) == b
  | .int a, .bl b => a == (if b then 1 else 0)
  | .int a, .int b => a == b
  | .str a, .str b => a == b
  | _, _ => false
theorem eqAt_V {A : Around} {s : Shared} {y x : V} {u v : Value} (ry : RelV y u) (rx : RelV x v) (fy : flatV y = true) (fx : flatV x = true) : SeqAt.EqAt A s u v (eqV y x) := by
  cases y with
  | non =>
    cases ry
    cases x with
    | non => cases rx; exact SeqAt.EqAt.same _
    | bl b => cases rx; exact SeqAt.EqAt.none_bool b
    | int b => obtain ⟨t, rfl⟩ := rx; exact SeqAt.EqAt.none_int b t
    | str b => obtain ⟨t, rfl⟩ := rx; exact SeqAt.EqAt.none_str b t
    | _ => exact absurd (show false = true from fx) Bool.false_ne_true
  | bl a =>
    cases ry
    cases x with
    | non => cases rx; exact SeqAt.EqAt.bool_none a
    | bl b => cases rx; exact SeqAt.EqAt.bool_bool a b
    | int b => obtain ⟨t, rfl⟩ := rx; exact SeqAt.EqAt.bool_int a b t
    | str b => obtain ⟨t, rfl⟩ := rx; exact SeqAt.EqAt.bool_str a b t
    | _ => exact absurd (show false = true from fx) Bool.false_ne_true
  | int a =>
    obtain ⟨t', rfl⟩ := ry
    cases x with
    | non => cases rx; exact SeqAt.EqAt.int_none a t'
    | bl b => cases rx; exact SeqAt.EqAt.int_bool a t' b
    | int b => obtain ⟨t, rfl⟩ := rx; exact SeqAt.EqAt.int_int a t' b t
    | str b => obtain ⟨t, rfl⟩ := rx; exact SeqAt.EqAt.int_str a t' b t
    | _ => exact absurd (show false = true from fx) Bool.false_ne_true
  | str a =>
    obtain ⟨t', rfl⟩ := ry
    cases x with
    | non => cases rx; exact SeqAt.EqAt.str_none a t'
    | bl b => cases rx; exact SeqAt.EqAt.str_bool a t' b
    | int b => obtain ⟨t, rfl⟩ := rx; exact SeqAt.EqAt.str_int a t' b t
    | str b => obtain ⟨t, rfl⟩ := rx; exact SeqAt.EqAt.str_str a t' b t
    | _ => exact absurd (show false = true from fx) Bool.false_ne_true
  | _ => exact absurd (show false = true from fy) Bool.false_ne_true
def eqU (x : V) (u : Value) : Bool := match u with
  | .none => eqV .non x
  | .bool b => eqV (.bl b) x
  | .int i _ => eqV (.int i) x
  | .str z _ => eqV (.str z) x
  | _ => false
theorem eqU_of {x y : V} {u : Value} (r : RelV y u) (f : flatV y = true) : eqU x u = eqV y x := by
  cases y with
  | non => cases r; rfl
  | bl b => cases r; rfl
  | int i => obtain ⟨t, rfl⟩ := r; rfl
  | str z => obtain ⟨t, rfl⟩ := r; rfl
  | _ => exact absurd (show false = true from f) Bool.false_ne_true
theorem any_eqU {x : V} : ∀ {xs : List V} {us : List Value}, Vals xs us → xs.all flatV = true → us.any (eqU x) = xs.any fun y => eqV y x
  | _, _, .nil, _ => rfl
  | y :: xs, u :: us, .cons r t, f => by
    rw [List.all_cons, Bool.and_eq_true] at f
    rw [List.any_cons, List.any_cons, eqU_of r f.1, any_eqU t f.2]
theorem mem_eqAt {A : Around} {s : Shared} {x : V} {v : Value} (rx : RelV x v) (fx : flatV x = true) : ∀ {xs : List V} {us : List Value}, Vals xs us → xs.all flatV = true → ∀ u ∈ us, SeqAt.EqAt A s u v (eqU x u)
  | _, _, .nil, _ => fun u hu => by cases hu
  | y :: xs, u :: us, .cons r t, f => fun u' hu => by
    rw [List.all_cons, Bool.and_eq_true] at f
    rcases List.mem_cons.mp hu with rfl | hu
    · rw [eqU_of r f.1]; exact eqAt_V r rx f.1 fx
    · exact mem_eqAt rx fx t f.2 u' hu
def inV (x : V) (xs : List V) : Bool := xs.any fun y => eqV y x
def rIn (K : PySem.W.Frag) (neg : Bool) : R2 := fun x y H Q => ∃ p xs, y = .ref p ∧ (SqL K H p xs ∨ SqT K H p xs) ∧ flatV x = true ∧ xs.all flatV = true ∧ Q (.bl (if neg then !inV x xs else inV x xs)) H
theorem op_notIn_seq : OpR X (compareOp .NotIn) (rIn X.K true) := by
  intro pins s σ H x y v u Q I rx ry h
  obtain ⟨p, xs, rfl, hq, fx, fs, q⟩ := h
  cases ry
  rcases hq with hq | hq
  · obtain ⟨its, r, pl, hz⟩ := I.list hq
    refine SeqAt.notIn_listAt (eqU x) pl.isList (fun w hw => mem_eqAt rx fx r fs w (by simpa using hw)) ⟨.bl _, H, I, rfl, ?_⟩
    rw [show its.toArray.any (eqU x) = its.any (eqU x) by simp, any_eqU r fs]
    exact q
  · obtain ⟨its, r, pl, hz⟩ := I.tuple hq
    refine SeqAt.notIn_tupleAt (eqU x) pl (fun w hw => mem_eqAt rx fx r fs w (by simpa using hw)) ⟨.bl _, H, I, rfl, ?_⟩
    rw [show its.toArray.any (eqU x) = its.any (eqU x) by simp, any_eqU r fs]
    exact q
theorem call_len_seq : CallR X (.builtin "len") (fun xs H Q => ∃ p ys, xs = [.ref p] ∧ (SqL X.K H p ys ∨ SqT X.K H p ys) ∧ Q (.int ys.length) H) := by
  intro pins s σ H xs us Q I r h
  obtain ⟨p, ys, rfl, hq, q⟩ := h
  obtain ⟨u, rfl, rx⟩ := vals1 r
  cases rx
  have hn := line63
  rcases hq with hq | hq
  · obtain ⟨its, r', pl, hz⟩ := I.list hq
    have hlen := r'.length
    exact Calls.call_len_list pl.isList (by simp only [List.size_toArray] <;> omega) ⟨.int ys.length, H, I.tok _, ⟨s.toks + 1, by rw [List.size_toArray, hlen]⟩, q⟩
  · obtain ⟨its, r', pl, hz⟩ := I.tuple hq
    have hlen := r'.length
    exact len_tuple pl (by simp only [List.size_toArray] <;> omega) ⟨.int ys.length, H, I.tok _, ⟨s.toks + 1, by rw [List.size_toArray, hlen]⟩, q⟩
theorem call_list_of : CallR X (.type "list") (fun xs H Q => ∃ p ys, xs = [.ref p] ∧ (SqL X.K H p ys ∨ SqT X.K H p ys) ∧ ∀ l, H l = none → Q (.ref l) (upd H l (.lst ys))) := by
  intro pins s σ H xs us Q I r h
  obtain ⟨p, ys, rfl, hq, q⟩ := h
  obtain ⟨u, rfl, rx⟩ := vals1 r
  cases rx
  have fin : ∀ (its : List Value), Vals ys its → ys.length ≤ sizeLine → ∀ (h' : Heap) (c' : Nat), (∀ b o', s.heap.get? b = some o' → h'.get? b = some o') →
      h'.get? s.heap.objs.size = some { cls := .type "list", dict := none, data := .seq its.toArray c', slots := #[] } → EP X pins σ Q (.ref s.heap.objs.size) { s with heap := h' } := fun its r' hz h' c' kp e =>
    ⟨.ref s.heap.objs.size, _, I.laid (t' := s.toks) kp (Nat.le_refl _) (show ObjOk X.prog X.w _ h' _ (.lst ys) from ⟨hz, its, c', r', e⟩), rfl, q _ (I.hok.fresh (Nat.le_refl _))⟩
  rcases hq with hq | hq
  · obtain ⟨its, r', pl, hz⟩ := I.list hq
    have hlen := r'.length
    obtain ⟨o, ho, hc, n, hd⟩ := pl.isList
    exact call_list_seq p (.inl rfl) ho hc hd (fun h' c' kp e => fin its r' hz h' c' kp e) (by simp only [List.size_toArray] <;> omega)
  · obtain ⟨its, r', pl, hz⟩ := I.tuple hq
    have hlen := r'.length
    obtain ⟨o, ho, hc, n, hd⟩ := pl
    exact call_list_seq p (.inr rfl) ho hc hd (fun h' c' kp e => fin its r' hz h' c' kp e) (by simp only [List.size_toArray] <;> omega)
def tyV (K : PySem.W.Frag) (T : String) (x : V) (H : Hp) : Prop := match x with
  | .str _ => T = "str"
  | .int _ => T = "int"
  | .ref p => (T = "list" ∧ ∃ xs, SqL K H p xs) ∨ (T = "tuple" ∧ ∃ o, K.lookup p = some o ∧ o.cls = .type "tuple" ∧ o.dict = none) ∨
      (T = "dict" ∧ ((∃ kvs, H p = some (.dK kvs)) ∨ ∃ kvs, H p = some (.dT kvs))) ∨ (T = "set" ∧ ∃ S n, H p = some (.set S n))
  | _ => False
theorem tyV_is {pins : List (Addr × Obj)} {σ : St} {H : Hp} {s : Shared} {T : String} {x : V} {v : Value} (I : Inv X pins σ H s) (r : RelV x v) (ty : tyV X.K T x H) :
    s.TypeIs v T ∧ ∀ a, v = .ref a → ∃ ob, s.heap.get? a = some ob ∧ ob.dict = none := by
  cases x with
  | str z =>
    obtain ⟨t, rfl⟩ := r
    cases (show T = "str" from ty)
    exact ⟨typeIs_str s z t, fun _ e => nomatch e⟩
  | int i =>
    obtain ⟨t, rfl⟩ := r
    cases (show T = "int" from ty)
    exact ⟨typeIs_int s i t, fun _ e => nomatch e⟩
  | ref p =>
    cases r
    rcases ty with ⟨rfl, xs, hq⟩ | ⟨rfl, o, hk, hc, hd⟩ | ⟨rfl, hk⟩ | ⟨rfl, S, n, hk⟩
    · obtain ⟨its, _, pl, _⟩ := I.list hq
      refine ⟨pl.isList.typeIs, fun a e => ?_⟩
      cases e
      obtain ⟨o, n, e, c, hd, _⟩ := pl
      exact ⟨o, e, hd⟩
    · refine ⟨⟨o, I.kIn p o hk, hc⟩, fun a e => ?_⟩
      cases e
      exact ⟨o, I.kIn _ o hk, hd⟩
    · have z : ∃ o, s.heap.get? p = some o ∧ o.ExactDict := by
        rcases hk with ⟨kvs, hk⟩ | ⟨kvs, hk⟩
        · obtain ⟨_, _, _, _, o, _, _, e, ex, _⟩ := I.hok p _ hk
          exact ⟨o, e, ex⟩
        · obtain ⟨_, _, _, _, o, _, _, e, ex, _⟩ := I.hok p _ hk
          exact ⟨o, e, ex⟩
      obtain ⟨o, e, ex⟩ := z
      refine ⟨⟨o, e, ex.1⟩, fun a e2 => ?_⟩
      cases e2
      exact ⟨o, e, ex.2.1⟩
    · obtain ⟨o, _, _, _, e, ex, _⟩ := I.hok p _ hk
      refine ⟨⟨o, e, ex.1⟩, fun a e2 => ?_⟩
      cases e2
      exact ⟨o, e, ex.2.1⟩
  | _ => exact False.elim ty
def tBM0 (K : PySem.W.Frag) (T : String) (r : V → List V → Hp → VK → Prop) (to : TE) : TE := fun σ H Q => to σ H fun x H1 => tyV K T x H1 ∧ r x [] H1 Q
def tBM (K : PySem.W.Frag) (T : String) (r : V → List V → Hp → VK → Prop) (to : TE) (t : TA) : TE := fun σ H Q => to σ H fun x H1 => tyV K T x H1 ∧ t σ H1 fun xs H2 => r x xs H2 Q
variable {o e : Expr} {es : List Expr} {to : TE} {t : TA} {name : Str} {apos cpos : Pos} {T id : String} {r : V → List V → Hp → VK → Prop}
theorem pe_bm0 (pa : PlainAttrs T) (slot : Slot T name id) (hty : typeOf (.builtin id) = pure (.type "method_descriptor")) (hm : MtR X id r) (ho : PE X o to)
    (hbase : attributeBase o name X.env (eval o X.env) = eval o X.env := by rfl) (hline : (apos.endLine == cpos.line) = true := by rfl) : PE X (.Call (.Attribute o name apos) [] [] cpos) (tBM0 X.K T r to) := by
  intro pins s σ H Q I h
  refine wpAny_Call_method0_late hbase hline (thn (ho pins s σ H _ I h) fun v s1 ⟨x, H1, I1, r1, ty, q1⟩ => ?_)
  obtain ⟨h1, h2⟩ := tyV_is I1 r1 ty
  exact ⟨T, id, pa, slot, hty, h1, h2, Calls.callWith_builtin rfl (PySem.evalArgs_none (hm pins s1 σ H1 x [] v [] Q I1 r1 .nil q1))⟩
theorem pe_bm (pa : PlainAttrs T) (slot : Slot T name id) (hty : typeOf (.builtin id) = pure (.type "method_descriptor")) (hm : MtR X id r) (ho : PE X o to) (ha : PA X (e :: es) t)
    (hbase : attributeBase o name X.env (eval o X.env) = eval o X.env := by rfl)
    (hfew : ((backTo cpos (starEach (e :: es) X.env)).all (fun x => !x.1) && (backToKw cpos (keywordEach [] X.env)).all (fun x => x.1.isSome)
      && decide ((e :: es).length + ([] : List Keyword).length + (if ([] : List Keyword).isEmpty then 0 else 1) < 30)) = true := by rfl)
    (hline : (apos.endLine == cpos.line) = true := by rfl) (hs : starEach (e :: es) X.env = (false, eval e X.env) :: starEach es X.env := by rfl) (hplain : (backTo cpos (starEach es X.env)).any (·.1) = false := by rfl) :
    PE X (.Call (.Attribute o name apos) (e :: es) [] cpos) (tBM X.K T r to t) := by
  intro pins s σ H Q I h
  refine wpAny_Call_method_late hbase hfew hline rfl (thn (ho pins s σ H _ I h) fun v s1 ⟨x, H1, I1, r1, ty, q1⟩ => ?_)
  obtain ⟨h1, h2⟩ := tyV_is I1 r1 ty
  refine ⟨T, id, pa, slot, hty, h1, h2, ?_⟩
  have hA := ha cpos pins s1 σ H1 _ I1 q1
  rw [hs] at hA ⊢
  refine Calls.callWith_builtin (by show (false || (backTo cpos (starEach es X.env)).any (·.1)) = false; rw [hplain] <;> rfl) (Calls.evalArgs_plain ?_)
  exact thn hA fun us s2 ⟨vs, H2, I2, r2, q2⟩ => hm pins s2 σ H2 x vs v us Q I2 r1 r2 q2
end
end L2
namespace L2
open PySem PySem.Spec PyProof.Rows
def MtM (X : Cx) (id : String) (r : V → List V → Hp → VK → Prop) : Prop :=
  ∀ (pins : List (Addr × Obj)) (s : Shared) (σ : St) (H : Hp) (x : V) (xs : List V) (v : Value) (us : List Value) (Q : VK), Inv X pins σ H s → RelV x v → Vals xs us → r x xs H Q →
    wpAny (model X.prog X.w) X.A (call (.builtin id) (v :: us)) (EP X pins σ Q) X.xe s
theorem Vals.one : ∀ {x : V} {us : List Value}, Vals [x] us → ∃ u, us = [u] ∧ RelV x u
  | _, _, .cons r .nil => ⟨_, rfl, r⟩
theorem Vals.zero : ∀ {us : List Value}, Vals [] us → us = []
  | _, .nil => rfl
theorem Vals.dropLast {xs : List V} {us : List Value} (h : Vals xs us) : Vals xs.dropLast us.dropLast := by
  induction h with
  | nil => exact .nil
  | cons r t ih =>
    cases t with
    | nil => exact .nil
    | cons q t' => exact .cons r ih
theorem Vals.eraseIdx : ∀ {xs : List V} {us : List Value} (i : Nat), Vals xs us → Vals (xs.eraseIdx i) (us.eraseIdx i)
  | _, _, _, .nil => .nil
  | _, _, 0, .cons _ t => t
  | _, _, i + 1, .cons r t => .cons r (Vals.eraseIdx i t)
theorem Vals.reverse {xs : List V} {us : List Value} (h : Vals xs us) : Vals xs.reverse us.reverse := by
  induction h with
  | nil => exact .nil
  | cons r t ih => rw [List.reverse_cons, List.reverse_cons]; exact Vals.append ih (.cons r .nil)
theorem Vals.rep {xs : List V} {us : List Value} (h : Vals xs us) : ∀ k : Nat, Vals (List.replicate k xs).flatten (List.replicate k us).flatten
  | 0 => .nil
  | k + 1 => by
    rw [List.replicate_succ, List.replicate_succ, List.flatten_cons, List.flatten_cons]
    exact Vals.append h (Vals.rep h k)
theorem erase_last {α : Type} (l : List α) : l.eraseIdx (l.length - 1) = l.dropLast := by
  induction l with
  | nil => rfl
  | cons a r ih =>
    cases r with
    | nil => rfl
    | cons b r =>
      have e : (a :: b :: r).length - 1 = ((b :: r).length - 1) + 1 := by
        have h1 : (a :: b :: r).length = r.length + 2 := rfl
        have h2 : (b :: r).length = r.length + 1 := rfl
        omega
      rw [e, List.eraseIdx_cons_succ, ih]
      all_goals rfl
theorem len_erase {α : Type} : ∀ (l : List α) (i : Nat), (l.eraseIdx i).length ≤ l.length
  | [], _ => Nat.le_refl _
  | _ :: _, 0 => Nat.le_succ _
  | _ :: r, i + 1 => Nat.succ_le_succ (len_erase r i)
theorem foldl_rep (its : List Value) : ∀ (k : Nat) (acc : List Value),
    List.foldl (fun x1 x2 => x1 ++ x2) acc.toArray (List.replicate k its.toArray) = (acc ++ (List.replicate k its).flatten).toArray
  | 0, acc => by simp
  | k + 1, acc => by
    have e : acc.toArray ++ its.toArray = (acc ++ its).toArray := by simp
    have e2 : (acc ++ its) ++ (List.replicate k its).flatten = acc ++ (List.replicate (k + 1) its).flatten := by
      rw [List.replicate_succ, List.flatten_cons, List.append_assoc]
    rw [← e2, ← foldl_rep its k (acc ++ its), ← e, List.replicate_succ, List.foldl_cons]
section
variable {X : Cx} {pins : List (Addr × Obj)} {σ : St} {H : Hp} {s : Shared} {l b : Addr} {xs ys zs : List V}
theorem Inv.lset {its its' : List Value} {n : Nat} {f : Array Value → Array Value} {t' : Nat} (I : Inv X pins σ H s) (hH : H l = some (.lst xs))
    (e : s.heap.get? l = some { cls := .type "list", data := .seq its.toArray n }) (hf : f its.toArray = its'.toArray) (hv : Vals ys its') (hz : ys.length ≤ sizeLine) :
    Inv X pins σ (upd H l (.lst ys)) { s with heap := s.heap.update l (Obj.mapSeq f), toks := t' } := by
  have q := PySem.IsL.update e f
  rw [hf] at q
  refine I.write (x := l) (e := l) (by rw [hH]; exact trivial) (.inl rfl) (fun b' u hb hu => (Heap.get?_update_other s.heap (Obj.mapSeq f) (Ne.symm hb)).trans hu) ⟨_, q⟩ ?_
  exact ⟨hz, its', _, hv, q⟩
theorem Inv.lnew {its : List Value} {t' : Nat} (I : Inv X pins σ H s) (hv : Vals ys its) (hz : ys.length ≤ sizeLine) :
    Inv X pins σ (upd H s.heap.objs.size (.lst ys)) { s with heap := s.heap.push { cls := .type "list", data := .seq its.toArray }, toks := t' } :=
  I.laid (fun _ _ q => Heap.get?_push_of_some _ q) (Nat.le_refl _) ⟨hz, its, 0, hv, Heap.get?_push_size _ rfl⟩
theorem Inv.fresh (I : Inv X pins σ H s) : H s.heap.objs.size = none := I.hok.fresh (Nat.le_refl _)
theorem Inv.lstM (I : Inv X pins σ H s) (hH : H l = some (.lst xs)) : xs.length ≤ sizeLine ∧ ∃ (its : List Value) (n : Nat), Vals xs its ∧ xs.length = its.length ∧ s.heap.get? l = some { cls := .type "list", data := .seq its.toArray n } := by
  obtain ⟨z, its, n, r, e⟩ := I.hok l _ hH
  exact ⟨z, its, n, r, r.length, e⟩
theorem notLongL {n : Nat} (h : n ≤ sizeLine) : Builtin.List.listTooLong n = false := by
  unfold Builtin.List.listTooLong
  exact decide_eq_false (by omega)
end
section
variable {X : Cx}
def rAppend : V → List V → Hp → VK → Prop := fun x vs H Q => ∃ l xs y, x = .ref l ∧ vs = [y] ∧ H l = some (.lst xs) ∧ xs.length < sizeLine ∧ Q .non (upd H l (.lst (xs ++ [y])))
theorem mt_append : MtM X "list.append" rAppend := by
  intro pins s σ H x vs v us Q I rx rv h
  obtain ⟨l, xs, y, rfl, rfl, hH, hz, q⟩ := h
  cases rx
  obtain ⟨u, rfl, ru⟩ := rv.one
  obtain ⟨z, its, n, r, hl, e⟩ := I.lstM hH
  refine call_meets F.slot_list_append ⟨_, e, rfl⟩ F.entry_list_append (F.args_list_append_2 _ _) (PySem.list_append l its.toArray n u (by rw [List.size_toArray]; omega)) ⟨e, ?_⟩
  refine ⟨.non, _, I.lset (its' := its ++ [u]) hH e (by simp) (r.append (.cons ru .nil)) ?_, rfl, q⟩
  rw [List.length_append, List.length_singleton]
  omega
def rExtend : V → List V → Hp → VK → Prop := fun x vs H Q => ∃ l b xs zs, x = .ref l ∧ vs = [.ref b] ∧ H l = some (.lst xs) ∧ H b = some (.lst zs) ∧ xs.length + zs.length ≤ sizeLine ∧ Q .non (upd H l (.lst (xs ++ zs)))
theorem mt_extend : MtM X "list.extend" rExtend := by
  intro pins s σ H x vs v us Q I rx rv h
  obtain ⟨l, b, xs, zs, rfl, rfl, hH, hB, hz, q⟩ := h
  cases rx
  obtain ⟨u, rfl, ru⟩ := rv.one
  cases ru
  obtain ⟨z, its, n, r, hl, e⟩ := I.lstM hH
  obtain ⟨z2, its2, n2, r2, hl2, e2⟩ := I.lstM hB
  have hsz : its.toArray.size + its2.toArray.size ≤ sizeLine := by rw [List.size_toArray, List.size_toArray]; omega
  have hlong : ¬ (!its.toArray.isEmpty && Builtin.List.listTooLong (its.toArray.size + its2.toArray.size)) = true := by
    rw [notLongL hsz, Bool.and_false]
    exact Bool.false_ne_true
  refine call_meets F.slot_list_extend ⟨_, e, rfl⟩ F.entry_list_extend (F.args_list_extend_2 _ _)
    (AutoSeq1.list_extend_list_list_0 l its.toArray n b its2.toArray n2 hlong (by rw [List.size_toArray]; omega) (by omega)) ⟨e, e2, ?_⟩
  refine ⟨.non, _, I.lset (its' := its ++ its2) hH e (by simp) (r.append r2) ?_, rfl, q⟩
  rw [List.length_append]
  omega
def rPop : V → List V → Hp → VK → Prop := fun x vs H Q => ∃ l xs y, x = .ref l ∧ vs = [] ∧ H l = some (.lst xs) ∧ xs[xs.length - 1]? = some y ∧ Q y (upd H l (.lst xs.dropLast))
theorem mt_pop : MtM X "list.pop" rPop := by
  intro pins s σ H x vs v us Q I rx rv h
  obtain ⟨l, xs, y, rfl, rfl, hH, hy, q⟩ := h
  cases rx
  have hus := rv.zero
  subst hus
  obtain ⟨z, its, n, r, hl, e⟩ := I.lstM hH
  obtain ⟨u, hu, ru⟩ := r.get hy
  have hy' : its.toArray[its.toArray.size - 1]? = some u := by
    show its.toArray[its.length - 1]? = some u
    rw [← Array.getElem?_toList, ← hl]
    exact hu
  refine call_meets F.slot_list_pop ⟨_, e, rfl⟩ F.entry_list_pop (F.args_list_pop_1 _) (MeetsSeq.list_pop_last l its.toArray n u hy' (by rw [List.size_toArray]; omega)) ⟨e, ?_⟩
  refine ⟨y, _, I.lset (its' := its.dropLast) hH e ?_ r.dropLast ?_, ru, q⟩
  · show its.toArray.eraseIdxIfInBounds (its.toArray.size - 1) = its.dropLast.toArray
    rw [List.size_toArray, List.eraseIdxIfInBounds_toArray, erase_last]
  · rw [List.length_dropLast]
    omega
def rPopAt : V → List V → Hp → VK → Prop := fun x vs H Q => ∃ l xs i k y, x = .ref l ∧ vs = [.int i] ∧ H l = some (.lst xs) ∧ -(2 ^ 63) ≤ i ∧ i < 2 ^ 63 ∧ seqIndex? i xs.length = some k ∧ xs[k]? = some y ∧ Q y (upd H l (.lst (xs.eraseIdx k)))
theorem mt_popAt : MtM X "list.pop" rPopAt := by
  intro pins s σ H x vs v us Q I rx rv h
  obtain ⟨l, xs, i, k, y, rfl, rfl, hH, h1, h2, hk, hy, q⟩ := h
  cases rx
  obtain ⟨u, rfl, ru⟩ := rv.one
  obtain ⟨t, rfl⟩ := ru
  obtain ⟨z, its, n, r, hl, e⟩ := I.lstM hH
  obtain ⟨w, hw, rw'⟩ := r.get hy
  refine call_meets F.slot_list_pop ⟨_, e, rfl⟩ F.entry_list_pop (F.args_list_pop_2 _ _)
    (MeetsSeq.list_pop_at l its.toArray n i t k w (fitsIndex_both h1 h2) (by rw [List.size_toArray, ← hl]; exact hk) (by rw [← Array.getElem?_toList]; exact hw) (by rw [List.size_toArray]; omega)) ⟨e, ?_⟩
  refine ⟨y, _, I.lset (its' := its.eraseIdx k) hH e ?_ (r.eraseIdx k) ?_, rw', q⟩
  · show its.toArray.eraseIdxIfInBounds k = (its.eraseIdx k).toArray
    rw [List.eraseIdxIfInBounds_toArray]
  · have := len_erase xs k
    omega
def rCat : R2 := fun x y H Q => ∃ l b xs zs, x = .ref l ∧ y = .ref b ∧ H l = some (.lst xs) ∧ H b = some (.lst zs) ∧ xs.length + zs.length ≤ sizeLine ∧ ∀ p, H p = none → Q (.ref p) (upd H p (.lst (xs ++ zs)))
theorem op_cat : OpR X (binaryOp .Add) rCat := by
  intro pins s σ H x y v u Q I rx ry h
  obtain ⟨l, b, xs, zs, rfl, rfl, hH, hB, hz, q⟩ := h
  cases rx
  cases ry
  obtain ⟨z, its, n, r, hl, e⟩ := I.lstM hH
  obtain ⟨z2, its2, n2, r2, hl2, e2⟩ := I.lstM hB
  refine PySem.P.add_list e e2 ?_ (by rw [List.size_toArray, List.size_toArray]; omega)
  have ea : its.toArray ++ its2.toArray = (its ++ its2).toArray := by simp
  rw [ea]
  exact ⟨.ref _, _, I.lnew (t' := s.toks) (r.append r2) (by rw [List.length_append]; omega), rfl, q _ I.fresh⟩
def rRep : R2 := fun x y H Q => ∃ l k xs, x = .ref l ∧ y = .int k ∧ H l = some (.lst xs) ∧ -(2 ^ 63) ≤ k ∧ k < 2 ^ 63 ∧ xs.length * k.toNat ≤ sizeLine ∧
  ∀ p, H p = none → Q (.ref p) (upd H p (.lst (List.replicate k.toNat xs).flatten))
theorem len_rep {α : Type} (xs : List α) (k : Nat) : (List.replicate k xs).flatten.length = k * xs.length := by
  induction k with
  | zero => simp
  | succ k ih => rw [List.replicate_succ, List.flatten_cons, List.length_append, ih, Nat.succ_mul, Nat.add_comm]
theorem op_rep : OpR X (binaryOp .Mult) rRep := by
  intro pins s σ H x y v u Q I rx ry h
  obtain ⟨l, k, xs, rfl, rfl, hH, h1, h2, hz, q⟩ := h
  cases rx
  obtain ⟨t, rfl⟩ := ry
  obtain ⟨z, its, n, r, hl, e⟩ := I.lstM hH
  have hlen : its.toArray.size * k.toNat ≤ sizeLine := by rw [List.size_toArray, ← hl]; exact hz
  have hcap : ¬ its.toArray.size * k.toNat > (2 ^ 63 - 1) / 8 := by
    have : (sizeLine : Nat) ≤ (2 ^ 63 - 1) / 8 := by decide
    omega
  have hfit : ¬ (!Builtin.List.listFitsIndex k) = true := by
    rw [fitsIndex_both h1 h2]
    exact Bool.false_ne_true
  have hlong : ¬ Builtin.List.listTooLong (its.toArray.size * k.toNat) = true := by
    rw [notLongL hlen]
    exact Bool.false_ne_true
  have hnew : List.foldl (fun x1 x2 => x1 ++ x2) #[] (List.replicate (if its.toArray.isEmpty = true then 0 else k.toNat) its.toArray) = (List.replicate k.toNat its).flatten.toArray := by
    have f0 : ∀ m : Nat, List.foldl (fun x1 x2 => x1 ++ x2) #[] (List.replicate m its.toArray) = (List.replicate m its).flatten.toArray := fun m => by
      have := foldl_rep its m []
      rw [List.nil_append] at this
      exact this
    rw [f0]
    cases its with
    | nil => simp
    | cons a r' => rw [if_neg (by simp)]
  refine wpAny_binaryOp_repeat_ref (T := "list") (U := "int") (by decide) ⟨_, e, rfl⟩ (fun s' => typeIs_int s' k t) noFill_list_mul F.fills_int_mul F.slot_int_rmul repeat_list F.slot_int_index.lookup
    (call_meets F.slot_int_rmul (typeIs_int s k t) F.entry_int_rmul (F.args_int_rmul_2 _ _) (int___rmul___int_list k t l its.toArray n)
      ⟨e, rfl, ⟨_, e, rfl⟩, call_meets F.slot_list_mul ⟨_, e, rfl⟩ F.entry_list_mul (F.args_list_mul_2 _ _) (AutoListH.list___mul___list_int_3 l its.toArray n k t hfit hcap hlong) ⟨e, ?_⟩⟩)
  rw [hnew]
  exact ⟨.ref _, _, I.lnew (t' := s.toks) (r.rep k.toNat) (by rw [len_rep, Nat.mul_comm]; exact hz), rfl, q _ I.fresh⟩
end
end L2
namespace L2
open PySem PySem.Spec PyProof.Rows
section
variable {κ : Type} [DecidableEq κ]
def valV (kvs : List (κ × V)) (k : κ) : Option V := (kvs.find? fun kv => decide (kv.1 = k)).map (·.2)
def putK (kvs : List (κ × V)) (k : κ) (v : V) : List (κ × V) :=
  if (kvs.any fun kv => decide (kv.1 = k)) = true then kvs.map (fun kv => if kv.1 = k then (kv.1, v) else kv) else kvs ++ [(k, v)]
theorem valV_pos {p : κ × V} {r : List (κ × V)} {k : κ} (e : p.1 = k) : valV (p :: r) k = some p.2 := by simp [valV, List.find?_cons, e]
theorem valV_neg {p : κ × V} {r : List (κ × V)} {k : κ} (e : ¬ p.1 = k) : valV (p :: r) k = valV r k := by simp [valV, List.find?_cons, e]
theorem valV_any (k : κ) : ∀ kvs : List (κ × V), (kvs.any fun kv => decide (kv.1 = k)) = (valV kvs k).isSome
  | [] => rfl
  | p :: r => by
    rw [List.any_cons]
    by_cases e : p.1 = k
    · simp only [valV_pos e, decide_eq_true e, Bool.true_or, Option.isSome_some]
    · rw [valV_neg e, decide_eq_false e, Bool.false_or]; exact valV_any k r
theorem valV_map (k j : κ) (y : V) : ∀ kvs : List (κ × V), valV (kvs.map fun kv => if kv.1 = k then (kv.1, y) else kv) j = (valV kvs j).map fun x => if j = k then y else x
  | [] => rfl
  | p :: r => by
    have ih := valV_map k j y r
    rw [List.map_cons]
    by_cases h : p.1 = k
    · rw [if_pos h]
      by_cases e : p.1 = j
      · rw [valV_pos (p := (p.1, y)) e, valV_pos e, Option.map_some, if_pos (e.symm.trans h)]
      · rw [valV_neg (p := (p.1, y)) e, valV_neg e, ih]
    · rw [if_neg h]
      by_cases e : p.1 = j
      · rw [valV_pos (p := p) e, valV_pos e, Option.map_some, if_neg (fun z => h (e.trans z))]
      · rw [valV_neg (p := p) e, valV_neg e, ih]
theorem valV_snoc (k j : κ) (y : V) : ∀ kvs : List (κ × V), valV kvs k = none → valV (kvs ++ [(k, y)]) j = if j = k then some y else valV kvs j
  | [], _ => by
    by_cases e : k = j
    · rw [if_pos e.symm]; exact valV_pos (p := (k, y)) e
    · rw [if_neg (fun z => e z.symm)]; exact valV_neg (p := (k, y)) e
  | p :: r, hn => by
    rw [List.cons_append]
    have hk : ¬ p.1 = k := fun z => by rw [valV_pos z] at hn; cases hn
    rw [valV_neg hk] at hn
    have ih := valV_snoc k j y r hn
    by_cases e : p.1 = j
    · rw [valV_pos e, valV_pos e, if_neg (fun z => hk (e.trans z))]
    · rw [valV_neg e, valV_neg e, ih]
theorem valV_put (kvs : List (κ × V)) (k j : κ) (y : V) : valV (putK kvs k y) j = if j = k then some y else valV kvs j := by
  unfold putK
  by_cases a : (kvs.any fun kv => decide (kv.1 = k)) = true
  · rw [if_pos a, valV_map]
    rw [valV_any] at a
    by_cases e : j = k
    · obtain ⟨x, hx⟩ := Option.isSome_iff_exists.mp a
      rw [if_pos e, e, hx, Option.map_some, if_pos rfl]
    · rw [if_neg e]
      cases valV kvs j with
      | none => rfl
      | some x => rw [Option.map_some, if_neg e]
  · rw [if_neg a]
    refine valV_snoc k j y kvs ?_
    rw [valV_any] at a
    cases q : valV kvs k with
    | none => rfl
    | some x => rw [q] at a; exact (a rfl).elim
theorem length_putK (kvs : List (κ × V)) (k : κ) (v : V) : (putK kvs k v).length ≤ kvs.length + 1 := by
  unfold putK
  split
  · rw [List.length_map]; omega
  · rw [List.length_append, List.length_cons, List.length_nil]; omega
theorem putK_new {kvs : List (κ × V)} {k : κ} (v : V) (h : valV kvs k = none) : putK kvs k v = kvs ++ [(k, v)] := by
  unfold putK
  rw [valV_any, h]
  exact if_neg (by decide)
theorem RelO.isSome_eq {o : Option V} {u : Option Value} (r : RelO o u) : o.isSome = u.isSome := by
  cases o with
  | none => cases u with
    | none => rfl
    | some _ => exact (show False from r).elim
  | some _ => cases u with
    | none => exact (show False from r).elim
    | some _ => rfl
theorem RelO.getD {o : Option V} {u : Option Value} {d : V} {d' : Value} (r : RelO o u) (rd : RelV d d') : RelV (o.getD d) (u.getD d') := by
  cases o with
  | none => cases u with
    | none => exact rd
    | some _ => exact (show False from r).elim
  | some _ => cases u with
    | none => exact (show False from r).elim
    | some _ => exact r
theorem KV.val {kvs : List (κ × V)} {vs : List (κ × Value)} (r : KV kvs vs) (k : κ) : RelO (valV kvs k) (valueAt vs k) := by
  unfold KV at r
  induction r with
  | nil => exact True.intro
  | @cons p q ps qs h t ih =>
    obtain ⟨h1, h2⟩ := h
    by_cases e : p.1 = k
    · have e' : q.1 = k := h1.symm.trans e
      have b : valueAt (q :: qs) k = some q.2 := by simp [valueAt, List.find?_cons, e']
      rw [valV_pos e, b]; exact h2
    · have e' : ¬ q.1 = k := fun z => e (h1.trans z)
      have b : valueAt (q :: qs) k = valueAt qs k := by simp [valueAt, List.find?_cons, e']
      rw [valV_neg e, b]; exact ih
theorem KV.any {kvs : List (κ × V)} {vs : List (κ × Value)} (r : KV kvs vs) (k : κ) : (kvs.any fun kv => decide (kv.1 = k)) = vs.any fun kv => decide (kv.1 = k) := by
  unfold KV at r
  induction r with
  | nil => rfl
  | cons h t ih => rw [List.any_cons, List.any_cons, ih, h.1]
theorem KV.repl {kvs : List (κ × V)} {vs : List (κ × Value)} (r : KV kvs vs) (k : κ) {y : V} {u : Value} (ry : RelV y u) :
    KV (kvs.map fun kv => if kv.1 = k then (kv.1, y) else kv) (vs.map fun kv => if kv.1 = k then (kv.1, u) else kv) := by
  unfold KV at r ⊢
  induction r with
  | nil => exact .nil
  | @cons p q ps qs h t ih =>
    rw [List.map_cons, List.map_cons]
    refine .cons ?_ ih
    obtain ⟨h1, h2⟩ := h
    by_cases e : p.1 = k
    · rw [if_pos e, if_pos (h1.symm.trans e)]; exact ⟨h1, ry⟩
    · rw [if_neg e, if_neg (fun z => e (h1.trans z))]; exact ⟨h1, h2⟩
theorem KV.put {kvs : List (κ × V)} {vs : List (κ × Value)} (r : KV kvs vs) (k : κ) {y : V} {u : Value} (ry : RelV y u) : KV (putK kvs k y) (stored vs k u) := by
  unfold putK stored
  rw [r.any k]
  by_cases e : (vs.any fun kv => decide (kv.1 = k)) = true
  · rw [if_pos e, if_pos e]; exact r.repl k ry
  · rw [if_neg e, if_neg e]; exact Paired.snoc r ⟨rfl, ry⟩
theorem KV.length {kvs : List (κ × V)} {vs : List (κ × Value)} (r : KV kvs vs) : kvs.length = vs.length := Paired.length r
end
theorem kV_is {P : Program} {w : World} {k : Key} {u : Value} (r : RelV (kV k) u) : (mixKind P w).is k u = true := by
  cases k with
  | inl i => obtain ⟨t, e⟩ := (show ∃ t, u = Value.int i t from r); subst e; exact mixKind_int P w i t
  | inr x => obtain ⟨t, e⟩ := (show ∃ t, u = Value.str x t from r); subst e; exact mixKind_str P w x t
theorem items_are {P : Program} {w : World} : ∀ {ks : List Key} {us : List Value}, Vals (ks.map kV) us → ItemsAre (mixKind P w) ks us
  | [], _, r => by rw [List.map_nil] at r; cases r; exact .nil
  | k :: ks, _, r => by
    rw [List.map_cons] at r
    cases r with
    | cons h t => exact .cons (kV_is h) (items_are t)
abbrev KT (H : Hp) : List (List Key × V) → List (List Key × Addr × Value) → Prop := Paired fun p q => p.1 = q.1 ∧ H q.2.1 = some (.tup (p.1.map kV)) ∧ RelV p.2 q.2.2
theorem KT.val {H : Hp} {kvs : List (List Key × V)} {xs : List (List Key × Addr × Value)} (r : KT H kvs xs) (k : List Key) : RelO (valV kvs k) ((atKey xs k).map (·.2)) := by
  induction r with
  | nil => exact True.intro
  | @cons p q ps qs h t ih =>
    obtain ⟨h1, _, h2⟩ := h
    by_cases e : p.1 = k
    · have e' : q.1 = k := h1.symm.trans e
      have b : atKey (q :: qs) k = some q.2 := by simp [atKey, List.find?_cons, e']
      rw [valV_pos e, b]; exact h2
    · have e' : ¬ q.1 = k := fun z => e (h1.trans z)
      have b : atKey (q :: qs) k = atKey qs k := by simp [atKey, List.find?_cons, e']
      rw [valV_neg e, b]; exact ih
theorem KT.repl {H : Hp} {kvs : List (List Key × V)} {xs : List (List Key × Addr × Value)} (r : KT H kvs xs) (k : List Key) {y : V} {u : Value} (ry : RelV y u) :
    KT H (kvs.map fun kv => if kv.1 = k then (kv.1, y) else kv) (xs.map (putAt k u)) := by
  induction r with
  | nil => exact .nil
  | @cons p q ps qs h t ih =>
    rw [List.map_cons, List.map_cons]
    refine .cons ?_ ih
    obtain ⟨h1, h2, h3⟩ := h
    unfold putAt
    by_cases e : p.1 = k
    · rw [if_pos e, if_pos (h1.symm.trans e)]; exact ⟨h1, h2, ry⟩
    · rw [if_neg e, if_neg (fun z => e (h1.trans z))]; exact ⟨h1, h2, h3⟩
theorem KT.put {H : Hp} {kvs : List (List Key × V)} {xs : List (List Key × Addr × Value)} (r : KT H kvs xs) (k : List Key) {b : Addr} {y : V} {u : Value} (hb : H b = some (.tup (k.map kV))) (ry : RelV y u) :
    KT H (putK kvs k y) (storedH xs k b u) := by
  have e : (kvs.any fun kv => decide (kv.1 = k)) = (atKey xs k).isSome := by
    rw [valV_any, (r.val k).isSome_eq, Option.isSome_map]
  unfold putK storedH
  rw [e]
  by_cases q : (atKey xs k).isSome = true
  · rw [if_pos q, if_pos q]; exact r.repl k ry
  · rw [if_neg q, if_neg q]; exact Paired.snoc r ⟨rfl, hb, ry⟩
theorem KT.keeps {H H' : Hp} {kvs : List (List Key × V)} {xs : List (List Key × Addr × Value)} (r : KT H kvs xs) (ht : ∀ b ys, H b = some (.tup ys) → H' b = some (.tup ys)) : KT H' kvs xs :=
  Paired.mapP r fun _ _ z => ⟨z.1, ht _ _ z.2.1, z.2.2⟩
section
variable {P : Program} {w : World} {H : Hp} {h : Heap} {a : Addr}
theorem rd_of {u : HO} (ok : HOk P w H h) (e : Rd H a u) : ObjOk P w H h a u := e.ok ok
theorem dk_rd {kvs : List (Key × V)} (ok : HOk P w H h) (e : Rd H a (.dK kvs)) : kvs.length ≤ sizeLine ∧ (a == sysModules) = false ∧ ∃ vs, KV kvs vs ∧ h.DictOf (mixKind P w) a vs :=
  show ObjOk P w H h a (.dK kvs) from rd_of ok e
theorem dk_of {kvs : List (Key × V)} (ok : HOk P w H h) (e : H a = some (.dK kvs)) : kvs.length ≤ sizeLine ∧ (a == sysModules) = false ∧ ∃ vs, KV kvs vs ∧ h.DictOf (mixKind P w) a vs := dk_rd ok (.inl e)
theorem key_of {ks : List Key} (ok : HOk P w H h) (e : H a = some (.tup (ks.map kV))) : (tupleKind (mixKind P w)).is h ks a := by
  obtain ⟨_, its, r, o, h1, h2, n, h3⟩ := (show ObjOk P w H h a (.tup (ks.map kV)) from ok a _ e)
  exact ⟨o, its.toArray, n, h1, h2, h3, by simpa using items_are r⟩
theorem dt_rd {kvs : List (List Key × V)} (ok : HOk P w H h) (e : Rd H a (.dT kvs)) : kvs.length ≤ sizeLine ∧ (a == sysModules) = false ∧
    ∃ xs, KT H kvs xs ∧ h.DictOfH (tupleKind (mixKind P w)) a xs := by
  obtain ⟨z, y, xs, r, o, es, ep, h1, h2, h3, h4, h5⟩ := (show ObjOk P w H h a (.dT kvs) from rd_of ok e)
  refine ⟨z, y, xs, r, o, es, ep, h1, h2, h3, h4, fun x hx => ?_, h5⟩
  have all : ∀ {l : List (List Key × V)} {m : List (List Key × Addr × Value)}, KT H l m → ∀ x ∈ m, (tupleKind (mixKind P w)).is h x.1 x.2.1 := by
    intro l m q
    induction q with
    | nil => intro x hx; exact nomatch hx
    | @cons p q ps qs hq t ih =>
      intro x hx
      rcases List.mem_cons.mp hx with e | hx
      · subst e
        exact key_of ok (by rw [← hq.1]; exact hq.2.1)
      · exact ih x hx
  exact all r x hx
theorem dt_of {kvs : List (List Key × V)} (ok : HOk P w H h) (e : H a = some (.dT kvs)) : kvs.length ≤ sizeLine ∧ (a == sysModules) = false ∧
    ∃ xs, KT H kvs xs ∧ h.DictOfH (tupleKind (mixKind P w)) a xs := dt_rd ok (.inl e)
end
def DGet (H : Hp) (a : Addr) (y : V) (r : Option V) : Prop :=
  (∃ kvs k, Rd H a (.dK kvs) ∧ y = kV k ∧ r = valV kvs k) ∨ ∃ kvs k b, Rd H a (.dT kvs) ∧ y = .ref b ∧ H b = some (.tup (k.map kV)) ∧ r = valV kvs k
def DPut (H : Hp) (a : Addr) (y v : V) (H' : Hp) : Prop :=
  (∃ kvs k, H a = some (.dK kvs) ∧ y = kV k ∧ kvs.length < sizeLine ∧ H' = upd H a (.dK (putK kvs k v))) ∨
  ∃ kvs k b, H a = some (.dT kvs) ∧ y = .ref b ∧ H b = some (.tup (k.map kV)) ∧ kvs.length < sizeLine ∧ H' = upd H a (.dT (putK kvs k v))
theorem DGet.k {H : Hp} {a : Addr} {kvs : List (Key × V)} {k : Key} (e : H a = some (.dK kvs)) : DGet H a (kV k) (valV kvs k) := .inl ⟨kvs, k, .inl e, rfl, rfl⟩
theorem DPut.k {H : Hp} {a : Addr} {kvs : List (Key × V)} {k : Key} {v : V} (e : H a = some (.dK kvs)) (hl : kvs.length < sizeLine) : DPut H a (kV k) v (upd H a (.dK (putK kvs k v))) := .inl ⟨kvs, k, e, rfl, hl, rfl⟩
section
variable {X : Cx} {pins : List (Addr × Obj)} {σ : St} {H : Hp} {s : Shared} {a : Addr} {y v : V} {u r : Value} {o : Option V} {A : Around} {E : Value → Shared → Prop}
theorem Inv.big (I : Inv X pins σ H s) : sysModules < s.heap.objs.size := by
  have h : mainGlobals < s.heap.objs.size := (I.mod.glob.keeps I.bk).lt
  exact Nat.lt_trans (by decide) h
theorem d_getItem {Q : Value → Shared → Prop} (hu : A.units + 1 < cLine) (I : Inv X pins σ H s) (g : DGet H a y (some v)) (ry : RelV y u) (h : ∀ w' s', Inv X pins σ H s' → RelV v w' → Q w' s') :
    wpAny (model X.prog X.w) A (getItem (.ref a) u) Q E s := by
  rcases g with ⟨kvs, k, e, ey, l⟩ | ⟨kvs, k, b, e, ey, eb, l⟩
  · subst ey
    obtain ⟨z, hd, vs, rel, dd⟩ := dk_rd I.hok e
    obtain ⟨w', hw, rw'⟩ := RelO.some_of (v := v) (o := valueAt vs k) (by rw [l]; exact rel.val k)
    exact wpAny_getItem_of (kV_is ry) dd.mapOf hw (h w' _ (I.tok _) rw')
  · subst ey
    cases (show u = Value.ref b from ry)
    obtain ⟨z, hd, xs, rel, dd⟩ := dt_rd I.hok e
    obtain ⟨w', hw, rw'⟩ := RelO.some_of (v := v) (o := (atKey xs k).map (·.2)) (by rw [l]; exact rel.val k)
    obtain ⟨p, hp, hp2⟩ := Option.map_eq_some_iff.mp hw
    refine wpAny_getItem_heap (tupleKind_room_in1 hu) (key_of I.hok eb) dd hp ?_
    rw [hp2]
    exact h w' _ (I.tok _) rw'
theorem d_in {Q : Value → Shared → Prop} (hu : A.units + 1 < cLine) (I : Inv X pins σ H s) (g : DGet H a y o) (ry : RelV y u) (h : ∀ s', Inv X pins σ H s' → Q (.bool o.isSome) s') :
    wpAny (model X.prog X.w) A (compareOp .In u (.ref a)) Q E s := by
  rcases g with ⟨kvs, k, e, ey, l⟩ | ⟨kvs, k, b, e, ey, eb, l⟩
  · subst ey
    obtain ⟨z, hd, vs, rel, dd⟩ := dk_rd I.hok e
    refine wpAny_in_of (kV_is ry) hd dd.mapOf ?_
    rw [← (rel.val k).isSome_eq, ← l]
    exact h _ (I.tok _)
  · subst ey
    cases (show u = Value.ref b from ry)
    obtain ⟨z, hd, xs, rel, dd⟩ := dt_rd I.hok e
    refine wpAny_in_heap (tupleKind_room_in1 hu) (key_of I.hok eb) hd dd ?_
    have q := (rel.val k).isSome_eq
    rw [Option.isSome_map] at q
    rw [← q, ← l]
    exact h _ (I.tok _)
theorem d_notIn {Q : Value → Shared → Prop} (hu : A.units + 1 < cLine) (I : Inv X pins σ H s) (g : DGet H a y o) (ry : RelV y u) (h : ∀ s', Inv X pins σ H s' → Q (.bool (!o.isSome)) s') :
    wpAny (model X.prog X.w) A (compareOp .NotIn u (.ref a)) Q E s := by
  rcases g with ⟨kvs, k, e, ey, l⟩ | ⟨kvs, k, b, e, ey, eb, l⟩
  · subst ey
    obtain ⟨z, hd, vs, rel, dd⟩ := dk_rd I.hok e
    refine wpAny_notIn_of (kV_is ry) hd dd.mapOf ?_
    rw [← (rel.val k).isSome_eq, ← l]
    exact h _ (I.tok _)
  · subst ey
    cases (show u = Value.ref b from ry)
    obtain ⟨z, hd, xs, rel, dd⟩ := dt_rd I.hok e
    refine wpAny_notIn_heap (tupleKind_room_in1 hu) (key_of I.hok eb) hd dd ?_
    have q := (rel.val k).isSome_eq
    rw [Option.isSome_map] at q
    rw [← q, ← l]
    exact h _ (I.tok _)
theorem d_write {h' : Heap} {t' : Nat} {ob : HO} (I : Inv X pins σ H s) (mu : Mut (H a)) (hs : Heap.SameBut a s.heap h') (he : ∃ q, h'.get? a = some q) (new : ObjOk X.prog X.w (upd H a ob) h' a ob) :
    Inv X pins σ (upd H a ob) { s with heap := h', toks := t' } :=
  I.write (x := a) (e := a) mu (.inl rfl) (fun b q hb z => (hs.2 b hb).trans z) he new
theorem dk_new {P : Program} {w : World} {H' : Hp} {h' : Heap} {kvs : List (Key × V)} {vs : List (Key × Value)} (z : kvs.length ≤ sizeLine) (hd : (a == sysModules) = false) (rel : KV kvs vs) (dd : h'.DictOf (mixKind P w) a vs) :
    ObjOk P w H' h' a (.dK kvs) := ⟨z, hd, vs, rel, dd⟩
theorem d_setItem {H' : Hp} {Q : Unit → Shared → Prop} (hu : A.units + 1 < cLine) (I : Inv X pins σ H s) (g : DPut H a y v H') (ry : RelV y u) (rv : RelV v r) (h : ∀ s', Inv X pins σ H' s' → Q () s') :
    wpAny (model X.prog X.w) A (setItem (.ref a) u r) Q E s := by
  rcases g with ⟨kvs, k, e, ey, l, eH⟩ | ⟨kvs, k, b, e, ey, eb, l, eH⟩
  · subst ey eH
    obtain ⟨z, hd, vs, rel, dd⟩ := dk_of I.hok e
    have hz : vs.length ≤ sizeLine := by rw [← rel.length]; exact z
    have hl : (putK kvs k v).length ≤ sizeLine := by have := length_putK kvs k v; omega
    refine wpAny_setItem_pairs (hsz := hz) (kV_is ry) dd fun h' dd' hs => h _ ?_
    have he : ∃ q, h'.get? a = some q := let ⟨q, _, _, hq, _⟩ := dd'; ⟨q, hq⟩
    exact d_write I (by rw [e]; exact True.intro) hs he (dk_new hl hd (rel.put k rv) dd')
  · subst ey eH
    cases (show u = Value.ref b from ry)
    obtain ⟨z, hd, xs, rel, dd⟩ := dt_of I.hok e
    have hz : xs.length ≤ sizeLine := by rw [← Paired.length rel]; exact z
    have hl : (putK kvs k v).length ≤ sizeLine := by have := length_putK kvs k v; omega
    refine wpAny_setItem_heap (hsz := hz) (tupleKind_room_in1 hu) (key_of I.hok eb) dd fun h' dd' hs => h _ ?_
    obtain ⟨q, es, ep, hq, h2, h3, h4, _, h5⟩ := dd'
    refine d_write I (by rw [e]; exact True.intro) hs ⟨q, hq⟩ ⟨hl, hd, _, (rel.put k eb rv).keeps fun c ys ec => ?_, q, es, ep, hq, h2, h3, h4, h5⟩
    rw [upd_ne (ne_of ec e (fun z => nomatch z))]
    exact ec
end
def NoSl (i : Expr) : Prop := ∀ ov iv, subscripted i false ov iv = operate [ov, iv] (getItem ov iv)
theorem subD_of {prog : Program} {w : World} {A : Around} {E : Value → Shared → Prop} {s : Shared} {env : Env} {value slice : Expr} {pos : Pos} {T id : String} {Q : Value → Shared → Prop}
    (hl : typeLookup (.type T) "__getitem__" = pure (some (.builtin id))) (hs : NoSl slice)
    (h : wpAny (model prog w) A (eval value env) (fun o s₁ => wpAny (model prog w) A (eval slice env) (fun i s₂ => s₂.TypeIs o T ∧ wpAny (model prog w) A (getItem o i) Q E s₂) E s₁) E s) :
    wpAny (model prog w) A (eval (.Subscript value slice pos) env) Q E s := by
  refine Subscript_ (wpAny_mono h (fun o s₁ h₁ => wpAny_mono h₁ (fun i s₂ h₂ => ?_) fun _ _ x => x) fun _ _ x => x)
  obtain ⟨hT, h₂⟩ := h₂
  unfold subscriptTail
  refine wpAny_bind ?_
  rw [getitemInPython_of_ne hT.not_modules]
  refine wpAny_bind (wpAny_specialOf hT hl ?_)
  have fin : wpAny (model prog w) A (subscripted slice false o i) (fun r s₃ => wpAny (model prog w) A (letTemporaryGo value o r >>= fun _ => pure r) Q E s₃) E s₂ := by
    rw [hs o i]
    exact wpAny_operating (wpAny_mono h₂ (fun r s₃ h₃ => wpAny_bind (wpAny_letTemporaryGo (wpAny_pure h₃))) fun _ _ x => x)
  first
    | exact wpAny_pure (wpAny_bind fin)
    | exact wpAny_bind (wpAny_pure (wpAny_bind fin))
    | exact wpAny_bind fin
theorem dict_typeIs {X : Cx} {pins : List (Addr × Obj)} {σ : St} {H : Hp} {s : Shared} {a : Addr} {y : V} {o : Option V} (I : Inv X pins σ H s) (g : DGet H a y o) : s.TypeIs (.ref a) "dict" := by
  rcases g with ⟨kvs, k, e, _, _⟩ | ⟨kvs, k, b, e, _, _, _⟩
  · obtain ⟨_, _, vs, _, dd⟩ := dk_rd I.hok e
    exact dd.typeIs
  · obtain ⟨_, _, xs, _, dd⟩ := dt_rd I.hok e
    exact dd.typeIs
def tDGet (td ty : TE) : TE := fun σ H Q => td σ H fun x H1 => ty σ H1 fun y H2 => ∃ a v, x = .ref a ∧ DGet H2 a y (some v) ∧ Q v H2
def tDIn (ty td : TE) : TE := fun σ H Q => ty σ H fun y H1 => td σ H1 fun x H2 => ∃ a o, x = .ref a ∧ DGet H2 a y o ∧ Q (.bl o.isSome) H2
def tDNotIn (ty td : TE) : TE := fun σ H Q => ty σ H fun y H1 => td σ H1 fun x H2 => ∃ a o, x = .ref a ∧ DGet H2 a y o ∧ Q (.bl (!o.isSome)) H2
def sDPut (td ty tv : TE) : TS := fun D σ H => tv σ H fun v H1 => td σ H1 fun x H2 => ty σ H2 fun y H3 => ∃ a H4, x = .ref a ∧ DPut H3 a y v H4 ∧ D.nx σ H4
section
variable {X : Cx} {o i e value : Expr} {pos pos' tpos : Pos} {td ty tv : TE}
theorem pe_dget (hu : X.A.units + 1 < cLine) (ho : PE X o td) (hi : PE X i ty) (hs : NoSl i) : PE X (.Subscript o i pos) (tDGet td ty) := by
  intro pins s σ H Q I h
  refine subD_of PySem.F.slot_dict_getitem.lookup hs (thn (ho pins s σ H _ I h) fun u s1 ⟨x, H1, I1, rx, q1⟩ => thn (hi pins s1 σ H1 _ I1 q1) fun iv s2 ⟨y, H2, I2, ry, a, v, ex, g, q2⟩ => ?_)
  subst ex
  obtain rfl : u = Value.ref a := rx
  exact ⟨dict_typeIs I2 g, d_getItem hu I2 g ry fun w' s3 I3 rw' => ⟨v, H2, I3, rw', q2⟩⟩
theorem pc_din (hu : X.A.units + 1 < cLine) (hi : PE X i ty) (ho : PE X o td) : PC X .In i o (tDIn ty td) := by
  intro pins s σ H Q I h
  refine thn (hi pins s σ H _ I h) fun iv s1 ⟨y, H1, I1, ry, q1⟩ => thn (ho pins s1 σ H1 _ I1 q1) fun u s2 ⟨x, H2, I2, rx, a, ov, ex, g, q2⟩ => ?_
  subst ex
  obtain rfl : u = Value.ref a := rx
  exact d_in hu I2 g ry fun s3 I3 => ⟨.bl ov.isSome, H2, I3, rfl, q2⟩
theorem pc_dnotin (hu : X.A.units + 1 < cLine) (hi : PE X i ty) (ho : PE X o td) : PC X .NotIn i o (tDNotIn ty td) := by
  intro pins s σ H Q I h
  refine thn (hi pins s σ H _ I h) fun iv s1 ⟨y, H1, I1, ry, q1⟩ => thn (ho pins s1 σ H1 _ I1 q1) fun u s2 ⟨x, H2, I2, rx, a, ov, ex, g, q2⟩ => ?_
  subst ex
  obtain rfl : u = Value.ref a := rx
  exact d_notIn hu I2 g ry fun s3 I3 => ⟨.bl (!ov.isSome), H2, I3, rfl, q2⟩
theorem ps_dput (hu : X.A.units + 1 < cLine) (ho : PE X o td) (hi : PE X i ty) (hv : PE X value tv) (hs : swapsWith value (some (.Subscript o i pos')) pos.line X.env = pure false) :
    PS X (.Assign [.Subscript o i pos'] value pos) (sDPut td ty tv) := by
  intro pins s σ H D I h
  refine wpAny_Assign_Subscript (thn (hv pins s σ H _ I h) fun r s1 ⟨v, H1, I1, rv, q1⟩ => thn (ho pins s1 σ H1 _ I1 q1) fun u s2 ⟨x, H2, I2, rx, q2⟩ => thn (hi pins s2 σ H2 _ I2 q2) fun iv s3 ⟨y, H3, I3, ry, a, H4, ex, g, q3⟩ => ?_) hs
  subst ex
  obtain rfl : u = Value.ref a := rx
  exact d_setItem hu I3 g ry rv fun s4 I4 => ⟨σ, H4, I4, q3⟩
end
theorem dk_empty {P : Program} {w : World} {H : Hp} (h : Heap) (hb : sysModules < h.objs.size) : ObjOk P w H (h.push { cls := .type "dict", data := .dict #[] }) h.objs.size (.dK []) :=
  ⟨Nat.zero_le _, beq_eq_false_iff_ne.mpr (Ne.symm (Nat.ne_of_lt hb)), [], .nil, Heap.DictOf.new h⟩
def tDNewK : TE := fun _ H Q => ∀ p, H p = none → Q (.ref p) (upd H p (.dK []))
section
variable {X : Cx} {pos : Pos}
theorem pe_dnewK : PE X (.Dict [] [] pos) tDNewK := fun pins s σ H Q I h =>
  wpAny_Dict_empty ⟨.ref s.heap.objs.size, _, I.laid (a := s.heap.objs.size) (o := .dK []) (t' := s.toks) (fun _ _ q => Heap.get?_push_of_some _ q) (Nat.le_refl _) (dk_empty s.heap I.big), rfl, h _ (I.hok.fresh (Nat.le_refl _))⟩
end
structure M2 (X : Cx) (o : Expr) (m : Str) (apos : Pos) (e f : Expr) (cpos : Pos) : Prop where
  base : attributeBase o m X.env (eval o X.env) = eval o X.env
  few : ((backTo cpos (starEach [e, f] X.env)).all (fun x => !x.1) && (backToKw cpos (keywordEach [] X.env)).all (fun x => x.1.isSome)
    && decide (([e, f] : List Expr).length + ([] : List Keyword).length + (if ([] : List Keyword).isEmpty then 0 else 1) < 30)) = true
  line : (apos.endLine == cpos.line) = true
  trees : backTo cpos (starEach [e, f] X.env) = [(false, eval e X.env), (false, eval f X.env)]
def IsD (H : Hp) (a : Addr) : Prop := (∃ kvs, Rd H a (.dK kvs)) ∨ ∃ kvs, Rd H a (.dT kvs)
theorem isD_at {X : Cx} {pins : List (Addr × Obj)} {σ : St} {H : Hp} {s : Shared} {a : Addr} (I : Inv X pins σ H s) (d : IsD H a) :
    s.TypeIs (.ref a) "dict" ∧ (∀ b, Value.ref a = .ref b → ∃ ob, s.heap.get? b = some ob ∧ ob.dict = none) ∧ (a == sysModules) = false := by
  rcases d with ⟨kvs, e⟩ | ⟨kvs, e⟩
  · obtain ⟨_, hd, vs, _, dd⟩ := dk_rd I.hok e
    refine ⟨dd.typeIs, fun b q => ?_, hd⟩
    cases q
    obtain ⟨ob, _, _, h1, h2, _⟩ := dd
    exact ⟨ob, h1, h2.2.1⟩
  · obtain ⟨_, hd, xs, _, dd⟩ := dt_rd I.hok e
    refine ⟨dd.typeIs, fun b q => ?_, hd⟩
    cases q
    obtain ⟨ob, _, _, h1, h2, _⟩ := dd
    exact ⟨ob, h1, h2.2.1⟩
section
variable {X : Cx} {pins : List (Addr × Obj)} {σ : St} {H : Hp} {s : Shared} {a : Addr} {y d : V} {u r : Value} {o : Option V} {A : Around} {E : Value → Shared → Prop}
theorem d_get2 {Q : Value → Shared → Prop} (hu : A.units + 1 < cLine) (I : Inv X pins σ H s) (g : DGet H a y o) (ry : RelV y u) (rd : RelV d r) (h : ∀ w' s', Inv X pins σ H s' → RelV (o.getD d) w' → Q w' s') :
    wpAny (model X.prog X.w) A (call (.builtin "dict.get") [.ref a, u, r]) Q E s := by
  rcases g with ⟨kvs, k, e, ey, l⟩ | ⟨kvs, k, b, e, ey, eb, l⟩
  · subst ey
    obtain ⟨z, hd, vs, rel, dd⟩ := dk_rd I.hok e
    refine call_meetsIn PySem.F.slot_dict_get dd.typeIs PySem.F.entry_dict_get (PySem.F.args_dict_get_3 _ _ _) (meets_dict_get_default (mixKind X.prog X.w) a (kV_is ry) hd r) ⟨_, dd.mapOf, h _ _ (I.tok _) ?_⟩
    rw [l]
    exact (rel.val k).getD rd
  · subst ey
    cases (show u = Value.ref b from ry)
    obtain ⟨z, hd, xs, rel, dd⟩ := dt_rd I.hok e
    refine call_meetsIn PySem.F.slot_dict_get dd.typeIs PySem.F.entry_dict_get (PySem.F.args_dict_get_3 _ _ _) (meetsH_dict_get_default (tupleKind (mixKind X.prog X.w)) a b hd r) ⟨tupleKind_room_in1 hu, k, xs, key_of I.hok eb, dd, h _ _ (I.tok _) ?_⟩
    rw [l]
    exact (rel.val k).getD rd
end
def tDGet2 (td ty tx : TE) : TE := fun σ H Q => td σ H fun x H1 => ∃ a, x = .ref a ∧ IsD H1 a ∧ ty σ H1 fun y H2 => tx σ H2 fun z H3 => ∃ o, DGet H3 a y o ∧ Q (o.getD z) H3
section
variable {X : Cx} {o e f : Expr} {apos cpos : Pos} {td ty tx : TE}
theorem pe_dget2 (hu : X.A.units + 1 < cLine) (ho : PE X o td) (he : PE X e ty) (hf : PE X f tx) (m : M2 X o "get" apos e f cpos) : PE X (.Call (.Attribute o "get" apos) [e, f] [] cpos) (tDGet2 td ty tx) := by
  intro pins s σ H Q I h
  refine wpAny_Call_method m.base m.few m.line PySem.F.plainAttrs_dict PySem.F.slot_dict_get PySem.F.type_dict_get (thn (ho pins s σ H _ I h) fun u s1 ⟨x, H1, I1, rx, a, ex, d, q1⟩ => ?_)
  subst ex
  obtain rfl : u = Value.ref a := rx
  obtain ⟨t1, t2, _⟩ := isD_at I1 d
  refine ⟨t1, t2, ?_⟩
  rw [m.trees]
  refine Calls.callWith_builtin rfl (Calls.evalArgs_plain (Calls.spliced_cons (thn (he pins s1 σ H1 _ I1 q1) fun iv s2 ⟨y, H2, I2, ry, q2⟩ =>
    Calls.spliced_cons (thn (hf pins s2 σ H2 _ I2 q2) fun fv s3 ⟨z, H3, I3, rz, ov, g, q3⟩ => Calls.spliced_nil ?_))))
  exact d_get2 hu I3 g ry rz fun w' s4 I4 rw' => ⟨_, H3, I4, rw', q3⟩
end
end L2
namespace Att
open PySem PySem.W PySem.Calls PyProof.Rows
theorem ints_of_wellAll {P : Params} {h : Heap} : ∀ (ns : List Int) (vs : List Value), WellAll P h vs (ns.map WData.int) → IntsAre vs ns := by
  intro ns
  induction ns with
  | nil =>
    intro vs w
    rw [List.map_nil] at w
    cases w
    exact .nil
  | cons n ns ih =>
    intro vs w
    rw [List.map_cons] at w
    cases w with
    | cons a b =>
      cases a
      exact .cons _ _ (ih _ b)
theorem script_of {l : OpenLaw} {n : Nat} (hn : l.most = some n) {P : Params} {h : Heap} {args : List WData} {vals : List Value}
    (hpre : l.row.toRowW.claim.pre args = true) (hwl : WellAll P h vals args) :
    ∃ a vs ns, vals = [Value.ref a] ∧ args = [WData.list (ns.map WData.int)] ∧ h.get? a = some { cls := .type "list", data := .seq vs.toArray } ∧ IntsAre vs ns ∧ ns.length ≤ n := by
  have hsh : WShape.hasAll [] args [.list .int] = true := (pre_splitW hpre).1
  have hc : l.pre.holds [] { args := args } = true := (pre_splitW hpre).2
  obtain ⟨d, r, rfl, h1, h2⟩ := hasAllW_cons hsh
  obtain rfl := hasAllW_nil h2
  obtain ⟨xs, rfl, h3⟩ := hasW_list h1
  obtain ⟨ns, rfl⟩ := items_int h3
  have hlen : ns.length ≤ n := by
    unfold OpenLaw.pre at hc
    have h4 : (WTm.not (.lt (.lit (.int (n : Int))) (.len (.arg 0)))).holds [] { args := [.list (ns.map .int)] } = true := by
      have h4 := (holds_andW hc).1
      rw [hn] at h4
      exact h4
    have h5 := condW_of h4 (w_not (w_lt w_lit (w_len_list (w_arg rfl))))
    rw [List.length_map] at h5
    refine Nat.le_of_not_lt fun q => ?_
    have q' : (n : Int) < ((ns.length : Nat) : Int) := by omega
    first
      | (rw [decide_eq_true q'] at h5; exact absurd h5 (by decide))
      | (simp at h5; omega)
  cases hwl with
  | cons w1 w2 =>
    cases w2
    cases w1 with
    | list ho hall => exact ⟨_, _, ns, rfl, rfl, ho, ints_of_wellAll ns _ hall, hlen⟩
theorem post_true (l : OpenLaw) (args : List WData) : l.row.toRowW.claim.post args (.bool true) args = true :=
  postW_of (r := l.row.toRowW) (X := (true == true))
    (show WShape.has [] (.bool true) .bool = true by first | rfl | decide | simp [WShape.has, WShape.arms, WShape.armsAll])
    (show (WTm.eq .res (.lit (.bool true))).value [] { args := args, res := some (.bool true), after := args } = some (.bool (true == true)) from w_eq_bool (w_res rfl) w_lit) rfl
theorem attach_call {l : OpenLaw} {n : Nat} {q : Program} {loose : List Str} {XP : (Str → Option Value) → Heap → Prop} {YP : World → Heap → Prop} {d : DefRec}
    (hn : l.most = some n) (hdf : d.params.defaults = [])
    (call : ∀ (w : World) (s₀ s₁ : Shared) (mg mb : Str → Option Value) (fa : Addr) (o : Obj) (pm cd doc : Value) (a : Addr) (vs : List Value) (ns : List Int),
      Ground q loose [] XP w s₀ mg mb s₁.heap → YP w s₁.heap →
      s₁.heap.get? fa = some o → o.data = .func (docDef d.name d.params d.body d.scope pm cd doc) → s₁.heap.CodeRec cd d.name → mg d.name = some (.ref fa) →
      s₁.heap.get? a = some { cls := .type "list", data := .seq vs.toArray } → IntsAre vs ns → ns.length ≤ n → s₁.gens = #[] →
      codeAny (model l.prog w) callerA (.call (.ref fa) ⟨[.ref a], []⟩) (fun r s' => r = .ok (.ret (.bool true)) ∧ OldK s₁.heap s'.heap ∧ s'.os = s₁.os ∧ AllBare s'.gens) s₁) :
    WalkO q loose XP YP l.row.toRowW d [] (fun f vs => PySem.call f vs) := by
  intro w s₀ s₁ mg mb G Y fa o pm cd doc dV kV ho hd hcd hD hmg hg args vals as hpre hlay hrd hwl hlo
  obtain rfl : dV = .none := Dflts.none hD hdf
  obtain rfl : kV = .none := Dflts.noKw hD
  obtain ⟨a, vs, ns, rfl, rfl, hobj, hints, hlen⟩ := script_of hn hpre hwl
  refine enter_call (codeAny_mono (call w s₀ s₁ mg mb fa o pm cd doc a vs ns G Y ho (fd_plain hd) hcd hmg hobj hints hlen hg) fun r s' hq => ?_)
  obtain ⟨rfl, h2, h3, h4⟩ := hq
  exact ⟨.inl ⟨.bool true, .bool true, [], rfl, fun _ => rfl, .bool true, post_true l _, fun _ => ⟨List.Pairwise.nil, fun _ hm => (nomatch hm)⟩⟩, h2, h3, h4⟩
end Att
namespace L2
open PySem PySem.Spec PyProof.Rows
theorem vals_ints : ∀ {vs : List Value} {ns : List Int}, IntsAre vs ns → Vals (ns.map V.int) vs
  | _, _, .nil => .nil
  | _, _, .cons n t h => .cons ⟨t, rfl⟩ (vals_ints h)
def Only (H : Hp) : Prop := ∀ b, H b = none ∨ ∃ o xs, H b = some (.frz o (.lst xs))
theorem law_call {P : Program} {w : World} {K : PySem.W.Frag} {mg mb : Str → Option Value} {CX : CXT} {k : Nat} {fa a : Addr} {fd : FuncData} {x : Str} {sp : Sp} {s₁ : Shared} {vs : List Value} {ns : List Int}
    (KX : K.In s₁.heap) (hns : s₁.heap.Ns mainGlobals mg) (hb : s₁.heap.Ns builtinsNs mb) (hbb : ∀ x : Str, x ≠ "__name__" → mb x = bootBuiltins x) (hlim : s₁.heap.NoLimit) (hg : s₁.gens = #[])
    (ha : s₁.heap.get? a = some { cls := .type "list", data := .seq vs.toArray }) (hi : IntsAre vs ns) (hl : ns.length ≤ sizeLine) (hr : Room k callerA)
    (F : ∀ base : Heap, K.In base → base.Ns mainGlobals mg → FnOk P w K mg base CX k fa fd [x] sp) (hbind : ∀ (s : Shared) (u : Value), BindsTo s fd ⟨[u], []⟩ [(x, u)])
    (hsp : ∀ H : Hp, Only H → SqL K H a (ns.map V.int) → sp [.ref a] H (fun v _ => v = .bl true) fun _ _ _ => False)
    (hCX : ∀ H e s', CX [] H s₁ (fun _ _ _ => False) e s' → False) :
    codeAny (model P w) callerA (.call (.ref fa) ⟨[.ref a], []⟩) (fun r s' => r = .ok (.ret (.bool true)) ∧ OldK s₁.heap s'.heap ∧ s'.os = s₁.os ∧ AllBare s'.gens) s₁ := by
  have rv := vals_ints hi
  have lenV := hi.length
  have core : ∀ H : Hp, Only H → SqL K H a (ns.map V.int) → HOk P w H s₁.heap → (∀ b, H b ≠ none → b = a) → (H a ≠ none → K.lookup a = none) →
      codeAny (model P w) callerA (.call (.ref fa) ⟨[.ref a], []⟩) (fun r s' => r = .ok (.ret (.bool true)) ∧ OldK s₁.heap s'.heap ∧ s'.os = s₁.os ∧ AllBare s'.gens) s₁ := by
    intro H hO hS hok hA hK
    have base_of : ∀ {b : Addr} {o : Obj}, s₁.heap.get? b = some o → H b = none → (hidT s₁.heap H).get? b = some o := fun e n => hidT_get e n
    have noA : ∀ {b : Addr} {o : Obj} {es : Array DictEntry} {ep : Nat}, s₁.heap.get? b = some o → o.data = .dict es ep → H b = none := fun {b o es ep} e d => by
      cases q : H b with
      | none => rfl
      | some u =>
        have e' : b = a := hA b (by rw [q]; simp)
        subst e'
        rw [ha] at e; cases e
        have d' : Data.seq vs.toArray _ = Data.dict es ep := d
        cases d'
    have nsK : ∀ {b : Addr} {m : Str → Option Value}, s₁.heap.Ns b m → (hidT s₁.heap H).Ns b m := fun {b m} ⟨o, es, ep, e, d, r⟩ => ⟨o, es, ep, base_of e (noA e d), d, r⟩
    have hKb : K.In (hidT s₁.heap H) := fun b o e => base_of (KX b o e) (by
      cases q : H b with
      | none => rfl
      | some u =>
        have e' : b = a := hA b (by rw [q]; simp)
        subst e'
        rw [hK (by rw [q]; simp)] at e; cases e)
    have hM : Mod K mg (hidT s₁.heap H) := ⟨hKb, nsK hns, ⟨mb, nsK hb, hbb⟩, let ⟨mc, h1, h2⟩ := hlim; ⟨mc, nsK h1, h2⟩⟩
    have e0 : Env0 P w K mg (hidT s₁.heap H) callerA [] s₁ H := ⟨rfl, hM, fun b o e => of_hidT e, Nat.le_of_eq (hidT_size _ _), trivial, fun b hb => absurd (show b ∈ ([] : List Addr) from hb) (by simp), hok, .of_eq hg⟩
    refine codeAny_mono ((F _ hKb (nsK hns)).run callerA [] s₁ H ⟨[.ref a], []⟩ [.ref a] [.ref a] _ _ hr e0 (hbind s₁ (.ref a)) (.cons rfl .nil) (hsp H hO hS)) fun r s' h => ?_
    cases r with
    | error e => exact (hCX H e s' h).elim
    | ok fl =>
      cases fl with
      | next => exact False.elim h
      | brk => exact False.elim h
      | cont => exact False.elim h
      | ret u =>
        obtain ⟨v, H', os, bare, un, hok', r', q⟩ := h
        have q' : v = .bl true := q
        subst q'
        obtain rfl : u = Value.bool true := r'
        refine ⟨rfl, OldK.of_keep fun b o e => ?_, os, bare⟩
        cases q : H b with
        | none => exact un.keep b o e q (by intro z; exact absurd (show b ∈ ([] : List Addr) from z) (by simp)) (by simp)
        | some u =>
          rcases hO b with z | ⟨ob, xs, z⟩
          · rw [q] at z; cases z
          · have z2 := un.frzs b ob _ z
            obtain ⟨e1, _⟩ := hok b _ z
            obtain ⟨e2, _⟩ := hok' b _ z2
            rw [e] at e1; cases e1
            exact e2
  cases hk : K.lookup a with
  | some o =>
    have e := KX a o hk
    rw [ha] at e
    cases e
    refine core (fun _ => none) (fun _ => .inl rfl) (.inr ⟨_, vs.toArray, _, hk, rfl, rfl, rfl, by rw [List.size_toArray, lenV]; exact hl, by simpa using rv⟩) (fun b u z => by have z' : (none : Option HO) = some u := z; cases z') (fun b z => absurd rfl z) fun z => absurd rfl z
  | none =>
    refine core (fun b => if b = a then some (.frz { cls := .type "list", data := .seq vs.toArray } (.lst (ns.map V.int))) else none) (fun b => ?_) (.inl (.inr ⟨{ cls := .type "list", data := .seq vs.toArray }, if_pos rfl⟩)) (fun b u z => ?_) (fun b z => ?_) fun _ => hk
    · by_cases hb : b = a
      · exact .inr ⟨_, _, if_pos hb⟩
      · exact .inl (if_neg hb)
    · by_cases hb : b = a
      · have z' := (if_pos hb).symm.trans z
        cases z'
        subst hb
        exact ⟨ha, by rw [List.length_map]; exact hl, vs, _, rv, ha⟩
      · have z' := (if_neg hb).symm.trans z
        cases z'
    · by_cases hb : b = a
      · exact hb
      · exact absurd (if_neg hb) z
end L2
namespace L2
open PySem PySem.Spec PyProof.Rows
theorem walk_of {l : PySem.W.OpenLaw} {n k : Nat} {q : Program} {loose : List Str} {XP : (Str → Option Value) → Heap → Prop} {YP : World → Heap → Prop} {d : DefRec} {K : Params → PySem.W.Frag} {CX : World → CXT} {sp : World → Sp} {x : Str}
    (hn : l.most = some n) (hn2 : n ≤ sizeLine) (hdf : d.params.defaults = []) (hr : Room k callerA)
    (hY : ∀ (w : World) (h : Heap), YP w h → (K w.params).In h)
    (F : ∀ (w : World) (mg : Str → Option Value) (fa : Addr) (h : Heap), (K w.params).In h → h.Ns mainGlobals mg → mg d.name = some (.ref fa) →
      ∃ fd : FuncData, (∀ (s : Shared) (u : Value), BindsTo s fd ⟨[u], []⟩ [(x, u)]) ∧
        ∀ base : Heap, (K w.params).In base → base.Ns mainGlobals mg → FnOk l.prog w (K w.params) mg base (CX w) k fa fd [x] (sp w))
    (hsp : ∀ (w : World) (H : Hp) (a : Addr) (ns : List Int), ns.length ≤ n → Only H → SqL (K w.params) H a (ns.map V.int) → sp w [.ref a] H (fun v _ => v = .bl true) fun _ _ _ => False)
    (hCX : ∀ (w : World) (H : Hp) (s : Shared) (e : Value) (s' : Shared), CX w [] H s (fun _ _ _ => False) e s' → False) :
    PySem.W.WalkO q loose XP YP l.row.toRowW d [] (fun f vs => PySem.call f vs) := by
  refine Att.attach_call hn hdf fun w s₀ s₁ mg mb fa o pm cd doc a vs ns G Y ho hd hcd hmg hobj hints hlen hg => ?_
  have KX := hY w _ Y
  obtain ⟨fd, hb, hF⟩ := F w mg fa _ KX G.T.g hmg
  exact law_call KX G.T.g G.T.b G.T.builtins G.T.nolimit hg hobj hints (Nat.le_trans hlen hn2) hr hF hb (fun H hO hS => hsp w H a ns hlen hO hS) fun H e s' => hCX w H s₁ e s'
end L2
namespace L2
open PySem PySem.Spec PyProof.Rows
def defArgs (s : Stmt) : Arguments := match s with
  | .FunctionDef _ a _ _ _ _ _ _ _ _ => a
  | _ => { posonlyargs := [], args := [], vararg := none, kwonlyargs := [], kw_defaults := [], kwarg := none, defaults := [] }
def defBody (s : Stmt) : List Stmt := match s with
  | .FunctionDef _ _ b _ _ _ _ _ _ _ => b
  | _ => []
def defScope (s : Stmt) : Scope := match s with
  | .FunctionDef _ _ _ _ _ _ sc _ _ _ => sc
  | _ => { kind := .function, names := [], isGenerator := false, isCoroutine := false }
abbrev CX0 : CXT := fun _ _ _ _ _ _ => False
abbrev E0 : XK := fun _ _ _ => False
theorem pass0 {X : Cx} : Passes CX0 X E0 := fun _ _ _ _ _ _ _ h => h.elim
structure Fun (K : PySem.W.Frag) (x qual : Str) (st : Stmt) (f : Addr) (fd : FuncData) : Prop where
  ex : ∃ (oc : Value) (od : Option Addr) (kV doc pm : Value) (an : Option Addr) (cdv ct : Value) (osl : Array (Option Value)),
    fd = PySem.W.fnOf x qual (defArgs st) (defBody st) (defScope st) .none kV doc pm an cdv ct ∧ K.lookup f = some ⟨oc, od, .func fd, osl⟩ ∧ PySem.W.codeIn K cdv qual = true
  kp : PySem.W.keepIn K (.ref f) = true
section
variable {P : Program} {w : World} {K : PySem.W.Frag} {mg : Str → Option Value} {base : Heap}
theorem Fun.ok {x qual : Str} {st : Stmt} {f : Addr} {fd : FuncData} {N ps : List Str} {k : Nat} {sp : Sp} (F : Fun K x qual st f fd) (S : FnScope N ps (defScope st)) (len : ∀ vs H Q E, sp vs H Q E → vs.length = ps.length)
    (hbody : ∀ (cdv : Value) (A : Around) (outer : List Env) (s : Shared) (H : Hp) (vs : List V) (Q : VK) (E : XK), Room k (A.deeper (envOfC qual (defScope st) s.heap.objs.size f cdv)) → sp vs H Q E →
      ∃ t, PSs (cxOf CX0 P w K mg base N qual (defScope st) f cdv A outer s H E).nox (defBody st) t ∧ t { nx := fun _ H' => Q .non H', rt := Q } (start N vs) H) : FnOk P w K mg base CX0 (k + 1) f fd ps sp := by
  obtain ⟨oc, od, kV, doc, pm, an, cdv, ct, osl, rfl, lk, hcd⟩ := F.ex
  refine fn_of lk hcd S len fun A outer s H vs Q E hr hsp => ?_
  obtain ⟨t, h, q⟩ := hbody cdv A outer s H vs Q E hr hsp
  exact ⟨t, h.nox, q⟩
theorem Fun.binds {x qual : Str} {st : Stmt} {f : Addr} {fd : FuncData} {ps : List Str} (F : Fun K x qual st f fd)
    (h : ∀ (kV doc pm : Value) (an : Option Addr) (cdv ct : Value) (us : List Value), us.length = ps.length → bindArgs (PySem.W.fnOf x qual (defArgs st) (defBody st) (defScope st) .none kV doc pm an cdv ct) ⟨us, []⟩ = pure (ps.zip us)) : Binds K fd ps [] := by
  obtain ⟨oc, od, kV, doc, pm, an, cdv, ct, osl, rfl, lk, hcd⟩ := F.ex
  exact .all (h kV doc pm an cdv ct)
theorem fun_mk {x qual : Str} {st : Stmt} {f : Addr} {oc : Value} {od an : Option Addr} {osl : Array (Option Value)} {kV doc pm cdv ct : Value} (l : K.lookup f = some ⟨oc, od, .func (PySem.W.fnOf x qual (defArgs st) (defBody st) (defScope st) .none kV doc pm an cdv ct), osl⟩)
    (c : PySem.W.codeIn K cdv qual = true) (k : PySem.W.keepIn K (.ref f) = true) : Fun K x qual st f (PySem.W.fnOf x qual (defArgs st) (defBody st) (defScope st) .none kV doc pm an cdv ct) := ⟨⟨oc, od, kV, doc, pm, an, cdv, ct, osl, rfl, l, c⟩, k⟩
end
theorem hu_of {A : Around} {k : Nat} (hr : Room k A) : A.units + 1 < cLine := Nat.lt_of_le_of_lt (Nat.add_le_add_left (by decide : 1 ≤ 64) _) hr.units
theorem small1000 {n : Nat} (h : n ≤ 1000) : n < sizeLine := Nat.lt_of_le_of_lt h (by decide)
section
variable {X : Cx}
theorem pv (i : Nat) {x : Str} {pos : Pos} (hN : X.N[i]? = some x := by rfl) (hv : Vis X.env.scope x := by first | exact Or.inl rfl | exact Or.inr (Or.inl rfl) | exact Or.inr (Or.inr rfl)) (hd : (x == ("__debug__" : Str)) = false := by decide)
    (hcd : (x == ("__classdict__" : Str)) = false := by decide) : PE X (.Name x pos) (tVar i) := pe_var hN hv hd hcd
end
theorem iteF {A B : Prop} (h : B) : if false = true then A else B := by
  rw [if_neg Bool.false_ne_true]
  exact h
theorem iteT {A B : Prop} (h : A) : if true = true then A else B := by
  rw [if_pos rfl]
  exact h
theorem ite2 {c A B : Prop} [Decidable c] (h1 : c → A) (h2 : ¬ c → B) : if c then A else B := by
  by_cases h : c
  · rw [if_pos h]
    exact h1 h
  · rw [if_neg h]
    exact h2 h
theorem iteNS {c A B : Prop} [Decidable c] (hc : c) (h : B) : if (!decide c) = true then A else B := by
  rw [decide_eq_true hc]
  exact iteF h
def Same (H H' : Hp) : Prop := ∀ b o, H b = some o → H' b = some o
theorem Same.refl (H : Hp) : Same H H := fun _ _ h => h
theorem Same.trans {H H1 H2 : Hp} (a : Same H H1) (b : Same H1 H2) : Same H H2 := fun c o h => b c o (a c o h)
theorem Same.free {H H' : Hp} (e : Same H H') {l : Addr} (h : H' l = Option.none) : H l = Option.none := by
  cases q : H l with
  | none => rfl
  | some o =>
    rw [e l o q] at h
    cases h
theorem Same.seq {K : PySem.W.Frag} {H H' : Hp} {a : Addr} {xs : List V} (e : Same H H') (h : SqL K H a xs) : SqL K H' a xs := by
  rcases h with (h | ⟨o, h⟩) | h
  · exact .inl (.inl (e _ _ h))
  · exact .inl (.inr ⟨o, e _ _ h⟩)
  · exact .inr h
section
variable {κ : Type} [DecidableEq κ]
theorem nd_snoc : ∀ {l : List κ} {k : κ}, l.Nodup → ¬ k ∈ l → (l ++ [k]).Nodup
  | [], k, _, _ => by simp
  | a :: r, k, h, hk => by
    obtain ⟨h1, h2⟩ := List.nodup_cons.mp h
    show (a :: (r ++ [k])).Nodup
    refine List.nodup_cons.mpr ⟨fun m => ?_, nd_snoc h2 fun m => hk (List.mem_cons.mpr (Or.inr m))⟩
    rcases List.mem_append.mp m with q | q
    · exact h1 q
    · exact hk (List.mem_cons.mpr (Or.inl (List.mem_singleton.mp q).symm))
end
end L2
set_option maxHeartbeats 8000000
namespace L2
open PySem PySem.Spec PyProof.Rows
def compCx (X : Cx) (N : List Str) (scope : Scope) (cl : List (Str × Addr)) (C : Addr) (s0 : Shared) (H0 : Hp) (ex : List Addr) : Cx :=
  { X with N := N, s₀ := s0, H₀ := H0, env := compEnvC scope cl C X.env, outer := X.stack, stack := X.stack, ex := ex, fn := fun _ => false, pn := [], xe := fun _ _ => False }
def compSt (nl : Nat) (fr : List Nat) (σ : St) : St := List.replicate nl none ++ fr.map fun j => (σ[j]?).join
def closOf (env : Env) : List (Str × NameKind) → List (Str × Addr) → List (Str × Addr)
  | [], cs => cs
  | (n, k) :: r, cs => closOf env r (if (k == NameKind.free) = true then (n, (env.cells.lookup n).getD 0) :: cs else cs)
theorem closOf_sub (env : Env) : ∀ (ns : List (Str × NameKind)) (cs : List (Str × Addr)), (∀ p ∈ ns, p.2 = .free → ∃ c, env.cells.lookup p.1 = some c) → (∀ y c, cs.lookup y = some c → env.cells.lookup y = some c) →
    ∀ y c, (closOf env ns cs).lookup y = some c → env.cells.lookup y = some c
  | [], cs, _, h, y, c, e => h y c e
  | (n, k) :: r, cs, hn, h, y, c, e => by
    unfold closOf at e
    refine closOf_sub env r _ (fun p hp => hn p (List.mem_cons_of_mem _ hp)) ?_ y c e
    intro z d ez
    split at ez
    · rename_i hk
      rw [List.lookup_cons] at ez
      cases hz : z == n with
      | true =>
        rw [hz] at ez
        have hzn : z = n := eq_of_beq hz
        subst hzn
        have hkf : k = .free := by simpa using hk
        obtain ⟨c', hc'⟩ := hn (z, k) List.mem_cons_self hkf
        have hc' : env.cells.lookup z = some c' := hc'
        rw [hc'] at ez
        rw [hc']
        simpa using ez
      | false =>
        rw [hz] at ez
        exact h z d ez
    · exact h z d ez
theorem closOf_keep (env : Env) : ∀ (ns : List (Str × NameKind)) (cs : List (Str × Addr)) (y : Str), (∃ c, cs.lookup y = some c) → ∃ c, (closOf env ns cs).lookup y = some c
  | [], cs, y, h => h
  | (n, k) :: r, cs, y, ⟨c, h⟩ => by
    unfold closOf
    refine closOf_keep env r _ y ?_
    split
    · rw [List.lookup_cons]
      cases hz : y == n with
      | true => exact ⟨_, rfl⟩
      | false => exact ⟨c, h⟩
    · exact ⟨c, h⟩
theorem closOf_has (env : Env) : ∀ (ns : List (Str × NameKind)) (cs : List (Str × Addr)) (p : Str × NameKind), p ∈ ns → p.2 = .free → ∃ c, (closOf env ns cs).lookup p.1 = some c
  | [], cs, p, hp, _ => by simp at hp
  | (n, k) :: r, cs, p, hp, hk => by
    unfold closOf
    rcases List.mem_cons.mp hp with e | hp
    · subst e
      have hk : k = .free := hk
      subst hk
      refine closOf_keep env r _ n ?_
      rw [if_pos (by rfl), List.lookup_cons]
      exact ⟨(List.lookup n env.cells).getD 0, by simp⟩
    · exact closOf_has env r _ p hp hk
theorem closure_loop (env : Env) : ∀ (ns : List (Str × NameKind)) (cs : List (Str × Addr)), (∀ p ∈ ns, p.2 = .free → ∃ c, env.cells.lookup p.1 = some c) →
    (forIn ns cs (fun (x : Str × NameKind) (r : List (Str × Addr)) => if (x.2 == NameKind.free) = true then (do let a ← cellOf env x.1; pure (ForInStep.yield ((x.1, a) :: r))) else pure (ForInStep.yield r)) : Sem (List (Str × Addr))) = pure (closOf env ns cs)
  | [], cs, _ => rfl
  | (n, k) :: r, cs, hn => by
    have ih := fun cs' => closure_loop env r cs' fun p hp => hn p (List.mem_cons_of_mem _ hp)
    rw [List.forIn_cons]
    unfold closOf
    by_cases hk : (k == NameKind.free) = true
    · obtain ⟨c, hc⟩ := hn (n, k) List.mem_cons_self (by simpa using hk)
      have hc : env.cells.lookup n = some c := hc
      rw [if_pos hk, if_pos hk]
      have e1 : cellOf env n = pure c := by unfold cellOf; rw [hc]
      rw [e1, hc]
      exact ih _
    · rw [if_neg hk, if_neg hk]
      exact ih _
theorem closureFor_eq {scope : Scope} {env : Env} (h : ∀ p ∈ scope.names, p.2 = .free → ∃ c, env.cells.lookup p.1 = some c) : closureFor scope env = pure (closOf env scope.names []) := by
  have e := closure_loop env scope.names [] h
  unfold closureFor
  show (forIn scope.names [] _ >>= _) = _
  have e2 : (forIn scope.names ([] : List (Str × Addr)) (fun (x : Str × NameKind) (r : List (Str × Addr)) => match x with | (name, kind) => (if (kind == NameKind.free) = true then (do let a ← cellOf env name; pure PUnit.unit; pure (ForInStep.yield ((name, a) :: r))) else (do pure PUnit.unit; pure (ForInStep.yield r)))) : Sem (List (Str × Addr))) = pure (closOf env scope.names []) := e
  first
    | exact (congrArg (fun z => z >>= fun cs => pure cs) e2)
    | (rw [show (forIn scope.names ([] : List (Str × Addr)) _ : Sem (List (Str × Addr))) = pure (closOf env scope.names []) from e]; rfl)
section
variable {X : Cx}
def PIfs (X : Cx) (ifs : List Expr) (t : TT) : Prop :=
  ∀ (pins : List (Addr × Obj)) (s : Shared) (σ : St) (H : Hp) (Q : Bool → Hp → Prop), Inv X pins σ H s → t σ H Q →
    wpAny (model X.prog X.w) X.A (forIn ifs true fun c r => if r = true then do let ok ← isTrue c X.env (eval c X.env); pure (ForInStep.yield ok) else pure (ForInStep.yield r)) (TP X pins σ Q) X.xe s
def tYes : TT := fun _ H Q => Q true H
theorem pifs_nil : PIfs X [] tYes := fun pins s σ H Q I h => by
  rw [List.forIn_nil]
  exact wpAny_pure ⟨H, I, h⟩
theorem pifs_one {c : Expr} {t : TT} (h : PT X c t) : PIfs X [c] t := by
  intro pins s σ H Q I hw
  rw [List.forIn_cons, if_pos rfl]
  refine wpAny_bind (wpAny_bind (thn (h pins s σ H Q I hw) fun b s1 q => wpAny_pure ?_))
  show wpAny _ _ (forIn [] b _) _ _ s1
  rw [List.forIn_nil]
  exact wpAny_pure q
theorem compLoop_any {prog : Program} {w : World} {A : Around} {R : Result → Shared → Prop} {s : Shared} {elt target iter : Expr} {ifs : List Expr} {scope : Scope} {pos : Pos} {it acc : Value} {env : Env} (I : Nat → Shared → Prop)
    (turn : ∀ n s, I n s → wpAny (model prog w) A (pyNext it) (fun r s1 => match r with
      | none => R (.ok .next) s1
      | some v => wpAny (model prog w) A (letOwnedTupleGo target it v) (fun _ s2 => wpAny (model prog w) A (assign target env v) (fun _ s3 =>
          wpAny (model prog w) A (forIn ifs true fun c r => if r = true then do let ok ← isTrue c env (eval c env); pure (ForInStep.yield ok) else pure (ForInStep.yield r)) (fun ok s4 =>
            if ok = true then wpAny (model prog w) A (eval elt env) (fun x s5 =>
              wpAny (model prog w) A (call (.builtin "list.append") [acc, x]) (fun _ s6 => ∃ m, m < n ∧ I m s6) (fun _ _ => False) s5) (fun _ _ => False) s4
            else ∃ m, m < n ∧ I m s4) (fun _ _ => False) s3) (fun _ _ => False) s2) (fun _ _ => False) s1) (fun _ _ => False) s)
    (n : Nat) (h : I n s) :
    codeAny (model prog w) A (.compLoop (.ListComp elt [⟨target, iter, ifs, 0⟩] scope pos) 0 it acc env) R s := by
  refine codeAny_loop rfl I (fun n s hI => ?_) n h
  show wpAny _ A ((compTurn (.ListComp elt [⟨target, iter, ifs, 0⟩] scope pos) 0 it acc env).onRaise (fun x => do noteFrame x env; theTreesLotGoes x)) _ _ s
  refine wpAny_noted ?_
  rw [compTurn_list]
  refine wpAny_bind (wpAny_standAt (wpAny_bind (wpAny_mono (turn n s hI) (fun r s1 h1 => ?_) fun _ _ f => f.elim)))
  cases r with
  | none => exact wpAny_pure h1
  | some v =>
    refine wpAny_bind (wpAny_mono h1 (fun _ s2 h2 => ?_) fun _ _ f => f.elim)
    refine wpAny_bind (wpAny_mono h2 (fun _ s3 h3 => wpAny_bind (wpAny_mono h3 (fun ok s4 h4 => ?_) fun _ _ f => f.elim)) fun _ _ f => f.elim)
    cases ok with
    | false => exact wpAny_pure ⟨rfl, h4⟩
    | true =>
      exact wpAny_bind (wpAny_bind (wpAny_mono h4 (fun x s5 h5 => wpAny_bind (wpAny_mono h5 (fun _ s6 h6 => wpAny_pure (wpAny_pure ⟨rfl, h6⟩)) fun _ _ f => f.elim)) fun _ _ f => f.elim))
def CompW (J : It) (g : TG) (tc : TT) (te : TE) (Q : VK) (σ0 : St) (H0 : Hp) : Prop := ∃ W : Nat → Nat → List V → St → Hp → Prop, (∃ m, W 0 m [] σ0 H0) ∧ ∀ i m ys σ' H', W i m ys σ' H' →
   (J.stop i H' ∧ ∀ D, H' D = none → Q (.ref D) (upd H' D (.lst ys))) ∨
   (J.go i H' ∧ ∃ N : List V → St → Hp → Prop, (∀ ys' σ2 H2, N ys' σ2 H2 → ∃ m', m' < m ∧ W (i + 1) m' ys' σ2 H2) ∧ ∀ x H2, J.yld i H' x H2 → g x σ' H2 fun σ2 H3 => tc σ2 H3 fun b H4 =>
     if b = true then te σ2 H4 fun y H5 => ys.length < sizeLine ∧ N (ys ++ [y]) σ2 H5 else N ys σ2 H4)
def tComp (nl : Nat) (fr : List Nat) (wi : TI) (g : TG) (tc : TT) (te : TE) : TE := fun σ H Q => wi σ H fun J H1 => CompW J g tc te Q (compSt nl fr σ) H1
structure CompOk (X : Cx) (N : List Str) (nl : Nat) (fr : List Nat) (scope : Scope) : Prop where
  cell : ∀ y ∈ scope.names, y.2 ≠ .cell
  kind : scope.kind = .function
  names : ∀ y ∈ scope.names, y.2 = .local → scope.names.lookup y.1 = some .local
  free : ∀ p ∈ scope.names, p.2 = .free → X.env.kindOf p.1 = some .cell ∨ X.env.kindOf p.1 = some .free
  len : N.length = nl + fr.length
  fr : ∀ (k j : Nat), fr[k]? = some j → ∃ y, N[nl + k]? = some y ∧ X.N[j]? = some y ∧ Vis X.env.scope y ∧ scope.names.lookup y = some .free
theorem lookup_relabel {env : Env} : ∀ {names : List (Str × NameKind)} {x : Str} {k : NameKind}, (names.map fun (n, k) => if (k == NameKind.free && env.scope.kind == .function && env.kindOf n == some .cell) then (n, NameKind.cell) else (n, k)).lookup x = some k →
    k = .cell ∨ k = .free → (∀ y ∈ names, y.2 ≠ .cell) → ∃ p ∈ names, p.1 = x ∧ p.2 = .free
  | [], _, _, h, _, _ => by simp at h
  | (n, kn) :: r, x, k, h, hk, hc => by
    have ih := @lookup_relabel env r x k
    rw [List.map_cons] at h
    have hcn : kn ≠ .cell := hc (n, kn) List.mem_cons_self
    have hr : ∀ y ∈ r, y.2 ≠ .cell := fun y hy => hc y (List.mem_cons_of_mem _ hy)
    cases hx : x == n with
    | true =>
      have hxn : x = n := eq_of_beq hx
      by_cases hcc : (kn == NameKind.free && env.scope.kind == .function && env.kindOf n == some .cell) = true
      · refine ⟨(n, kn), List.mem_cons_self, hxn.symm, ?_⟩
        simp only [Bool.and_eq_true] at hcc
        simpa using hcc.1.1
      · dsimp only at h
        rw [if_neg hcc, List.lookup_cons, hx] at h
        have hkk : kn = k := Option.some.inj h
        subst hkk
        rcases hk with z | z
        · exact absurd z hcn
        · exact ⟨(n, kn), List.mem_cons_self, hxn.symm, z⟩
    | false =>
      by_cases hcc : (kn == NameKind.free && env.scope.kind == .function && env.kindOf n == some .cell) = true
      · dsimp only at h
        rw [if_pos hcc, List.lookup_cons, hx] at h
        obtain ⟨p, hp, q⟩ := ih h hk hr
        exact ⟨p, List.mem_cons_of_mem _ hp, q⟩
      · dsimp only at h
        rw [if_neg hcc, List.lookup_cons, hx] at h
        obtain ⟨p, hp, q⟩ := ih h hk hr
        exact ⟨p, List.mem_cons_of_mem _ hp, q⟩
theorem lookup_relabel_free {env : Env} : ∀ {names : List (Str × NameKind)} {x : Str}, names.lookup x = some .free →
    (names.map fun (n, k) => if (k == NameKind.free && env.scope.kind == .function && env.kindOf n == some .cell) then (n, NameKind.cell) else (n, k)).lookup x = some .cell ∨
    (names.map fun (n, k) => if (k == NameKind.free && env.scope.kind == .function && env.kindOf n == some .cell) then (n, NameKind.cell) else (n, k)).lookup x = some .free
  | [], _, h => by simp at h
  | (n, kn) :: r, x, h => by
    have ih := @lookup_relabel_free env r x
    rw [List.map_cons]
    dsimp only
    cases hx : x == n with
    | true =>
      rw [List.lookup_cons, hx] at h
      have hkn : kn = .free := Option.some.inj h
      by_cases hcc : (kn == NameKind.free && env.scope.kind == .function && env.kindOf n == some .cell) = true
      · rw [if_pos hcc, List.lookup_cons, hx]; exact .inl rfl
      · rw [if_neg hcc, List.lookup_cons, hx]; exact .inr (congrArg some hkn)
    | false =>
      rw [List.lookup_cons, hx] at h
      by_cases hcc : (kn == NameKind.free && env.scope.kind == .function && env.kindOf n == some .cell) = true
      · rw [if_pos hcc, List.lookup_cons, hx]; exact ih h
      · rw [if_neg hcc, List.lookup_cons, hx]; exact ih h
theorem HOk.track {P : Program} {w : World} {H : Hp} {h : Heap} {a : Addr} {o : HO} (x : HOk P w H h) (hn : H a = none) (new : ObjOk P w (upd H a o) h a o) : HOk P w (upd H a o) h := fun b u e => by
  by_cases hb : b = a
  · subst hb; rw [upd_same] at e; cases e; exact new
  · rw [upd_ne hb] at e
    exact (x b u e).stay (fun c v _ q => q) (fun c q => by rw [upd_ne (ne_of_none q hn)]; exact q) fun c xs q => by rw [upd_ne (ne_of_none q hn)]; exact q
theorem comp_core {elt tg iter : Expr} {ifs : List Expr} {scope : Scope} {pos : Pos} {wi : TI} {g : TG} {tc : TT} {te : TE} {N : List Str} {nl : Nat} {fr : List Nat}
    (hc : X.calm = true) (hi : PI X tg iter wi) (hg : ∀ cl C s0 H0 ex, PG (compCx X N scope cl C s0 H0 ex) tg g) (ht : ∀ cl C s0 H0 ex, PIfs (compCx X N scope cl C s0 H0 ex) ifs tc)
    (he : ∀ cl C s0 H0 ex, PE (compCx X N scope cl C s0 H0 ex) elt te) (ok : CompOk X N nl fr scope)
    {RR : Value → Addr → Result → Shared → Prop} {pins : List (Addr × Obj)} {s : Shared} {σ : St} {H : Hp} {Q : VK} (I : Inv X pins σ H s) (h : tComp nl fr wi g tc te σ H Q)
    (hRR : ∀ D C s' H', Inv X pins σ H' s' → Q (.ref D) H' → FpOk X pins H' C → (∃ m, s'.heap.Ns C m) → RR (.ref D) C (.ok .next) s') :
    wpAny (model X.prog X.w) X.A (eval iter X.env) (fun x s1 => wpAny (model X.prog X.w) X.A (pyIter x) (fun it s2 => wpAny (model X.prog X.w) X.A (newList []) (fun acc s3 =>
      wpAny (model X.prog X.w) X.A (newFunctionEnv scope X.env.globals (closOf X.env scope.names []) [] X.env.qual none .none (some X.env)) (fun cenv s4 =>
        codeAny (model X.prog X.w) X.A (.compStart (.ListComp elt [⟨tg, iter, ifs, 0⟩] scope pos) 0 it acc { cenv with scope := relabel scope X.env }) (RR acc cenv.locals) s4) X.xe s3) X.xe s2) X.xe s1) X.xe s := by
  refine thn (hi pins s σ H _ I h) fun v s1 h1 => thn h1 fun itv s2 h2 => ?_
  obtain ⟨it, fp, tn, J, H2, rfl, I2, T, st2, f2, W, ⟨m0, w0⟩, turn⟩ := h2
  refine wpAny_newObj_type (wpAny_newFunctionEnv ok.cell (by intro y hy; simp at hy) (fun h1 hns1 hsb1 => ?_) ok.kind)
  dsimp only at hns1 hsb1 ⊢
  generalize hHH : s2.heap.push { cls := .type "list", dict := none, data := .seq ([] : List Value).toArray } = HH at hns1 hsb1 ⊢
  have hC : HH.objs.size = s2.heap.objs.size + 1 := by rw [← hHH, Heap.size_push]
  have hDC : s2.heap.objs.size ≠ HH.objs.size := by rw [hC]; exact Nat.ne_of_lt (Nat.lt_succ_self _)
  have hCle : s2.heap.objs.size ≤ HH.objs.size := by rw [hC]; exact Nat.le_succ _
  have below : ∀ b, b < s2.heap.objs.size → b ≠ HH.objs.size ∧ b ≠ s2.heap.objs.size := fun b hb => ⟨by rw [hC]; exact Nat.ne_of_lt (Nat.lt_succ_of_lt hb), Nat.ne_of_lt hb⟩
  have old : ∀ b o, s2.heap.get? b = some o → h1.get? b = some o := fun b o e => hsb1.extBut b o (below b (Heap.lt_size e)).1 (Heap.get?_push_of_some _ (hHH ▸ Heap.get?_push_of_some _ e))
  have hacc : h1.get? s2.heap.objs.size = some { cls := .type "list", data := .seq ([] : List Value).toArray } := hsb1.extBut _ _ hDC (Heap.get?_push_of_some _ (hHH ▸ Heap.get?_push_size _ rfl))
  have fplt : ∀ b ∈ fp, b < s2.heap.objs.size := fun b hb => by obtain ⟨o, e, _⟩ := T.obj 0 _ st2 b hb; exact Heap.lt_size e
  generalize hXd : compCx X N scope (closOf X.env scope.names []) HH.objs.size s2 H2 fp = X'
  have hfreeC : ∀ p ∈ scope.names, p.2 = .free → ∃ c, X.env.cells.lookup p.1 = some c := fun p hp hf => I.ok.has p.1 (ok.free p hp hf)
  have cellsSub : ∀ y c, (closOf X.env scope.names []).lookup y = some c → X.env.cells.lookup y = some c := closOf_sub X.env scope.names [] hfreeC (fun y c e => by simp at e)
  have cellLt : ∀ y c, X.env.cells.lookup y = some c → c < s2.heap.objs.size := fun y c e => by obtain ⟨v, z⟩ := I2.cell y c e; exact z.lt
  have ok' : X'.Ok := by
    rw [← hXd]
    refine ⟨I.ok.mod, ?_, I.ok.glob, I.ok.blt, hCle, fun x y c e1 e2 => I.ok.inj x y c (cellsSub x c e1) (cellsSub y c e2), fun x hx => ?_, fun x c hf => (by cases hf), I.ok.hd, I.ok.frames, .inl rfl,
      fun b hb => ⟨(below b (fplt b hb)).1, fun x c e => (f2 b hb).2.2.2.2.1 x c (cellsSub x c e)⟩, I2.bs, Nat.le_trans I.ok.bsz I2.sz, fun b o e hb => ?_, fun b hb hfs => ?_, I2.stack, I2.stkFree⟩
    · show (relabel scope X.env).kind = .function
      exact ok.kind
    · have hx' : ∃ p ∈ scope.names, p.1 = x ∧ p.2 = .free := by
        rcases hx with z | z
        · exact lookup_relabel z (.inl rfl) ok.cell
        · exact lookup_relabel z (.inr rfl) ok.cell
      obtain ⟨p, hp, rfl, hpf⟩ := hx'
      exact closOf_has X.env scope.names [] p hp hpf
    · rcases (f2 b hb).2.2.2.1 with z | z
      · exact I.ok.noex b o e z
      · exact absurd (Nat.lt_of_lt_of_le (Heap.lt_size e) (Nat.le_trans I.ok.bsz z)) (Nat.lt_irrefl _)
    · rcases List.mem_cons.mp (I2.stkSub b hfs) with z | z
      · exact (f2 b hb).2.1 z
      · exact (f2 b hb).2.2.1 z
  have hX'd : X'.env.locals = HH.objs.size := by rw [← hXd]; rfl
  have hX'c : X'.env.cells = closOf X.env scope.names [] := by rw [← hXd]; rfl
  have hX'pn : X'.pn = [] := by rw [← hXd]; rfl
  have hX'ex : X'.ex = fp := by rw [← hXd]; rfl
  have hX's0 : X'.s₀ = s2 := by rw [← hXd]; rfl
  have hX'H0 : X'.H₀ = H2 := by rw [← hXd]; rfl
  have hX'fs : X'.fs = frs X.stack := by rw [← hXd]; rfl
  have hX'xe : X'.xe = fun _ _ => False := by rw [← hXd]; rfl
  have hX'A : X'.A = X.A := by rw [← hXd]; rfl
  have hX'P : X'.prog = X.prog := by rw [← hXd]; rfl
  have hX'w : X'.w = X.w := by rw [← hXd]; rfl
  have hX'K : X'.K = X.K := by rw [← hXd]; rfl
  have hX'calm : X'.calm = true := by rw [← hXd]; exact hc
  have hX'env : X'.env = compEnvC scope (closOf X.env scope.names []) HH.objs.size X.env := by rw [← hXd]; rfl
  have I' : Inv X' [] (compSt nl fr σ) H2 { s2 with heap := h1, toks := s2.toks + ([] : List (Str × Value)).length } := by
    refine ⟨ok', by rw [hX's0], I2.bare, ?_, ?_, fun x c e => ?_, ?_, fun x c e => ?_, fun p hp => ?_, ?_, ?_⟩
    · rw [hX'fs, hX'ex, hX'H0, hX's0]; exact Un.kept old
    · obtain ⟨m, hn, hl⟩ := I2.loc
      rw [hX'd]
      refine ⟨_, hns1, fun i x v e1 e2 e3 => ?_⟩
      have hN' : N[i]? = some x := by rw [← hXd] at e1; exact e1
      unfold compSt at e2
      have hi : ¬ i < nl := fun hlt => by
        rw [List.getElem?_append_left (by simpa using hlt), List.getElem?_replicate, if_pos hlt] at e2
        cases e2
      rw [List.getElem?_append_right (by simpa using hi), List.length_replicate, List.getElem?_map] at e2
      cases ej : fr[i - nl]? with
      | none => rw [ej] at e2; cases e2
      | some j =>
        rw [ej] at e2
        obtain ⟨y, y1, y2, y3, y4⟩ := ok.fr (i - nl) j ej
        have hii : nl + (i - nl) = i := by omega
        rw [hii, hN'] at y1
        have hxy : x = y := Option.some.inj y1
        subst hxy
        have e2' : (σ[j]?).join = some v := Option.some.inj e2
        have e2'' : σ[j]? = some (some v) := by
          cases hσ : σ[j]? with
          | none => rw [hσ] at e2'; cases e2'
          | some z => rw [hσ] at e2'; exact congrArg some e2'
        obtain ⟨u, r, l⟩ := hl j x v y2 e2'' y3
        have hkX := ok.free (x, .free) (PySem.mem_of_lookup y4) rfl
        refine ⟨u, r, .inr ⟨?_, ?_⟩⟩
        · rw [hX'env]
          rcases lookup_relabel_free (env := X.env) y4 with z | z
          · exact .inl z
          · exact .inr z
        · rcases l with ⟨k1, _⟩ | ⟨_, c, ec, hcell⟩
          · rcases hkX with z | z
            · rw [z] at k1; cases k1
            · rw [z] at k1; cases k1
          · obtain ⟨c', ec'⟩ := closOf_has X.env scope.names [] (x, .free) (PySem.mem_of_lookup y4) rfl
            have : c' = c := by
              have q := cellsSub x c' ec'
              rw [ec] at q
              exact (Option.some.inj q).symm
            subst this
            refine ⟨c', by rw [hX'c]; exact ec', ?_⟩
            obtain ⟨oc, ho, hd⟩ := hcell
            exact ⟨oc, old _ _ ho, hd⟩
    · rw [hX'c] at e
      obtain ⟨v, oc, ho, hd⟩ := I2.cell x c (cellsSub x c e)
      exact ⟨v, oc, old _ _ ho, hd⟩
    · rw [hX'd]; exact I2.hok.fresh hCle
    · rw [hX'c] at e
      exact I2.freeC x c (cellsSub x c e)
    · rw [hX'pn] at hp; simp at hp
    · rw [hX'P, hX'w]; exact I2.hok.kept old
    · unfold compSt
      have : X'.N = N := by rw [← hXd]; rfl
      rw [this, ok.len, List.length_append, List.length_replicate, List.length_map]
  have Dn : ∀ {H' : Hp} {pins'} {s' : Shared} {σ'}, Inv X' pins' σ' H' s' → H' s2.heap.objs.size = none → ∀ o, s'.heap.get? s2.heap.objs.size = some o → (∀ v, o.data ≠ .cell v) → Inv X' [(s2.heap.objs.size, o)] σ' H' s' := fun {H' pins' s' σ'} I3 hD o ho hnc =>
    I3.pins_of fun p hp => by
      have e : p = (s2.heap.objs.size, o) := by simpa using hp
      subst e
      refine ⟨ho, hD, by rw [hX'd]; exact hDC, ?_, hnc⟩
      rw [hX'fs]
      intro hb
      rcases List.mem_cons.mp (I2.stkSub _ hb) with z | z
      · exact absurd (z ▸ I2.lt) (Nat.lt_irrefl _)
      · exact I2.nofs (Nat.le_refl _) z
  have loop : ∀ s₃ : Shared, s₃ = { s2 with heap := h1, toks := s2.toks + ([] : List (Str × Value)).length } →
      codeAny (model X.prog X.w) X.A (.compLoop (.ListComp elt [⟨tg, iter, ifs, 0⟩] scope pos) 0 (.ref it) (.ref s2.heap.objs.size) (compEnvC scope (closOf X.env scope.names []) HH.objs.size X.env)) (RR (.ref s2.heap.objs.size) HH.objs.size) s₃ := by
    rintro s₃ rfl
    refine compLoop_any (fun n s' => ∃ (i : Nat) (σ' : St) (H' : Hp) (ys : List V) (its : List Value) (k : Nat), Inv X' [(s2.heap.objs.size, { cls := .type "list", data := .seq its.toArray k })] σ' H' s' ∧ Vals ys its ∧ ys.length ≤ sizeLine ∧ tn i s'.heap ∧ (∀ b ∈ fp, H' b = none) ∧ W i n ys σ' H')
      ?_ m0 ⟨0, _, H2, [], [], 0, Dn I' (I2.hok.fresh (Nat.le_refl _)) _ hacc (fun v z => by cases z), .nil, Nat.zero_le _, T.keep 0 _ _ st2 fun b hb o e => old b o e, fun b hb => (f2 b hb).1, w0⟩
    rintro n s3 ⟨i, σ3, H3, ys, its, k, I3, rv, hyl, st3, fr3, w3⟩
    have pinD := I3.pin (s2.heap.objs.size, { cls := .type "list", data := .seq its.toArray k }) (by rw [hX'pn]; exact List.mem_append_right _ List.mem_cons_self)
    have stat : ∀ {o : Obj} {H' : Hp}, (∀ b ∈ fp, H' b = none) → ∀ b ∈ fp, FpOk X' [(s2.heap.objs.size, o)] H' b := fun {o H'} hn b hb => by
      refine ⟨hn b hb, by rw [hX'd]; exact (below b (fplt b hb)).1, fun z => ok'.exfs b (by rw [hX'ex]; exact hb) z, .inl (by rw [hX'ex]; exact hb), fun x c e => by rw [hX'c] at e; exact (f2 b hb).2.2.2.2.1 x c (cellsSub x c e), fun p hp => ?_⟩
      rw [hX'pn] at hp
      have e : p = (s2.heap.objs.size, o) := by simpa using hp
      subst e
      exact fun z => (below b (fplt b hb)).2 z.symm
    rcases turn i n ys σ3 H3 w3 with ⟨stop, qn⟩ | ⟨go, Nx, hNx, step⟩
    · have dn := T.done X' hX'P hX'w hX'K hX'calm i _ s3 σ3 H3 (fun _ _ => False) I3 (stat fr3) st3 stop
      rw [hX'A] at dn
      refine thn dn fun r s4 ⟨hr, I4⟩ => ?_
      subst hr
      have pinE := I4.pin (s2.heap.objs.size, { cls := .type "list", data := .seq its.toArray k }) (by rw [hX'pn]; exact List.mem_append_right _ List.mem_cons_self)
      have ub : Un (frs X.stack) fp H2 H3 s2.heap s4.heap := by
        have := I4.base
        rw [hX'fs, hX'ex, hX'H0, hX's0] at this
        exact this
      have hok4 : HOk X.prog X.w H3 s4.heap := by have := I4.hok; rw [hX'P, hX'w] at this; exact this
      have nD : ∀ b u, H3 b = some u → b ≠ s2.heap.objs.size := fun b u e z => by rw [z, pinE.2.1] at e; cases e
      have u2 : Un (frs X.stack) fp H2 (upd H3 s2.heap.objs.size (.lst ys)) s2.heap s4.heap :=
        ⟨ub.keep, ub.slot, fun b o e n' hx => by rw [upd_ne (Nat.ne_of_lt (Heap.lt_size e))]; exact ub.free b o e n' hx, ub.there,
          fun b xs e => by have := ub.tups b xs e; rw [upd_ne (nD b _ this)]; exact this, fun b o u e => by have := ub.frzs b o u e; rw [upd_ne (nD b _ this)]; exact this,
          fun b ps e => by obtain ⟨more, z⟩ := ub.tbls b ps e; exact ⟨more, by rw [upd_ne (nD b _ z)]; exact z⟩⟩
      have I5 : Inv X pins σ (upd H3 s2.heap.objs.size (.lst ys)) s4 := by
        refine I2.call' (by rw [I4.os, hX's0]) u2 ?_ I4.bare fun b hb => ⟨(f2 b hb).2.2.2.1, (f2 b hb).2.1, (f2 b hb).2.2.2.2.1, (f2 b hb).2.2.2.2.2⟩
        exact HOk.track hok4 pinE.2.1 ⟨hyl, its, k, rv, pinE.1⟩
      refine hRR _ _ s4 _ I5 (qn _ pinE.2.1) (I2.fpOk hCle ?_) ?_
      · rw [upd_ne (Ne.symm hDC)]
        have := I4.free
        rw [hX'd] at this
        exact this
      · obtain ⟨m, hn, _⟩ := I4.loc
        rw [hX'd] at hn
        exact ⟨m, hn⟩
    · have im := T.item X' hX'P hX'w hX'K hX'calm i _ s3 σ3 H3 (fun _ _ => False) I3 (stat fr3) st3 go
      rw [hX'A] at im
      refine thn im fun r s4 ⟨u, hr, h4⟩ => ?_
      subst hr
      refine thn h4 fun _ s5 ⟨x, H5, I5, r5, y5, st5, fr5⟩ => ?_
      have I5' := I5.pinned (stat fr5) (T.obj _ _ st5)
      have gg := hg (closOf X.env scope.names []) HH.objs.size s2 H2 fp
      rw [hXd] at gg
      have gg := gg _ s5 σ3 H5 x u _ I5' r5 (step x H5 y5)
      rw [hX'A, hX'P, hX'w, hX'xe, hX'env] at gg
      refine thn gg fun _ s6 ⟨σ6, H6, I6, q6⟩ => ?_
      have tt := ht (closOf X.env scope.names []) HH.objs.size s2 H2 fp
      rw [hXd] at tt
      have tt := tt _ s6 σ6 H6 _ I6 q6
      rw [hX'A, hX'P, hX'w, hX'xe, hX'env] at tt
      refine thn tt fun ok7 s7 ⟨H7, I7, q7⟩ => ?_
      have again : ∀ {s8 : Shared} {σ8 : St} {H8 : Hp} {ys8 : List V} {its8 : List Value} {k8 : Nat}, Inv X' ([(s2.heap.objs.size, { cls := .type "list", data := .seq its8.toArray k8 })] ++ pinsAt fp s5.heap) σ8 H8 s8 → Vals ys8 its8 → ys8.length ≤ sizeLine → Nx ys8 σ8 H8 →
          ∃ m, m < n ∧ ∃ (i : Nat) (σ' : St) (H' : Hp) (ys : List V) (its : List Value) (k : Nat), Inv X' [(s2.heap.objs.size, { cls := .type "list", data := .seq its.toArray k })] σ' H' s8 ∧ Vals ys its ∧ ys.length ≤ sizeLine ∧ tn i s8.heap ∧ (∀ b ∈ fp, H' b = none) ∧ W i m ys σ' H' :=
        fun {s8 σ8 H8 ys8 its8 k8} I8 rv8 hl8 n8 => by
          obtain ⟨m', hm, w8⟩ := hNx ys8 σ8 H8 n8
          refine ⟨m', hm, i + 1, σ8, H8, ys8, its8, k8, I8.unpinned, rv8, hl8, T.keep _ _ _ st5 fun b hb o e => (I8.pin (b, o) (List.mem_append_right _ (List.mem_append_right _ (mem_pinsAt hb e)))).1, fun b hb => ?_, w8⟩
          obtain ⟨o, e, d⟩ := T.obj _ _ st5 b hb
          exact (I8.pin (b, o) (List.mem_append_right _ (List.mem_append_right _ (mem_pinsAt hb e)))).2.1
      cases ok7 with
      | false =>
        rw [if_neg Bool.false_ne_true] at q7 ⊢
        exact again I7 rv hyl q7
      | true =>
        rw [if_pos rfl] at q7 ⊢
        have ee := he (closOf X.env scope.names []) HH.objs.size s2 H2 fp
        rw [hXd] at ee
        have ee := ee _ s7 σ6 H7 _ I7 q7
        rw [hX'A, hX'P, hX'w, hX'xe, hX'env] at ee
        refine thn ee fun yv s8 ⟨y, H8, I8, r8, hyl8, q8⟩ => ?_
        have pin8 := I8.pin (s2.heap.objs.size, { cls := .type "list", data := .seq its.toArray k }) (List.mem_append_right _ (List.mem_append_left _ List.mem_cons_self))
        refine wpAny_list_append_plain (items := its.toArray) ⟨k, pin8.1⟩ (fun h9 hp9 hs9 => ?_) (by rw [List.size_toArray, ← rv.length]; exact hyl)
        obtain ⟨k9, e9⟩ := hp9
        have I9 : Inv X' (pinsAt fp s5.heap) σ6 H8 s8 := I8.pins_of fun p hp => I8.pin p (List.mem_append_right _ (List.mem_append_right _ hp))
        have I9' : Inv X' (pinsAt fp s5.heap) σ6 H8 { s8 with heap := h9, toks := s8.toks } := by
          refine I9.turned (t' := s8.toks) (it := s2.heap.objs.size) (fun b o hb e => hs9.extBut b o hb e) pin8.2.1 (by rw [hX'd]; exact hDC) (.inr (by rw [hX's0]; exact Nat.le_refl _)) (fun x c e z => ?_) fun p hp z => ?_
          · rw [hX'c] at e
            exact absurd (z ▸ cellLt x c (cellsSub x c e)) (Nat.lt_irrefl _)
          · rw [hX'pn] at hp
            obtain ⟨hb, _⟩ := of_pinsAt (by simpa using hp)
            exact absurd (z ▸ fplt _ hb) (Nat.lt_irrefl _)
        have e9' : h9.get? s2.heap.objs.size = some { cls := .type "list", data := .seq (its ++ [yv]).toArray k9 } := by rw [e9]; simp
        refine again (ys8 := ys ++ [y]) (its8 := its ++ [yv]) (k8 := k9) ?_ (Vals.append rv (.cons r8 .nil)) (by rw [List.length_append]; exact hyl8) q8
        refine I9'.pins_of fun p hp => ?_
        rcases List.mem_append.mp hp with z | z
        · have e : p = (s2.heap.objs.size, { cls := .type "list", data := .seq (its ++ [yv]).toArray k9 }) := by simpa using z
          subst e
          exact ⟨e9', pin8.2.1, pin8.2.2.1, pin8.2.2.2.1, fun v z => by cases z⟩
        · exact I9'.pin p (List.mem_append_right _ z)
  exact codeAny_compStart_list (loop _ rfl) (T.self X.A 0 _ _ _ (T.keep 0 _ _ st2 fun b hb o e => old b o e) (loop _ rfl))
end
end L2
namespace L2
open PySem PySem.Spec PyProof.Rows
section
variable {X : Cx}
theorem pe_comp {elt tg iter : Expr} {ifs : List Expr} {scope : Scope} {pos : Pos} {wi : TI} {g : TG} {tc : TT} {te : TE} {N : List Str} {nl : Nat} {fr : List Nat}
    (hc : X.calm = true) (ok : CompOk X N nl fr scope) (hi : PI X tg iter wi) (hg : ∀ cl C s0 H0 ex, PG (compCx X N scope cl C s0 H0 ex) tg g) (ht : ∀ cl C s0 H0 ex, PIfs (compCx X N scope cl C s0 H0 ex) ifs tc)
    (he : ∀ cl C s0 H0 ex, PE (compCx X N scope cl C s0 H0 ex) elt te) (hs : ∀ x, foldedSetIterable iter X.env x = pure x := by intro _; rfl) :
    PE X (.ListComp elt [⟨tg, iter, ifs, 0⟩] scope pos) (tComp nl fr wi g tc te) := by
  intro pins s σ H Q I h
  have hclos : closureFor scope X.env = pure (closOf X.env scope.names []) := closureFor_eq fun p hp hf => I.ok.has p.1 (ok.free p hp hf)
  rw [eval_ListComp]
  refine wpAny_comprehension_free (use := none) rfl hs hclos ok.kind ok.names (comp_core (RR := fun acc C => compPost (model X.prog X.w) X.A X.xe none (EP X pins σ Q) acc C) hc hi hg ht he ok I h ?_)
  intro D C s' H' I' q f ⟨m, hn⟩
  exact ⟨m, hn, fun h' hs' => ⟨.ref D, H', I'.turned (t' := s'.toks) (fun b o hb e => hs'.extBut b o hb e) f.1 f.2.1 f.2.2.2.1 f.2.2.2.2.1 f.2.2.2.2.2, rfl, q⟩⟩
theorem ps_setC {i : Nat} {y : Str} {py spos : Pos} {elt tg iter : Expr} {ifs : List Expr} {scope : Scope} {pos : Pos} {wi : TI} {g : TG} {tc : TT} {te : TE} {N : List Str} {nl : Nat} {fr : List Nat}
    (hN : X.N.Nodup) (hi' : X.N[i]? = some y) (hx : Loc X.env.scope y)
    (hc : X.calm = true) (ok : CompOk X N nl fr scope) (hi : PI X tg iter wi) (hg : ∀ cl C s0 H0 ex, PG (compCx X N scope cl C s0 H0 ex) tg g) (ht : ∀ cl C s0 H0 ex, PIfs (compCx X N scope cl C s0 H0 ex) ifs tc)
    (he : ∀ cl C s0 H0 ex, PE (compCx X N scope cl C s0 H0 ex) elt te) (hsw : swapsWith (.ListComp elt [⟨tg, iter, ifs, 0⟩] scope pos) (some (.Name y py)) spos.line X.env = pure true := by rfl)
    (hs : ∀ x, foldedSetIterable iter X.env x = pure x := by intro _; rfl)
    (hf : X.fn y = true ∨ X.env.scope.names.lookup y = some .local := by first | exact .inl rfl | exact .inr rfl | assumption) :
    PS X (.Assign [.Name y py] (.ListComp elt [⟨tg, iter, ifs, 0⟩] scope pos) spos) (tAsg (tComp nl fr wi g tc te) (gName i)) := by
  intro pins s σ H Dn I h
  have hclos : closureFor scope X.env = pure (closOf X.env scope.names []) := closureFor_eq fun p hp hf => I.ok.has p.1 (ok.free p hp hf)
  rw [exec_Assign_Name_used _ _ _ _ hsw]
  refine wpAny_bind (wpAny_standAt (wpAny_bind ?_))
  show wpAny _ X.A (do let _ ← comprehension (.ListComp elt [⟨tg, iter, ifs, 0⟩] scope pos) scope X.env _ (newList []) false (eval iter X.env) (some (assign (.Name y py) X.env))) _ _ s
  refine wpAny_bind (wpAny_mono (wpAny_comprehension_free (use := some (assign (.Name y py) X.env)) (Q := fun _ s' => SP X pins Dn .next s') rfl hs hclos ok.kind ok.names
    (comp_core (RR := fun acc C => compPost (model X.prog X.w) X.A X.xe (some (assign (.Name y py) X.env)) (fun _ s' => SP X pins Dn .next s') acc C) hc hi hg ht he ok I h ?_)) (fun _ s' hq => wpAny_pure (wpAny_pure hq)) fun _ _ e => e)
  intro D C s' H' I' q f ⟨m, hn⟩
  show wpAny _ X.A (assign (.Name y py) X.env (.ref D)) _ _ _
  refine wpAny_assign_Name (store_ok2 I' hN hi' hx (v := .ref D) rfl (fun s2 I2 ⟨a, sb, ha⟩ => ?_) hf)
  have hCa : C ≠ a := by
    rcases ha with z | z
    · rw [z]; exact f.2.1
    · exact fun e => f.2.2.2.2.1 _ _ z e.symm
  exact ⟨m, hn.sameBut sb hCa, fun h' hs' => ⟨_, H', I2.turned (t' := s2.toks) (fun b o hb e => hs'.extBut b o hb e) f.1 f.2.1 f.2.2.2.1 f.2.2.2.2.1 f.2.2.2.2.2, q⟩⟩
theorem comp_list {K : PySem.W.Frag} {a : Addr} {xs : List V} {g : TG} {tc : TT} {te : TE} {σ0 : St} {H : Hp} {Q : VK} (Pv : Nat → List V → St → Hp → Prop) (h0 : Pv 0 [] σ0 H) (hl : ∀ i ys σ H, i ≤ xs.length → Pv i ys σ H → SqL K H a xs)
    (hs : ∀ i x ys σ H, xs[i]? = some x → Pv i ys σ H → g x σ H fun σ2 H2 => tc σ2 H2 fun b H4 => if b = true then te σ2 H4 fun y H5 => ys.length < sizeLine ∧ Pv (i + 1) (ys ++ [y]) σ2 H5 else Pv (i + 1) ys σ2 H4)
    (hd : ∀ ys σ H, Pv xs.length ys σ H → ∀ D, H D = none → Q (.ref D) (upd H D (.lst ys))) :
    CompW (Itl K a) g tc te Q σ0 H := by
  refine ⟨fun i m ys σ H => m = xs.length - i ∧ i ≤ xs.length ∧ Pv i ys σ H, ⟨xs.length, by simp, Nat.zero_le _, h0⟩, ?_⟩
  rintro i m ys σ H ⟨rfl, hi, p⟩
  have q := hl i ys σ H hi p
  by_cases hlt : i < xs.length
  · refine .inr ⟨⟨xs, xs[i], q, by simp [hlt]⟩, Pv (i + 1), fun ys' σ' H' p' => ⟨xs.length - (i + 1), by omega, rfl, hlt, p'⟩, fun x H' y => ?_⟩
    obtain ⟨e, y⟩ := y
    subst e
    exact hs i x ys σ _ (y xs q) p
  · have e : i = xs.length := by omega
    subst e
    exact .inl ⟨⟨xs, q, Nat.le_refl _⟩, hd ys σ H p⟩
theorem comp_range {lo : Int} {n : Nat} {g : TG} {tc : TT} {te : TE} {σ0 : St} {H : Hp} {Q : VK} (Pv : Nat → List V → St → Hp → Prop) (h0 : Pv 0 [] σ0 H)
    (hs : ∀ i ys σ H, i < n → Pv i ys σ H → g (.int (lo + i)) σ H fun σ2 H2 => tc σ2 H2 fun b H4 => if b = true then te σ2 H4 fun y H5 => ys.length < sizeLine ∧ Pv (i + 1) (ys ++ [y]) σ2 H5 else Pv (i + 1) ys σ2 H4)
    (hd : ∀ ys σ H, Pv n ys σ H → ∀ D, H D = none → Q (.ref D) (upd H D (.lst ys))) :
    CompW (Itr lo n) g tc te Q σ0 H := by
  refine ⟨fun i m ys σ H => m = n - i ∧ i ≤ n ∧ Pv i ys σ H, ⟨n, by simp, Nat.zero_le _, h0⟩, ?_⟩
  rintro i m ys σ H ⟨rfl, hi, p⟩
  by_cases hlt : i < n
  · refine .inr ⟨hlt, Pv (i + 1), fun ys' σ' H' p' => ⟨n - (i + 1), by omega, rfl, hlt, p'⟩, fun x H' y => ?_⟩
    obtain ⟨e, y⟩ := y
    subst e y
    exact hs i ys σ _ hlt p
  · have e : i = n := by omega
    subst e
    exact .inl ⟨Nat.le_refl _, hd ys σ H p⟩
inductive EqD (K : PySem.W.Frag) (H : Hp) : Nat → V → V → Bool → Prop where
  | flat {n : Nat} {x y : V} : flatV x = true → flatV y = true → EqD K H n x y (eqV x y)
  | same {n : Nat} (a : Addr) : EqD K H n (.ref a) (.ref a) true
  | lists {n : Nat} {a b : Addr} {xs ys : List V} (e : Nat → Bool) : a ≠ b → SqL K H a xs → SqL K H b ys → xs.length = ys.length → (∀ (j : Nat) x y, xs[j]? = some x → ys[j]? = some y → EqD K H n x y (e j)) → EqD K H (n + 1) (.ref a) (.ref b) ((List.range xs.length).all e)
  | lens {n : Nat} {a b : Addr} {xs ys : List V} : a ≠ b → SqL K H a xs → SqL K H b ys → xs.length ≠ ys.length → EqD K H (n + 1) (.ref a) (.ref b) false
theorem eqAt_D {pins : List (Addr × Obj)} {σ : St} {H : Hp} {s : Shared} (I : Inv X pins σ H s) {n : Nat} {x y : V} {b : Bool} (d : EqD X.K H n x y b) :
    ∀ {A : Around} {u v : Value}, A.units + n < cLine → RelV x u → RelV y v → SeqAt.EqAt A s u v b := by
  induction d with
  | flat fx fy => intro A u v _ rx ry; exact eqAt_V rx ry fx fy
  | same a => intro A u v _ rx ry; cases rx; cases ry; exact SeqAt.EqAt.same _
  | @lists n a c xs ys e ne ha hb hl _ ih =>
    intro A u v hu rx ry
    cases rx; cases ry
    obtain ⟨its, r1, p1, _⟩ := I.list ha
    obtain ⟨its2, r2, p2, _⟩ := I.list hb
    have l1 := r1.length
    have l2 := r2.length
    refine SeqAt.EqAt.of_refs ne ?_
    have q := SeqAt.RcAt.lists (A := A) (e := e) p1.isList p2.isList (by rw [List.size_toArray, List.size_toArray]; omega) (by omega) (fun j h1 h2 => by
      have h1' : j < its.length := by simpa using h1
      have h2' : j < its2.length := by simpa using h2
      have e1 : xs[j]? = some (xs[j]'(by omega)) := List.getElem?_eq_getElem _
      have e2 : ys[j]? = some (ys[j]'(by omega)) := List.getElem?_eq_getElem _
      obtain ⟨u1, z1, q1⟩ := r1.get e1
      obtain ⟨u2, z2, q2⟩ := r2.get e2
      have w1 : its.toArray[j] = u1 := by
        rw [List.getElem?_eq_getElem h1'] at z1
        simpa using z1
      have w2 : its2.toArray[j] = u2 := by
        rw [List.getElem?_eq_getElem h2'] at z2
        simpa using z2
      rw [w1, w2]
      exact ih j _ _ e1 e2 (by show A.in1.units + n < cLine; have : A.in1.units = A.units + 1 := by first | rfl | simp [Around.in1]
                               omega) q1 q2)
    rw [List.size_toArray, ← l1] at q
    exact q
  | lens ne ha hb hl =>
    intro A u v hu rx ry
    cases rx; cases ry
    obtain ⟨its, r1, p1, _⟩ := I.list ha
    obtain ⟨its2, r2, p2, _⟩ := I.list hb
    have l1 := r1.length
    have l2 := r2.length
    exact SeqAt.EqAt.of_refs ne (SeqAt.RcAt.lists_lengths p1.isList p2.isList (by rw [List.size_toArray, List.size_toArray]; simp; omega) (by omega))
def LEq (K : PySem.W.Frag) (H : Hp) (n : Nat) (xs ys : List V) (r : Bool) : Prop :=
  (xs.length ≠ ys.length ∧ r = false) ∨ (∃ e : Nat → Bool, xs.length = ys.length ∧ (∀ (j : Nat) x y, xs[j]? = some x → ys[j]? = some y → EqD K H n x y (e j)) ∧ r = (List.range xs.length).all e)
theorem leq_rc {pins : List (Addr × Obj)} {σ : St} {H : Hp} {s : Shared} (I : Inv X pins σ H s) {A : Around} {n : Nat} {a b : Addr} {xs ys : List V} {r : Bool} (hu : A.units + n + 1 < cLine) (ha : SqL X.K H a xs) (hb : SqL X.K H b ys) (d : LEq X.K H n xs ys r) :
    SeqAt.RcAt A s (.ref a) (.ref b) r := by
  obtain ⟨its, r1, p1, _⟩ := I.list ha
  obtain ⟨its2, r2, p2, _⟩ := I.list hb
  have l1 := r1.length
  have l2 := r2.length
  rcases d with ⟨hl, rfl⟩ | ⟨e, hl, he, rfl⟩
  · exact SeqAt.RcAt.lists_lengths p1.isList p2.isList (by rw [List.size_toArray, List.size_toArray]; simp; omega) (by omega)
  · have q := SeqAt.RcAt.lists (A := A) (e := e) p1.isList p2.isList (by rw [List.size_toArray, List.size_toArray]; omega) (by omega) (fun j h1 h2 => by
      have h1' : j < its.length := by simpa using h1
      have h2' : j < its2.length := by simpa using h2
      have e1 : xs[j]? = some (xs[j]'(by omega)) := List.getElem?_eq_getElem _
      have e2 : ys[j]? = some (ys[j]'(by omega)) := List.getElem?_eq_getElem _
      obtain ⟨u1, z1, q1⟩ := r1.get e1
      obtain ⟨u2, z2, q2⟩ := r2.get e2
      have w1 : its.toArray[j] = u1 := by
        rw [List.getElem?_eq_getElem h1'] at z1
        simpa using z1
      have w2 : its2.toArray[j] = u2 := by
        rw [List.getElem?_eq_getElem h2'] at z2
        simpa using z2
      rw [w1, w2]
      exact eqAt_D I (he j _ _ e1 e2) (by show A.in1.units + n < cLine; have : A.in1.units = A.units + 1 := by first | rfl | simp [Around.in1]
                                          omega) q1 q2)
    rw [List.size_toArray, ← l1] at q
    exact q
end
end L2
namespace L2
open PySem PySem.Spec PyProof.Rows
section
variable {X : Cx}
theorem leq_rcNe {pins : List (Addr × Obj)} {σ : St} {H : Hp} {s : Shared} (I : Inv X pins σ H s) {A : Around} {n : Nat} {a b : Addr} {xs ys : List V} {r : Bool} (hu : A.units + n + 1 < cLine) (ha : SqL X.K H a xs) (hb : SqL X.K H b ys) (d : LEq X.K H n xs ys r) :
    SeqAt.RcNeAt A s (.ref a) (.ref b) (!r) := by
  obtain ⟨its, r1, p1, _⟩ := I.list ha
  obtain ⟨its2, r2, p2, _⟩ := I.list hb
  have l1 := r1.length
  have l2 := r2.length
  rcases d with ⟨hl, rfl⟩ | ⟨e, hl, he, rfl⟩
  · exact SeqAt.RcNeAt.lists_lengths p1.isList p2.isList (by rw [List.size_toArray, List.size_toArray]; simp; omega) (by omega)
  · have q := SeqAt.RcNeAt.lists (A := A) (e := e) p1.isList p2.isList (by rw [List.size_toArray, List.size_toArray]; omega) (by omega) (fun j h1 h2 => by
      have h1' : j < its.length := by simpa using h1
      have h2' : j < its2.length := by simpa using h2
      have e1 : xs[j]? = some (xs[j]'(by omega)) := List.getElem?_eq_getElem _
      have e2 : ys[j]? = some (ys[j]'(by omega)) := List.getElem?_eq_getElem _
      obtain ⟨u1, z1, q1⟩ := r1.get e1
      obtain ⟨u2, z2, q2⟩ := r2.get e2
      have w1 : its.toArray[j] = u1 := by
        rw [List.getElem?_eq_getElem h1'] at z1
        simpa using z1
      have w2 : its2.toArray[j] = u2 := by
        rw [List.getElem?_eq_getElem h2'] at z2
        simpa using z2
      rw [w1, w2]
      exact eqAt_D I (he j _ _ e1 e2) (by show A.in1.units + n < cLine; have : A.in1.units = A.units + 1 := by first | rfl | simp [Around.in1]
                                          omega) q1 q2)
    rw [List.size_toArray, ← l1] at q
    exact q
def rEqL (K : PySem.W.Frag) (n : Nat) (neg : Bool) : R2 := fun x y H Q => ∃ a b xs ys r, x = .ref a ∧ y = .ref b ∧ SqL K H a xs ∧ SqL K H b ys ∧ LEq K H n xs ys r ∧ Q (.bl (if neg then !r else r)) H
theorem op_eqL (n : Nat) (hu : X.A.units + n + 1 < cLine) : OpR X (compareOp .Eq) (rEqL X.K n false) := by
  intro pins s σ H x y v u Q I rx ry h
  obtain ⟨a, b, xs, ys, r, rfl, rfl, ha, hb, d, q⟩ := h
  cases rx; cases ry
  exact leq_rc I hu ha hb d _ _ _ _ ⟨.bl r, H, I, rfl, q⟩
theorem op_neL (n : Nat) (hu : X.A.units + n + 1 < cLine) : OpR X (compareOp .NotEq) (rEqL X.K n true) := by
  intro pins s σ H x y v u Q I rx ry h
  obtain ⟨a, b, xs, ys, r, rfl, rfl, ha, hb, d, q⟩ := h
  cases rx; cases ry
  exact leq_rcNe I hu ha hb d _ _ _ _ ⟨.bl (!r), H, I, rfl, q⟩
theorem all_range_iff {n : Nat} {e : Nat → Bool} : (List.range n).all e = true ↔ ∀ j, j < n → e j = true := by
  rw [List.all_eq_true]
  exact ⟨fun h j hj => h j (List.mem_range.mpr hj), fun h j hj => h j (List.mem_range.mp hj)⟩
theorem leq_ints (K : PySem.W.Frag) (H : Hp) (n : Nat) (ns ms : List Int) : LEq K H n (ns.map V.int) (ms.map V.int) (decide (ns = ms)) := by
  by_cases hl : ns.length = ms.length
  · refine .inr ⟨fun j => decide (ns[j]? = ms[j]?), by simpa using hl, fun j x y e1 e2 => ?_, ?_⟩
    · rw [List.getElem?_map] at e1 e2
      cases h1 : ns[j]? with
      | none => rw [h1] at e1; cases e1
      | some a =>
        cases h2 : ms[j]? with
        | none => rw [h2] at e2; cases e2
        | some b =>
          rw [h1] at e1; rw [h2] at e2
          cases e1; cases e2
          have q : EqD K H n (V.int a) (V.int b) (eqV (V.int a) (V.int b)) := .flat rfl rfl
          have e : eqV (V.int a) (V.int b) = decide (some a = some b) := by
            show (a == b) = _
            by_cases z : a = b
            · subst z; simp
            · rw [decide_eq_false (fun w => z (Option.some.inj w))]; simpa using z
          rw [e] at q
          show EqD K H n _ _ (decide (ns[j]? = ms[j]?))
          rw [h1, h2]
          exact q
    · rw [Bool.eq_iff_iff, decide_eq_true_iff, all_range_iff]
      constructor
      · intro h j _; subst h; simp
      · intro h
        refine List.ext_getElem? fun j => ?_
        by_cases hj : j < ns.length
        · exact of_decide_eq_true (h j (by simpa using hj))
        · rw [List.getElem?_eq_none (by omega), List.getElem?_eq_none (by omega)]
  · refine .inl ⟨by simpa using hl, ?_⟩
    exact decide_eq_false fun h => hl (by rw [h])
theorem call_range1 : CallR X (.type "range") (fun xs H Q => ∃ j, xs = [.int j] ∧ ∀ p, H p = none → Q (.ref p) (upd H p (.rng 0 j))) := by
  intro pins s σ H xs us Q I r h
  obtain ⟨j, rfl, q⟩ := h
  obtain ⟨u, rfl, ⟨t, rfl⟩⟩ := vals1 r
  refine call_range_1 ⟨.ref s.heap.objs.size, _, I.laid (fun b o e => Heap.get?_push_of_some _ e) (Nat.le_refl _) ?_, rfl, q _ (I.hok.fresh (Nat.le_refl _))⟩
  exact ⟨_, _, _, Heap.get?_push_size _ rfl⟩
def upTo (lo : Int) (n : Nat) : List Int := (List.range n).map fun (i : Nat) => lo + (i : Int)
theorem vals_items {lo : Int} {n : Nat} {acc : Array Value} (h : ItemsOf (fun i v => ∃ t, v = Value.int (lo + (i : Int) * 1) t) acc n) : Vals ((upTo lo n).map V.int) acc.toList := by
  obtain ⟨hs, hv⟩ := h
  have key : ∀ (l : List Value) (k : Nat), (∀ (j : Nat) v, l[j]? = some v → ∃ t, v = Value.int (lo + ((k + j : Nat) : Int)) t) → Vals (((List.range l.length).map fun (i : Nat) => lo + ((k + i : Nat) : Int)).map V.int) l := by
    intro l
    induction l with
    | nil => intro k _; exact .nil
    | cons v r ih =>
      intro k hk
      have e : (((List.range r.length).map Nat.succ).map fun (i : Nat) => lo + ((k + i : Nat) : Int)) = (List.range r.length).map fun (i : Nat) => lo + ((k + 1 + i : Nat) : Int) := by
        rw [List.map_map]
        refine List.map_congr_left fun i _ => ?_
        show lo + ((k + (i + 1) : Nat) : Int) = _
        congr 2; omega
      rw [List.length_cons, List.range_succ_eq_map, List.map_cons, List.map_cons, e]
      refine .cons ?_ ?_
      · obtain ⟨t, e⟩ := hk 0 v rfl
        exact ⟨t, e⟩
      · have := ih (k + 1) fun j w e => by
          obtain ⟨t, z⟩ := hk (j + 1) w (by simpa using e)
          exact ⟨t, by rw [z]; congr 2; omega⟩
        exact this
  have := key acc.toList 0 fun j v e => by
    obtain ⟨t, z⟩ := hv j v (by simpa using e)
    exact ⟨t, by rw [z, Int.mul_one]; simp⟩
  have hl : acc.toList.length = n := by simpa using hs
  rw [hl] at this
  have e : ((List.range n).map fun (i : Nat) => lo + ((0 + i : Nat) : Int)) = upTo lo n := by
    unfold upTo
    refine List.map_congr_left fun i _ => ?_
    simp
  rw [e] at this
  exact this
theorem call_list_rng (hc : X.calm = true) : CallR X (.type "list") (fun xs H Q => ∃ p lo hi, xs = [.ref p] ∧ H p = some (.rng lo hi) ∧ (-(2 ^ 62) ≤ lo ∧ lo < 2 ^ 62 ∧ -(2 ^ 62) ≤ hi ∧ hi < 2 ^ 62) ∧ (hi - lo).toNat ≤ 2 ^ 20 ∧
    ∀ l, H l = none → Q (.ref l) (upd H l (.lst ((upTo lo (hi - lo).toNat).map V.int)))) := by
  intro pins s σ H xs us Q I r h
  obtain ⟨p, lo, hi, rfl, hp, ⟨b1, b2, b3, b4⟩, hz, q⟩ := h
  obtain ⟨u, rfl, rx⟩ := vals1 r
  cases rx
  obtain ⟨t, u, v, ho⟩ := I.hok p _ hp
  refine call_list_range (n := (hi - lo).toNat) (I.ok.hd hc) (r := p) ho (small_one b1 b2 b3 b4) (by rw [rangeSize_one]; split <;> omega) (Nat.le_trans hz (by decide)) fun h' tk acc' c' hk e it => ?_
  have rv := vals_items it
  refine ⟨.ref s.heap.objs.size, _, I.laid hk (Nat.le_refl _) (show ObjOk X.prog X.w _ h' _ (.lst ((upTo lo (hi - lo).toNat).map V.int)) from ⟨?_, acc'.toList, c', rv, by rw [e]⟩), rfl, q _ (I.hok.fresh (Nat.le_refl _))⟩
  unfold upTo
  rw [List.length_map, List.length_map, List.length_range]
  exact Nat.le_trans hz (by rw [sizeLine_eq]; decide)
theorem call_sumI (hc : X.calm = true) : CallR X (.builtin "sum") (fun xs H Q => ∃ (p : Addr) (ns : List Int), xs = [.ref p] ∧ SqL X.K H p (ns.map V.int) ∧ Q (.int ns.sum) H) := by
  intro pins s σ H xs us Q I r h
  obtain ⟨p, ns, rfl, hp, q⟩ := h
  obtain ⟨u, rfl, rx⟩ := vals1 r
  cases rx
  obtain ⟨its, rv, pl, _⟩ := I.list hp
  have ia := intsAre_of rv
  obtain ⟨xs, hxs⟩ := ia.allInts.items
  have hn := ia.numsOf
  have hxl : its = (intItems xs).toList := by rw [← hxs]
  rw [hxl, nums_intItems] at hn
  have hl := pl.isList
  rw [hxs] at hl
  refine sum_intListG (I.ok.hd hc) hl fun h' tk t' hk => ⟨.int ns.sum, H, I.kept hk, ?_, q⟩
  rw [preSum_eq, List.take_of_length_le (by simp), hn]
  exact ⟨_, rfl⟩
end
end L2
namespace L2
open PySem PySem.Spec PyProof.Rows
section
variable {X : Cx}
theorem call_isi : CallR X (.builtin "isinstance") (fun xs H Q => ∃ x n t b, xs = [x, .ty n] ∧ TyOf X.K H x t ∧ PySem.W.kitOne X.K t (.type n) = some b ∧ Q (.bl b) H) := by
  intro pins s σ H xs us Q I r h
  obtain ⟨x, n, t, b, rfl, ty, e, q⟩ := h
  obtain ⟨u, w', rfl, rx, ry⟩ := vals2 r
  cases (show w' = Value.type n from ry)
  exact isinst_ok I rx ty e fun tk => ⟨.bl b, H, I.tok tk, rfl, q⟩
theorem kit_same (K : PySem.W.Frag) (n : String) : PySem.W.kitOne K (.type n) (.type n) = some true := by
  unfold PySem.W.kitOne
  rw [if_pos (beq_self_eq_true _)]
theorem kit_int_bool (K : PySem.W.Frag) : PySem.W.kitOne K (.type "int") (.type "bool") = some false := by
  unfold PySem.W.kitOne PySem.W.kitCls
  rw [if_neg (by decide +kernel)]
  show (if PySem.W.kitMeta "bool" = true then (fastBuiltinMro "int").map (·.contains (Value.type "bool")) else none) = some false
  rw [if_pos (by decide +kernel)]
  decide +kernel
theorem kit_bool_int (K : PySem.W.Frag) : PySem.W.kitOne K (.type "bool") (.type "int") = some true := by
  unfold PySem.W.kitOne PySem.W.kitCls
  rw [if_neg (by decide +kernel)]
  show (if PySem.W.kitMeta "int" = true then (fastBuiltinMro "bool").map (·.contains (Value.type "int")) else none) = some true
  rw [if_pos (by decide +kernel)]
  decide +kernel
theorem boot_int : bootBuiltins "int" = some (.type "int") := by decide +kernel
theorem boot_bool : bootBuiltins "bool" = some (.type "bool") := by decide +kernel
theorem boot_listT : bootBuiltins "list" = some (.type "list") := by decide +kernel
theorem boot_rangeT : bootBuiltins "range" = some (.type "range") := by decide +kernel
theorem boot_isi : bootBuiltins "isinstance" = some (.builtin "isinstance") := by decide +kernel
theorem boot_sumB : bootBuiltins "sum" = some (.builtin "sum") := by decide +kernel
theorem boot_minB : bootBuiltins "min" = some (.builtin "min") := by decide +kernel
theorem boot_maxB : bootBuiltins "max" = some (.builtin "max") := by decide +kernel
end
def KeepBut (a : Addr) (H H' : Hp) : Prop := ∀ b o, H b = some o → b ≠ a → H' b = some o
theorem KeepBut.refl (a : Addr) (H : Hp) : KeepBut a H H := fun _ _ h _ => h
theorem KeepBut.trans {a : Addr} {H H1 H2 : Hp} (x : KeepBut a H H1) (y : KeepBut a H1 H2) : KeepBut a H H2 := fun b o h n => y b o (x b o h n) n
theorem Same.but {H H' : Hp} (a : Addr) (s : Same H H') : KeepBut a H H' := fun b o h _ => s b o h
theorem Same.upd_new {H : Hp} {p : Addr} {o : HO} (h : H p = none) : Same H (upd H p o) := fun b u e => by rw [upd_ne (ne_of_none e h)]; exact e
theorem KeepBut.upd {H : Hp} {a : Addr} {o : HO} : KeepBut a H (upd H a o) := fun b u e n => by rw [upd_ne n]; exact e
theorem Same.upd_r {H H' : Hp} {p : Addr} {o : HO} (s : Same H H') (h : H p = none) : Same H (L2.upd H' p o) := fun b u e => by rw [upd_ne (ne_of_none e h)]; exact s b u e
theorem KeepBut.upd_r {a : Addr} {H H' : Hp} {p : Addr} {o : HO} (k : KeepBut a H H') (h : H p = none) : KeepBut a H (L2.upd H' p o) := fun b u e n => by rw [upd_ne (ne_of_none e h)]; exact k b u e n
theorem KeepBut.upd_a {a : Addr} {H H' : Hp} {o : HO} (k : KeepBut a H H') : KeepBut a H (L2.upd H' a o) := fun b u e n => by rw [upd_ne n]; exact k b u e n
end L2
namespace L2
open PySem PySem.Spec PyProof.Rows
def Cal (P : Program) (w : World) (K : PySem.W.Frag) (mg : Str → Option Value) (base : Heap) (x : Str) (k : Nat) (ps : List Str) (sp : Sp) : Prop :=
  ∃ (f : Addr) (fd : FuncData), mg x = some (.ref f) ∧ PySem.W.keepIn K (.ref f) = true ∧ Binds K fd ps [] ∧ FnOk P w K mg base CX0 k f fd ps sp
section
variable {X : Cx} {x : Str} {p pos : Pos} {e : Expr} {es : List Expr} {t : TA} {k : Nat} {ps : List Str} {sp : Sp}
theorem pe_cal (c : Cal X.prog X.w X.K X.mg X.base x k ps sp) (hr : Room k X.A) (ha : PA X (e :: es) t) (hg : Gl X x := by rfl) (hdb : (x == ("__debug__" : Str)) = false := by decide)
    (he : starEach (e :: es) X.env = (false, eval e X.env) :: starEach es X.env := by rfl) (hpl : (backTo pos (starEach es X.env)).any (·.1) = false := by rfl) :
    PE X (.Call (.Name x p) (e :: es) [] pos) (tCall sp [] E0 t) := by
  obtain ⟨f, fd, h1, h2, h3, h4⟩ := c
  exact pe_call h4 hr hg h1 h2 h3 .nil pass0 ha hdb he hpl
theorem pe_isi {a b : Expr} {ta : TA} (hm : X.mg "isinstance" = none) (ha : PA X [a, b] ta) (hg : Gl X "isinstance" := by rfl)
    (he : starEach [a, b] X.env = (false, eval a X.env) :: starEach [b] X.env := by rfl) (hpl : (backTo pos (starEach [b] X.env)).any (·.1) = false := by rfl) :
    PE X (.Call (.Name "isinstance" p) [a, b] [] pos) (tCB (fun xs H Q => ∃ x n t b, xs = [x, .ty n] ∧ TyOf X.K H x t ∧ PySem.W.kitOne X.K t (.type n) = some b ∧ Q (.bl b) H) ta) :=
  pe_callB call_isi hg hm boot_isi ha (by decide) (by decide) he hpl
theorem pe_tyInt (hm : X.mg "int" = none) (hg : Gl X "int" := by rfl) : PE X (.Name "int" p) (tC (.ty "int")) := pe_bltn hg hm boot_int rfl
theorem pe_tyBool (hm : X.mg "bool" = none) (hg : Gl X "bool" := by rfl) : PE X (.Name "bool" p) (tC (.ty "bool")) := pe_bltn hg hm boot_bool rfl
theorem pe_tyList (hm : X.mg "list" = none) (hg : Gl X "list" := by rfl) : PE X (.Name "list" p) (tC (.ty "list")) := pe_bltn hg hm boot_listT rfl
theorem pe_lenL (hm : X.mg "len" = none) (ha : PA X [e] t) (hg : Gl X "len" := by rfl)
    (he : starEach [e] X.env = (false, eval e X.env) :: starEach [] X.env := by rfl) : PE X (.Call (.Name "len" p) [e] [] pos) (tCB (fun xs H Q => ∃ p ys, xs = [.ref p] ∧ (SqL X.K H p ys ∨ SqT X.K H p ys) ∧ Q (.int ys.length) H) t) :=
  pe_callB call_len_seq hg hm PySem.boot_len ha (by decide) (by decide) he rfl
end
end L2
namespace Mth
structure IsT (p : List Int) : Prop where
  nd : p.Nodup
  lo : ∀ x ∈ p, 0 ≤ x
  hi : ∀ x ∈ p, x < p.length
theorem mem_upTo {n : Nat} {x : Int} : x ∈ L2.upTo 0 n ↔ 0 ≤ x ∧ x < n := by
  unfold L2.upTo
  rw [List.mem_map]
  constructor
  · rintro ⟨i, hi, rfl⟩
    have := List.mem_range.mp hi
    omega
  · rintro ⟨h1, h2⟩
    exact ⟨x.toNat, List.mem_range.mpr (by omega), by omega⟩
theorem length_upTo (lo : Int) (n : Nat) : (L2.upTo lo n).length = n := by
  unfold L2.upTo
  rw [List.length_map, List.length_range]
theorem nodup_upTo (n : Nat) : (L2.upTo 0 n).Nodup := by
  unfold L2.upTo
  rw [List.nodup_iff_pairwise_ne, List.pairwise_map]
  exact List.Pairwise.imp (fun {a b} (h : a < b) => by omega) List.pairwise_lt_range
theorem isT_of_perm {p : List Int} {n : Nat} (h : p.Perm (L2.upTo 0 n)) : IsT p ∧ p.length = n := by
  have hl : p.length = n := by rw [h.length_eq, length_upTo]
  refine ⟨⟨h.nodup_iff.mpr (nodup_upTo n), fun x hx => (mem_upTo.mp (h.mem_iff.mp hx)).1, fun x hx => ?_⟩, hl⟩
  have := (mem_upTo.mp (h.mem_iff.mp hx)).2
  omega
theorem perm_of_nodup : ∀ (n : Nat) (p : List Nat), p.Nodup → (∀ x ∈ p, x < n) → p.length = n → p.Perm (List.range n) := by
  intro n
  induction n with
  | zero => intro p _ _ hl; rw [List.eq_nil_of_length_eq_zero hl]; exact List.Perm.refl _
  | succ n ih =>
    intro p nd hb hl
    by_cases hn : n ∈ p
    · obtain ⟨s, t, rfl⟩ := List.append_of_mem hn
      have pm : (s ++ n :: t).Perm (n :: (s ++ t)) := List.perm_middle
      have nd' := pm.nodup_iff.mp nd
      obtain ⟨h1, h2⟩ := List.nodup_cons.mp nd'
      have := ih (s ++ t) h2 (fun x hx => by
        have hx' : x < n + 1 := hb x (pm.mem_iff.mpr (List.mem_cons_of_mem _ hx))
        have : x ≠ n := fun e => h1 (e ▸ hx)
        omega) (by rw [List.length_append, List.length_cons] at hl; rw [List.length_append]; omega)
      refine pm.trans ?_
      rw [List.range_succ]
      exact (List.Perm.cons n this).trans (List.perm_append_comm (l₁ := [n]))
    · exfalso
      have hlt : ∀ x ∈ p, x < n := fun x hx => by
        have h1 := hb x hx
        have : x ≠ n := fun e => hn (e ▸ hx)
        omega
      match p, nd, hl, hlt with
      | [], _, hl, _ => simp at hl
      | y :: q, nd, hl, hlt =>
        obtain ⟨h1, h2⟩ := List.nodup_cons.mp nd
        have hq := ih q h2 (fun x hx => hlt x (List.mem_cons_of_mem _ hx)) (by simpa using hl)
        have hy := hlt y List.mem_cons_self
        exact h1 (hq.mem_iff.mpr (List.mem_range.mpr hy))
theorem IsT.perm {p : List Int} (h : IsT p) : p.Perm (L2.upTo 0 p.length) := by
  have e : (p.map Int.toNat).map (fun (i : Nat) => (0 : Int) + (i : Int)) = p := by
    rw [List.map_map]
    conv => rhs; rw [← List.map_id p]
    refine List.map_congr_left fun x hx => ?_
    have := h.lo x hx
    show (0 : Int) + ((x.toNat : Nat) : Int) = x
    omega
  have nd : (p.map Int.toNat).Nodup := by
    rw [List.nodup_iff_pairwise_ne, List.pairwise_map]
    have := List.nodup_iff_pairwise_ne.mp h.nd
    refine List.Pairwise.imp_of_mem (fun {a b} ha hb hne z => hne ?_) this
    have h1 := h.lo a ha
    have h2 := h.lo b hb
    omega
  have := perm_of_nodup p.length (p.map Int.toNat) nd (fun x hx => by
    obtain ⟨y, hy, rfl⟩ := List.mem_map.mp hx
    have h1 := h.lo y hy
    have h2 := h.hi y hy
    omega) (by rw [List.length_map])
  have q := this.map (fun (i : Nat) => (0 : Int) + (i : Int))
  rw [e] at q
  exact q
def at0 (fs : List Int) (u : Int) : Option Int := fs[u.toNat]?
theorem map_upTo_at0 (fs : List Int) : (L2.upTo 0 fs.length).map (at0 fs) = fs.map some := by
  unfold L2.upTo
  rw [List.map_map]
  refine List.ext_getElem? fun j => ?_
  rw [List.getElem?_map, List.getElem?_map]
  by_cases hj : j < fs.length
  · rw [List.getElem?_range hj, List.getElem?_eq_getElem hj]
    show some (fs[((0 : Int) + (j : Int)).toNat]?) = _
    have : ((0 : Int) + (j : Int)).toNat = j := by omega
    rw [this, List.getElem?_eq_getElem hj]
    rfl
  · rw [List.getElem?_eq_none (by rw [List.length_range]; omega), List.getElem?_eq_none (by omega)]
    rfl
theorem perm_some {a b : List Int} (h : (a.map some).Perm (b.map some)) : a.Perm b := by
  have := h.map (fun o : Option Int => o.getD 0)
  rw [List.map_map, List.map_map] at this
  have e : ∀ l : List Int, l.map ((fun o : Option Int => o.getD 0) ∘ some) = l := fun l => by
    conv => rhs; rw [← List.map_id l]
    rfl
  rw [e, e] at this
  exact this
theorem perm_along {fs ts qs : List Int} (ht : IsT ts) (hl : fs.length = ts.length) (h : ts.map (at0 fs) = qs.map some) : fs.Perm qs := by
  refine perm_some ?_
  have h1 := ht.perm.map (at0 fs)
  rw [← hl, map_upTo_at0, h] at h1
  exact h1.symm
end Mth
namespace L2
open PySem PySem.Spec PyProof.Rows
theorem CompOk.of {X : Cx} {N : List Str} {nl : Nat} {fr : List Nat} {scope : Scope} (h1 : (scope.names.all fun y => y.2 != .cell) = true := by rfl) (h2 : scope.kind = .function := by rfl)
    (h3 : (scope.names.all fun y => y.2 != .local || scope.names.lookup y.1 == some .local) = true := by rfl)
    (h4 : (scope.names.all fun p => p.2 != .free || (X.env.kindOf p.1 == some .cell || X.env.kindOf p.1 == some .free)) = true := by rfl) (h5 : N.length = nl + fr.length := by rfl)
    (h6 : ((List.range fr.length).all fun k => match fr[k]? with
      | some j => (match N[nl + k]?, X.N[j]? with
        | some y, some z => y == z && (X.env.scope.names.lookup y == some .local || X.env.scope.names.lookup y == some .cell || X.env.scope.names.lookup y == some .free) && scope.names.lookup y == some .free
        | _, _ => false)
      | none => false) = true := by rfl) : CompOk X N nl fr scope where
  cell := fun y hy e => by
    have := List.all_eq_true.mp h1 y hy
    rw [e] at this; exact absurd this (by decide)
  kind := h2
  names := fun y hy e => by
    have := List.all_eq_true.mp h3 y hy
    rw [e] at this
    have q : (scope.names.lookup y.1 == some NameKind.local) = true := by simpa using this
    exact eq_of_beq q
  free := fun p hp e => by
    have := List.all_eq_true.mp h4 p hp
    rw [e] at this
    have q : (X.env.kindOf p.1 == some NameKind.cell || X.env.kindOf p.1 == some NameKind.free) = true := by simpa using this
    rcases Bool.or_eq_true _ _ |>.mp q with z | z
    · exact .inl (eq_of_beq z)
    · exact .inr (eq_of_beq z)
  len := h5
  fr := fun k j e => by
    have hk : k < fr.length := (List.getElem?_eq_some_iff.mp e).1
    have := List.all_eq_true.mp h6 k (List.mem_range.mpr hk)
    rw [e] at this
    dsimp only at this
    cases e1 : N[nl + k]? with
    | none => rw [e1] at this; cases this
    | some y =>
      cases e2 : X.N[j]? with
      | none => rw [e1, e2] at this; cases this
      | some z =>
        rw [e1, e2] at this
        dsimp only at this
        rw [Bool.and_eq_true, Bool.and_eq_true] at this
        obtain ⟨⟨q1, q2⟩, q3⟩ := this
        have hyz : y = z := eq_of_beq q1
        subst hyz
        refine ⟨y, rfl, rfl, ?_, eq_of_beq q3⟩
        rw [Bool.or_eq_true, Bool.or_eq_true] at q2
        rcases q2 with (q | q) | q
        · exact .inl (eq_of_beq q)
        · exact .inr (.inl (eq_of_beq q))
        · exact .inr (.inr (eq_of_beq q))
def seenK (l : List Int) : List (Key × V) := l.map fun n => ((Sum.inl n : Key), V.bl true)
theorem seenK_in {l : List Int} {n : Int} (h : n ∈ l) : valV (seenK l) (Sum.inl n : Key) = some (.bl true) := by
  induction l with
  | nil => simp at h
  | cons a r ih =>
    show valV (((Sum.inl a : Key), V.bl true) :: seenK r) _ = _
    by_cases e : a = n
    · rw [valV_pos (by rw [e])]
    · rw [valV_neg (fun z => e (Sum.inl.inj z))]
      exact ih ((List.mem_cons.mp h).resolve_left fun z => e z.symm)
theorem seenK_no {l : List Int} {n : Int} (h : n ∉ l) : valV (seenK l) (Sum.inl n : Key) = none := by
  induction l with
  | nil => rfl
  | cons a r ih =>
    show valV (((Sum.inl a : Key), V.bl true) :: seenK r) _ = _
    rw [valV_neg (fun z => h (by rw [Sum.inl.inj z]; exact List.mem_cons_self))]
    exact ih fun z => h (List.mem_cons_of_mem _ z)
theorem seenK_put {l : List Int} {n : Int} (h : n ∉ l) : putK (seenK l) (Sum.inl n : Key) (V.bl true) = seenK (l ++ [n]) := by
  rw [putK_new _ (seenK_no h)]
  unfold seenK
  rw [List.map_append]
  rfl
theorem getElem_int {ns : List Int} {i : Nat} {y : V} (h : (ns.map V.int)[i]? = some y) : ∃ z, ns[i]? = some z ∧ y = .int z := by
  rw [List.getElem?_map] at h
  cases e : ns[i]? with
  | none => rw [e] at h; cases h
  | some z => rw [e] at h; exact ⟨z, rfl, (Option.some.inj h).symm⟩
theorem take_succ_of {α : Type} {l : List α} {i : Nat} {x : α} (h : l[i]? = some x) : l.take (i + 1) = l.take i ++ [x] := by
  rw [List.take_add_one, h]
  rfl
end L2
namespace Mth
theorem atI_map {p : List Int} {i : Int} (h0 : 0 ≤ i) (h1 : i < p.length) : L2.atI (p.map L2.V.int) i = some (.int (p.getD i.toNat 0)) := by
  obtain ⟨j, rfl⟩ := Int.eq_ofNat_of_zero_le h0
  refine L2.atI_nat ?_
  have hj : j < p.length := by omega
  rw [List.getElem?_map, List.getElem?_eq_getElem hj]
  show some (L2.V.int p[j]) = _
  rw [Int.toNat_natCast]
  rw [List.getD_eq_getElem?_getD, List.getElem?_eq_getElem hj]
  rfl
end Mth
namespace L2
open PySem PySem.Spec PyProof.Rows
theorem leq_nil (K : PySem.W.Frag) (H : Hp) (n : Nat) (xs : List V) : LEq K H n xs [] xs.isEmpty := by
  cases xs with
  | nil => exact .inr ⟨fun _ => true, rfl, fun j x y e => by simp at e, rfl⟩
  | cons x r => exact .inl ⟨by simp, rfl⟩
section
variable {X : Cx} {p pos apos : Pos} {e o : Expr} {es : List Expr} {t : TA} {to : TE}
theorem pe_append (ho : PE X o to) (ha : PA X [e] t)
    (hbase : attributeBase o "append" X.env (eval o X.env) = eval o X.env := by rfl)
    (hfew : ((backTo pos (starEach [e] X.env)).all (fun x => !x.1) && (backToKw pos (keywordEach [] X.env)).all (fun x => x.1.isSome)
      && decide ([e].length + ([] : List Keyword).length + (if ([] : List Keyword).isEmpty then 0 else 1) < 30)) = true := by rfl)
    (hline : (apos.endLine == pos.line) = true := by rfl) (hs : starEach [e] X.env = (false, eval e X.env) :: starEach [] X.env := by rfl) (hplain : (backTo pos (starEach [] X.env)).any (·.1) = false := by rfl) :
    PE X (.Call (.Attribute o "append" apos) [e] [] pos) (tBM X.K "list" rAppend to t) :=
  pe_bm PySem.F.plainAttrs_list PySem.F.slot_list_append PySem.F.type_list_append mt_append ho ha hbase hfew hline hs hplain
theorem pe_listOf (hm : X.mg "list" = none) (ha : PA X [e] t) (hg : Gl X "list" := by rfl) (he : starEach [e] X.env = (false, eval e X.env) :: starEach [] X.env := by rfl) :
    PE X (.Call (.Name "list" p) [e] [] pos) (tCB (fun xs H Q => ∃ p ys, xs = [.ref p] ∧ (SqL X.K H p ys ∨ SqT X.K H p ys) ∧ ∀ l, H l = none → Q (.ref l) (upd H l (.lst ys))) t) :=
  pe_callTy call_list_of hg hm boot_listT ha (by decide) (by decide) he rfl
theorem pe_listRng {p2 pos2 : Pos} (hc : X.calm = true) (hm : X.mg "list" = none) (hm2 : X.mg "range" = none) (ha : PA X [e] t) (hg : Gl X "list" := by rfl) (hg2 : Gl X "range" := by rfl) (he : starEach [e] X.env = (false, eval e X.env) :: starEach [] X.env := by rfl)
    (he2 : starEach [.Call (.Name "range" p2) [e] [] pos2] X.env = (false, eval (.Call (.Name "range" p2) [e] [] pos2) X.env) :: starEach [] X.env := by rfl) :
    PE X (.Call (.Name "list" p) [.Call (.Name "range" p2) [e] [] pos2] [] pos) (tCB (fun xs H Q => ∃ p lo hi, xs = [.ref p] ∧ H p = some (.rng lo hi) ∧ (-(2 ^ 62) ≤ lo ∧ lo < 2 ^ 62 ∧ -(2 ^ 62) ≤ hi ∧ hi < 2 ^ 62) ∧ (hi - lo).toNat ≤ 2 ^ 20 ∧
    ∀ l, H l = none → Q (.ref l) (upd H l (.lst ((upTo lo (hi - lo).toNat).map V.int)))) (tCons (tCB (fun xs H Q => ∃ j, xs = [.int j] ∧ ∀ p, H p = none → Q (.ref p) (upd H p (.rng 0 j))) t) tNil)) :=
  pe_callTy (call_list_rng hc) hg hm boot_listT (pa_cons (pe_callTy call_range1 hg2 hm2 boot_rangeT ha (by decide) (by decide) he rfl) pa_nil he2) (by decide) (by decide) he2 rfl
theorem pe_sum (hc : X.calm = true) (hm : X.mg "sum" = none) (ha : PA X [e] t) (hg : Gl X "sum" := by rfl) (he : starEach [e] X.env = (false, eval e X.env) :: starEach [] X.env := by rfl) :
    PE X (.Call (.Name "sum" p) [e] [] pos) (tCB (fun xs H Q => ∃ (p : Addr) (ns : List Int), xs = [.ref p] ∧ SqL X.K H p (ns.map V.int) ∧ Q (.int ns.sum) H) t) :=
  pe_callB (call_sumI hc) hg hm boot_sumB ha (by decide) (by decide) he rfl
theorem pe_min2 {a b : Expr} (hc : X.calm = true) (hm : X.mg "min" = none) (ha : PA X [a, b] t) (hg : Gl X "min" := by rfl) (he : starEach [a, b] X.env = (false, eval a X.env) :: starEach [b] X.env := by rfl) (hpl : (backTo pos (starEach [b] X.env)).any (·.1) = false := by rfl) :
    PE X (.Call (.Name "min" p) [a, b] [] pos) (tCB (fun xs H Q => ∃ i j, xs = [.int i, .int j] ∧ Q (.int (if j < i then j else i)) H) t) :=
  pe_callB (call_min2 hc) hg hm boot_minB ha (by decide) (by decide) he hpl
theorem pe_max2 {a b : Expr} (hc : X.calm = true) (hm : X.mg "max" = none) (ha : PA X [a, b] t) (hg : Gl X "max" := by rfl) (he : starEach [a, b] X.env = (false, eval a X.env) :: starEach [b] X.env := by rfl) (hpl : (backTo pos (starEach [b] X.env)).any (·.1) = false := by rfl) :
    PE X (.Call (.Name "max" p) [a, b] [] pos) (tCB (fun xs H Q => ∃ i j, xs = [.int i, .int j] ∧ Q (.int (if j > i then j else i)) H) t) :=
  pe_callB (call_max2 hc) hg hm boot_maxB ha (by decide) (by decide) he hpl
end
end L2
namespace Mth
theorem perm_erase {α : Type} : ∀ {l : List α} {k : Nat} {y : α}, l[k]? = some y → (y :: l.eraseIdx k).Perm l
  | [], k, y, h => by simp at h
  | a :: r, 0, y, h => by
    simp at h
    subst h
    exact List.Perm.refl _
  | a :: r, k + 1, y, h => by
    have h' : r[k]? = some y := by simpa using h
    have ih := perm_erase h'
    show (y :: a :: r.eraseIdx k).Perm (a :: r)
    exact (List.Perm.swap a y _).trans (ih.cons a)
end Mth
namespace L2
open PySem PySem.Spec PyProof.Rows
def tLenL (K : PySem.W.Frag) (ta : TA) : TE := tCB (fun xs H Q => ∃ p ys, xs = [.ref p] ∧ (SqL K H p ys ∨ SqT K H p ys) ∧ Q (.int ys.length) H) ta
section
variable {X : Cx} {p pos : Pos} {e : Expr} {t : TA}
theorem pe_lenLK (K : PySem.W.Frag) (hm : X.mg "len" = none) (ha : PA X [e] t) (hK : X.K = K := by rfl) (hg : Gl X "len" := by rfl)
    (he : starEach [e] X.env = (false, eval e X.env) :: starEach [] X.env := by rfl) : PE X (.Call (.Name "len" p) [e] [] pos) (tLenL K t) := by
  subst hK
  exact pe_lenL hm ha hg he
end
theorem rep_zero (n : Nat) : (List.replicate n [V.int 0]).flatten = (List.replicate n (0 : Int)).map V.int := by
  induction n with
  | zero => rfl
  | succ n ih => rw [List.replicate_succ, List.flatten_cons, ih, List.replicate_succ, List.map_cons]; rfl
def unInt : V → Int
  | .int i => i
  | _ => 0
theorem perm_ints {ys : List V} {xs : List Int} (h : ys.Perm (xs.map V.int)) : ∃ ps : List Int, ys = ps.map V.int ∧ ps.Perm xs := by
  refine ⟨ys.map unInt, ?_, ?_⟩
  · rw [List.map_map]
    conv => lhs; rw [← List.map_id ys]
    refine List.map_congr_left fun y hy => ?_
    obtain ⟨i, _, rfl⟩ := List.mem_map.mp (h.mem_iff.mp hy)
    rfl
  · have := h.map unInt
    rw [List.map_map] at this
    have e : xs.map (unInt ∘ V.int) = xs := by
      conv => rhs; rw [← List.map_id xs]
      rfl
    rw [e] at this
    exact this
end L2
namespace Mth
theorem at0_ne {fs : List Int} {u v x : Int} (hu : 0 ≤ u) (hv : 0 ≤ v) (h : u ≠ v) : at0 (fs.set v.toNat x) u = at0 fs u := by
  unfold at0
  rw [List.getElem?_set_ne (by omega)]
theorem at0_same {fs : List Int} {v x : Int} (h : v.toNat < fs.length) : at0 (fs.set v.toNat x) v = some x := by
  unfold at0
  rw [List.getElem?_set_self h]
theorem getD_eq {ts : List Int} {i : Nat} (h : i < ts.length) : ts.getD i 0 = ts[i] := by
  rw [List.getD_eq_getElem?_getD, List.getElem?_eq_getElem h]
  rfl
theorem nodup_getD {ts : List Int} (nd : ts.Nodup) {i j : Nat} (hi : i < ts.length) (hj : j < ts.length) (h : i ≠ j) : ts.getD i 0 ≠ ts.getD j 0 := by
  rw [getD_eq hi, getD_eq hj]
  rcases Nat.lt_or_gt_of_ne h with z | z
  · exact List.pairwise_iff_getElem.mp (List.nodup_iff_pairwise_ne.mp nd) i j hi hj z
  · exact fun e => List.pairwise_iff_getElem.mp (List.nodup_iff_pairwise_ne.mp nd) j i hj hi z e.symm
theorem seg_done {ts fs qs : List Int} {k L : Nat} (hL : 1 ≤ L) (hb : k + L ≤ ts.length) (h1 : (ts.take k).map (at0 fs) = qs.map some) (hq : qs.Perm (ts.take k))
    (h2 : ∀ j, j < L → at0 fs (ts.getD (k + j) 0) = some (ts.getD (k + (j + 1) % L) 0)) : ∃ qs' : List Int, qs'.Perm (ts.take (k + L)) ∧ (ts.take (k + L)).map (at0 fs) = qs'.map some := by
  have hT : ((ts.drop k).take L).length = L := by rw [List.length_take, List.length_drop]; omega
  have hTj : ∀ j, j < L → ((ts.drop k).take L)[j]? = some (ts.getD (k + j) 0) := fun j hj => by
    rw [List.getElem?_take_of_lt hj, List.getElem?_drop, getD_eq (by omega), List.getElem?_eq_getElem (by omega)]
  have e : ((ts.drop k).take L).map (at0 fs) = (((ts.drop k).take L).drop 1 ++ ((ts.drop k).take L).take 1).map some := by
    refine List.ext_getElem? fun j => ?_
    by_cases hj : j < L
    · rw [List.getElem?_map, hTj j hj, List.getElem?_map]
      show some (at0 fs (ts.getD (k + j) 0)) = _
      rw [h2 j hj]
      by_cases hj1 : j + 1 < L
      · rw [List.getElem?_append_left (by rw [List.length_drop, hT]; omega), List.getElem?_drop, Nat.add_comm 1 j, hTj (j + 1) hj1, Nat.mod_eq_of_lt hj1]
        rfl
      · have hjL : j + 1 = L := by omega
        rw [List.getElem?_append_right (by rw [List.length_drop, hT]; omega), List.length_drop, hT, hjL, Nat.mod_self]
        have : j - (L - 1) = 0 := by omega
        rw [this, List.getElem?_take_of_lt (by omega), hTj 0 (by omega)]
        rfl
    · rw [List.getElem?_eq_none (by rw [List.length_map, hT]; omega), List.getElem?_eq_none]
      rw [List.length_map, List.length_append, List.length_drop, List.length_take (i := 1), hT]
      omega
  refine ⟨qs ++ (((ts.drop k).take L).drop 1 ++ ((ts.drop k).take L).take 1), ?_, ?_⟩
  · rw [List.take_add]
    refine List.Perm.append hq ?_
    refine List.perm_append_comm.trans ?_
    rw [List.take_append_drop]
  · rw [List.take_add, List.map_append, List.map_append, h1, e]
end Mth
namespace L2
open PySem PySem.Spec PyProof.Rows
theorem KeepBut.free {a l : Addr} {H H' : Hp} (k : KeepBut a H H') (h : H' l = none) (n : l ≠ a) : H l = none := by
  cases e : H l with
  | none => rfl
  | some o => have := k l o e n; rw [h] at this; cases this
theorem Same.kb {a : Addr} {H H1 H2 : Hp} (s : Same H H1) (k : KeepBut a H1 H2) (h : H a = none) : Same H H2 := fun b o e => k b o (s b o e) (ne_of_none e h)
def RowsH (H : Hp) (as : List Addr) (rs : List (List Int)) : Prop := as.length = rs.length ∧ ∀ (j : Nat) a r, as[j]? = some a → rs[j]? = some r → H a = some (.lst (r.map V.int))
theorem map_int_inj {a b : List Int} (h : a.map V.int = b.map V.int) : a = b := (List.map_inj_right (fun x y (h : V.int x = V.int y) => V.int.inj h)).mp h
end L2
namespace Mth
theorem isT_getD {p : List Int} (t : IsT p) {j : Nat} (h : j < p.length) : 0 ≤ p.getD j 0 ∧ p.getD j 0 < p.length := by
  rw [getD_eq h]
  exact ⟨t.lo _ (List.getElem_mem h), t.hi _ (List.getElem_mem h)⟩
end Mth
namespace L2
open PySem PySem.Spec PyProof.Rows
def Ite (K : PySem.W.Frag) (a : Addr) : It :=
  ⟨fun i H => ∃ xs x, SqL K H a xs ∧ xs[i]? = some x, fun i H v H' => ∃ x t, (∀ xs, SqL K H a xs → xs[i]? = some x) ∧ H t = none ∧ v = .ref t ∧ H' = upd H t (.tup [.int (i : Int), x]), fun i H => ∃ xs, SqL K H a xs ∧ xs.length ≤ i⟩
theorem turn_enum {P : Program} {w : World} {K : PySem.W.Frag} {elts : List Expr} {x1} {pos : Pos} (a e it : Addr) (hne : e ≠ it) :
    Turn P w K (.Tuple elts x1 pos) (Ite K a) [e, it] e (fun i h => (∃ old, IsEnum h e it i old) ∧ h.IsListIter it a i) where
  mem := by simp
  obj := fun i h st b hb => by
    obtain ⟨⟨old, he⟩, ⟨o, ho, c, d⟩⟩ := st
    have hb : b = e ∨ b = it := by simpa using hb
    rcases hb with rfl | rfl
    · exact ⟨_, he, fun v z => by cases z⟩
    · exact ⟨o, ho, fun v z => by rw [d] at z; cases z⟩
  keep := fun i h h' st k => ⟨let ⟨old, he⟩ := st.1; ⟨old, k e (by simp) _ he⟩, st.2.at fun o q => k it (by simp) o q⟩
  item := by
    intro X hP hw hK hc i pins s σ H E I hf st hg
    subst hP hw hK
    obtain ⟨⟨old, he⟩, hit⟩ := st
    obtain ⟨xs, x, hq, hx⟩ := hg
    obtain ⟨its, rv, p, hz⟩ := I.list hq
    obtain ⟨u, hu, ru⟩ := rv.get hx
    obtain ⟨f0, f1, f2, f3, f4, f5⟩ := hf e (by simp)
    obtain ⟨g0, g1, g2, g3, g4, g5⟩ := hf it (by simp)
    refine wpAny_pyNext_enum_item he hit p.isList (x := u) (by simpa using hu) hne fun h' he' hit' ht' hz' hk' => ?_
    refine ⟨_, rfl, wpAny_letOwnedTupleGo_enum he' fun h2 he2 hs2 => ?_⟩
    have hs2 : Heap.SameBut e h' h2 := hs2
    have eT : e ≠ s.heap.objs.size := Nat.ne_of_lt (Heap.lt_size he)
    have ht2 : h2.get? s.heap.objs.size = some { cls := .type "tuple", data := .seq #[.int i s.toks, u] } := hs2.extBut _ _ eT.symm ht'
    have kk : ∀ b o, b ≠ e → b ≠ it → s.heap.get? b = some o → h2.get? b = some o := fun b o b1 b2 q => hs2.extBut b o b1 (hk' b o b1 b2 q)
    have hn : H s.heap.objs.size = none := I.hok.fresh (Nat.le_refl _)
    have nT : ∀ b u', H b = some u' → b ≠ s.heap.objs.size := fun b u' q => ne_of_none q hn
    have ne : ∀ b u', H b = some u' → b ≠ e ∧ b ≠ it := fun b u' q => ⟨fun z => (by rw [z, f0] at q; cases q), fun z => (by rw [z, g0] at q; cases q)⟩
    have I1 : Inv X pins σ (upd H s.heap.objs.size (.tup [.int (i : Int), x])) { s with heap := h2, gens := s.gens, drawn := s.drawn, toks := s.toks + 1 } := by
      refine I.step (ch := [e, it]) (fun b hb => ?_) (fun b o _ _ hc q _ => kk b o (fun z => hc (by simp [z])) (fun z => hc (by simp [z])) q) (fun b o _ _ hc q _ => ⟨o.slots, kk b o (fun z => hc (by simp [z])) (fun z => hc (by simp [z])) q⟩)
        (fun b o hc q n => by rw [upd_ne (Nat.ne_of_lt (Heap.lt_size q))]; exact n) (fun b o hc q => ⟨o, kk b o (fun z => hc (by simp [z])) (fun z => hc (by simp [z])) q⟩)
        (fun b ys q => by rw [upd_ne (nT b _ q)]; exact q) (fun b o ys q => by rw [upd_ne (nT b _ q)]; exact q) (fun b ps q => ⟨#[], by rw [upd_ne (nT b _ q), q]; simp⟩) (fun m hm => ?_) (fun b u' q => ?_) I.bare
      · have hb : b = e ∨ b = it := by simpa using hb
        rcases hb with rfl | rfl
        · exact ⟨f3, f1, f4, f5⟩
        · exact ⟨g3, g1, g4, g5⟩
      · obtain ⟨o, es, ep, ho, r⟩ := hm
        exact ⟨o, es, ep, kk _ o (Ne.symm f1) (Ne.symm g1) ho, r⟩
      · by_cases hb : b = s.heap.objs.size
        · subst hb
          rw [upd_same] at q
          cases q
          exact ⟨by show 2 ≤ sizeLine; decide, [.int i s.toks, u], .cons ⟨_, rfl⟩ (.cons ru .nil), ⟨_, ht2, rfl, 0, rfl⟩⟩
        · rw [upd_ne hb] at q
          refine (I.hok b u' q).stay (fun c v hc q' => ?_) (fun c q' => by rw [upd_ne (nT c _ q')]; exact q') fun c ys q' => by rw [upd_ne (nT c _ q')]; exact q'
          rcases hc with z | z
          · rw [z] at q' ⊢; exact kk b v (ne b _ q).1 (ne b _ q).2 q'
          · exact kk c v (ne c _ z).1 (ne c _ z).2 q'
    refine ⟨.ref s.heap.objs.size, _, I1, rfl, ⟨x, s.heap.objs.size, fun ys hy => by rw [I.list_inj hy hq]; exact hx, hn, rfl, rfl⟩, ⟨⟨u, ?_⟩, ?_⟩, fun b hb => ?_⟩
    · have : ((i + 1 : Nat) : Int) = (i : Int) + 1 := by push_cast; rfl
      rw [this]
      exact he2
    · exact hit'.extBut hs2.extBut hne.symm
    · have hb : b = e ∨ b = it := by simpa using hb
      rcases hb with rfl | rfl
      · rw [upd_ne eT]; exact f0
      · obtain ⟨o, ho, _⟩ := hit
        rw [upd_ne (Nat.ne_of_lt (Heap.lt_size ho))]; exact g0
  done := by
    intro X hP hw hK hc i pins s σ H E I hf st hg
    subst hP hw hK
    obtain ⟨⟨old, he⟩, hit⟩ := st
    obtain ⟨xs, hq, hx⟩ := hg
    obtain ⟨its, rv, p, hz⟩ := I.list hq
    obtain ⟨g0, g1, g2, g3, g4, g5⟩ := hf it (by simp)
    have hl := rv.length
    exact wpAny_pyNext_enum_end (I.ok.hd hc) he hit p.isList (by simp; omega) fun h' eb => ⟨rfl, I.turned (t' := s.toks) (fun b o hb q => eb b o hb q) g0 g1 g3 g4 g5⟩
  self := fun _ _ _ _ _ st h => let ⟨_, he⟩ := st.1; wpAny_pyIter_enum he h
theorem boot_enum : bootBuiltins "enumerate" = some (.type "enumerate") := by decide +kernel
section
variable {X : Cx} {l : Expr} {ta : TA} {p pos : Pos} {elts : List Expr} {x1 : Nat} {tpos : Pos}
def iEnum (K : PySem.W.Frag) (ta : TA) : TI := fun σ H R => ta σ H fun vs H1 => ∃ a, vs = [.ref a] ∧ (∃ xs, SqL K H1 a xs) ∧ R (Ite K a) H1
theorem pi_enum (hm : X.mg "enumerate" = none) (ha : PA X [l] ta) (hg : Gl X "enumerate" := by rfl) (hs : starEach [l] X.env = [(false, eval l X.env)] := by rfl) : PI X (.Tuple elts x1 tpos) (.Call (.Name "enumerate" p) [l] [] pos) (iEnum X.K ta) := by
  intro pins s σ H R I h
  refine Call_ (ld_blt I hg hm boot_enum (PyProof.Rows.callWith_type1 (thn (ha pos pins s σ H _ I h) fun us s1 ⟨vs, H1, I1, r1, q1⟩ => ?_) hs rfl))
  obtain ⟨a, e, ⟨xs, hq⟩, q⟩ := q1
  subst e
  obtain ⟨u, rfl, rx⟩ := vals1 r1
  cases rx
  obtain ⟨its, rv, pl, hz⟩ := I1.list hq
  refine call_enumerate_list pl.isList fun h' he hit hz' hk => ?_
  refine wpAny_pyIter_enum he ?_
  have I2 : Inv X pins σ H1 { s1 with heap := h', toks := s1.toks } := I1.kept (t' := s1.toks) hk
  refine ⟨s1.heap.objs.size + 1, [s1.heap.objs.size + 1, s1.heap.objs.size], _, _, H1, rfl, I2, turn_enum a (s1.heap.objs.size + 1) s1.heap.objs.size (Nat.succ_ne_self _), ⟨⟨.none, he⟩, hit⟩, fun b hb => ?_, q⟩
  have hb : b = s1.heap.objs.size + 1 ∨ b = s1.heap.objs.size := by simpa using hb
  rcases hb with rfl | rfl
  · exact I1.fpOk (by omega) (I1.hok.fresh (by omega))
  · exact I1.fpOk (by omega) (I1.hok.fresh (by omega))
end
end L2
namespace Mth
def nx (p : List Int) (x : Int) : Int := p.getD x.toNat 0
def it (p : List Int) : Nat → Int → Int
  | 0, x => x
  | i + 1, x => nx p (it p i x)
def In (p : List Int) (x : Int) : Prop := 0 ≤ x ∧ x < p.length
theorem nx_in {p : List Int} (t : IsT p) {x : Int} (h : In p x) : In p (nx p x) := isT_getD t (j := x.toNat) (by have := h.1; have := h.2; omega)
theorem nx_inj {p : List Int} (t : IsT p) {x y : Int} (hx : In p x) (hy : In p y) (h : nx p x = nx p y) : x = y := by
  have a1 := hx.1
  have a2 := hx.2
  have b1 := hy.1
  have b2 := hy.2
  by_cases e : x.toNat = y.toNat
  · omega
  · exact absurd h (nodup_getD t.nd (i := x.toNat) (j := y.toNat) (by omega) (by omega) e)
theorem it_in {p : List Int} (t : IsT p) {x : Int} (h : In p x) : ∀ i, In p (it p i x)
  | 0 => h
  | i + 1 => nx_in t (it_in t h i)
theorem it_add (p : List Int) (x : Int) : ∀ i j, it p (i + j) x = it p i (it p j x)
  | 0, j => by rw [Nat.zero_add]; rfl
  | i + 1, j => by
    rw [Nat.add_right_comm]
    show nx p (it p (i + j) x) = nx p (it p i (it p j x))
    rw [it_add p x i j]
theorem it_inj {p : List Int} (t : IsT p) {x y : Int} (hx : In p x) (hy : In p y) : ∀ i, it p i x = it p i y → x = y
  | 0, h => h
  | i + 1, h => it_inj t hx hy i (nx_inj t (it_in t hx i) (it_in t hy i) h)
structure Per (p : List Int) (x : Int) (L : Nat) : Prop where
  pos : 0 < L
  back : it p L x = x
  least : ∀ i, 0 < i → i < L → it p i x ≠ x
theorem Per.uniq {p : List Int} {x : Int} {L M : Nat} (h : Per p x L) (g : Per p x M) : L = M := by
  rcases Nat.lt_trichotomy L M with z | z | z
  · exact absurd h.back (g.least L h.pos z)
  · exact z
  · exact absurd g.back (h.least M g.pos z)
theorem it_mul {p : List Int} {x : Int} {L : Nat} (h : it p L x = x) : ∀ q, it p (L * q) x = x
  | 0 => by rw [Nat.mul_zero]; rfl
  | q + 1 => by rw [Nat.mul_succ, it_add, h, it_mul h q]
theorem it_mod {p : List Int} {x : Int} {L : Nat} (h : it p L x = x) (i : Nat) : it p (i % L) x = it p i x := by
  conv => rhs; rw [← Nat.div_add_mod i L, Nat.add_comm, it_add, it_mul h]
theorem it_cong {p : List Int} {x : Int} {L : Nat} (h : it p L x = x) {a b : Nat} (e : a % L = b % L) : it p a x = it p b x := by
  rw [← it_mod h a, e, it_mod h]
theorem Per.shift {p : List Int} (t : IsT p) {x : Int} {L : Nat} (hx : In p x) (h : Per p x L) (j : Nat) : Per p (it p j x) L := by
  refine ⟨h.pos, ?_, fun i i0 i1 e => ?_⟩
  · rw [← it_add, Nat.add_comm, it_add, h.back]
  · rw [← it_add, Nat.add_comm, it_add] at e
    exact h.least i i0 i1 (it_inj t (it_in t hx i) hx j e)
def ringL (p : List Int) (x : Int) (L : Nat) : List Int := (List.range L).map fun i => it p i x
theorem ringL_len (p : List Int) (x : Int) (L : Nat) : (ringL p x L).length = L := by unfold ringL; rw [List.length_map, List.length_range]
theorem ringL_get {p : List Int} {x : Int} {L j : Nat} (h : j < L) : (ringL p x L)[j]? = some (it p j x) := by
  unfold ringL
  rw [List.getElem?_map, List.getElem?_range h]
  rfl
theorem ringL_getD {p : List Int} {x : Int} {L j : Nat} (h : j < L) : (ringL p x L).getD j 0 = it p j x := by
  rw [List.getD_eq_getElem?_getD, ringL_get h]; rfl
theorem mem_ringL {p : List Int} {x y : Int} {L : Nat} : y ∈ ringL p x L ↔ ∃ j, j < L ∧ y = it p j x := by
  unfold ringL
  rw [List.mem_map]
  constructor
  · rintro ⟨j, hj, rfl⟩
    exact ⟨j, List.mem_range.mp hj, rfl⟩
  · rintro ⟨j, hj, rfl⟩
    exact ⟨j, List.mem_range.mpr hj, rfl⟩
theorem ringL_succ (p : List Int) (x : Int) (m : Nat) : ringL p x (m + 1) = ringL p x m ++ [it p m x] := by
  unfold ringL
  rw [List.range_succ, List.map_append]
  rfl
theorem ringL_nodup {p : List Int} (t : IsT p) {x : Int} (hx : In p x) {m : Nat} (h : ∀ i, 0 < i → i < m → it p i x ≠ x) : (ringL p x m).Nodup := by
  unfold ringL
  rw [List.nodup_iff_pairwise_ne, List.pairwise_map]
  refine List.Pairwise.imp_of_mem (fun {a b} ha hb hlt e => ?_) List.pairwise_lt_range
  have hb := List.mem_range.mp hb
  have e2 : b = a + (b - a) := by omega
  rw [e2, it_add] at e
  exact h (b - a) (by omega) (by omega) (it_inj t (it_in t hx _) hx a e.symm)
theorem nodup_len : ∀ (n : Nat) (l : List Nat), l.Nodup → (∀ x ∈ l, x < n) → l.length ≤ n := by
  intro n
  induction n with
  | zero =>
    intro l _ hb
    cases l with
    | nil => exact Nat.le_refl _
    | cons a r => exact absurd (hb a List.mem_cons_self) (Nat.not_lt_zero _)
  | succ n ih =>
    intro l nd hb
    by_cases hn : n ∈ l
    · obtain ⟨s, u, rfl⟩ := List.append_of_mem hn
      have pm : (s ++ n :: u).Perm (n :: (s ++ u)) := List.perm_middle
      obtain ⟨h1, h2⟩ := List.nodup_cons.mp (pm.nodup_iff.mp nd)
      have := ih (s ++ u) h2 fun x hx => by
        have hx' := hb x (pm.mem_iff.mpr (List.mem_cons_of_mem _ hx))
        have : x ≠ n := fun e => h1 (e ▸ hx)
        omega
      rw [pm.length_eq, List.length_cons]
      omega
    · exact Nat.le_succ_of_le (ih l nd fun x hx => by
        have h1 := hb x hx
        have : x ≠ n := fun e => hn (e ▸ hx)
        omega)
theorem nodup_len_in {p : List Int} {r : List Int} (nd : r.Nodup) (h : ∀ x ∈ r, In p x) : r.length ≤ p.length := by
  have := nodup_len p.length (r.map Int.toNat) (by
    rw [List.nodup_iff_pairwise_ne, List.pairwise_map]
    refine List.Pairwise.imp_of_mem (fun {a b} ha hb hne z => hne ?_) (List.nodup_iff_pairwise_ne.mp nd)
    have h1 := (h a ha).1
    have h2 := (h b hb).1
    omega) fun x hx => by
      obtain ⟨y, hy, rfl⟩ := List.mem_map.mp hx
      have h1 := (h y hy).1
      have h2 := (h y hy).2
      omega
  rw [List.length_map] at this
  exact this
theorem ringL_in {p : List Int} (t : IsT p) {x : Int} (hx : In p x) {L : Nat} : ∀ y ∈ ringL p x L, In p y := fun y hy => by
  obtain ⟨j, _, rfl⟩ := mem_ringL.mp hy
  exact it_in t hx j
theorem ring_bound {p : List Int} (t : IsT p) {x : Int} (hx : In p x) {m : Nat} (h : ∀ i, 0 < i → i < m → it p i x ≠ x) : m ≤ p.length := by
  have := nodup_len_in (ringL_nodup t hx h) (ringL_in t hx)
  rw [ringL_len] at this
  exact this
theorem ring_closed {p : List Int} {x y : Int} {L : Nat} (h : Per p x L) (hy : y ∈ ringL p x L) (i : Nat) : it p i y ∈ ringL p x L := by
  obtain ⟨j, hj, rfl⟩ := mem_ringL.mp hy
  refine mem_ringL.mpr ⟨(i + j) % L, Nat.mod_lt _ h.pos, ?_⟩
  rw [it_mod h.back, it_add]
theorem ring_meet {p : List Int} {x y z : Int} {L M : Nat} (h : Per p x L) (g : Per p y M) (h1 : z ∈ ringL p x L) (h2 : z ∈ ringL p y M) : y ∈ ringL p x L := by
  obtain ⟨j, hj, rfl⟩ := mem_ringL.mp h2
  have := ring_closed h h1 (M - j)
  rw [← it_add, show M - j + j = M by omega, g.back] at this
  exact this
open Classical in
noncomputable def perOf (p : List Int) (x : Int) : Nat := if h : ∃ L, Per p x L then Classical.choose h else 0
theorem perOf_eq {p : List Int} {x : Int} {L : Nat} (h : Per p x L) : perOf p x = L := by
  have hx : ∃ L, Per p x L := ⟨L, h⟩
  unfold perOf
  rw [dif_pos hx]
  exact (Classical.choose_spec hx).uniq h
noncomputable def ringsF (p : List Int) : Nat → List (List Int)
  | 0 => []
  | i + 1 => if (i : Int) ∈ (ringsF p i).flatten then ringsF p i else ringsF p i ++ [ringL p i (perOf p i)]
structure RingsUp (p : List Int) (i : Nat) (rs : List (List Int)) : Prop where
  ring : ∀ r ∈ rs, ∃ x L, In p x ∧ Per p x L ∧ r = ringL p x L ∧ (∀ y ∈ r, x ≤ y) ∧ x < i
  nd : rs.flatten.Nodup
  all : ∀ u : Int, 0 ≤ u → u < i → u ∈ rs.flatten
  ord : rs.Pairwise fun r s => r.getD 0 0 < s.getD 0 0
  eq : rs = ringsF p i
theorem rings_none (p : List Int) : RingsUp p 0 [] := ⟨fun r hr => by simp at hr, List.nodup_nil, fun u h1 h2 => by omega, List.Pairwise.nil, rfl⟩
theorem rings_skip {p : List Int} {i : Nat} {rs : List (List Int)} (h : RingsUp p i rs) (hi : (i : Int) ∈ rs.flatten) : RingsUp p (i + 1) rs := by
  refine ⟨fun r hr => ?_, h.nd, fun u h1 h2 => ?_, h.ord, ?_⟩
  · obtain ⟨x, L, a, b, c, d, e⟩ := h.ring r hr
    exact ⟨x, L, a, b, c, d, by omega⟩
  · by_cases e : u = i
    · subst e; exact hi
    · exact h.all u h1 (by omega)
  · show rs = if (i : Int) ∈ (ringsF p i).flatten then ringsF p i else ringsF p i ++ [ringL p i (perOf p i)]
    rw [← h.eq, if_pos hi]
theorem rings_fresh {p : List Int} {i : Nat} {rs : List (List Int)} (h : RingsUp p i rs) {L : Nat} (hL : Per p i L) (hi : (i : Int) ∉ rs.flatten) : ∀ y ∈ ringL p i L, y ∉ rs.flatten := by
  intro y hy hm
  obtain ⟨r, hr, hyr⟩ := List.mem_flatten.mp hm
  obtain ⟨x, M, a, b, rfl, d, e⟩ := h.ring r hr
  exact hi (List.mem_flatten.mpr ⟨_, hr, ring_meet b hL hyr hy⟩)
theorem rings_step {p : List Int} (t : IsT p) {i : Nat} {rs : List (List Int)} (h : RingsUp p i rs) (hx : In p i) {L : Nat} (hL : Per p i L) (hi : (i : Int) ∉ rs.flatten) : RingsUp p (i + 1) (rs ++ [ringL p i L]) := by
  have fr := rings_fresh h hL hi
  refine ⟨fun r hr => ?_, ?_, fun u h1 h2 => ?_, ?_, ?_⟩
  · rcases List.mem_append.mp hr with z | z
    · obtain ⟨x, L, a, b, c, d, e⟩ := h.ring r z
      exact ⟨x, L, a, b, c, d, by omega⟩
    · have : r = ringL p i L := by simpa using z
      subst this
      refine ⟨i, L, hx, hL, rfl, fun y hy => ?_, by omega⟩
      have y0 := (ringL_in t hx y hy).1
      by_cases hlt : y < i
      · exact absurd (h.all y y0 hlt) (fr y hy)
      · omega
  · rw [List.flatten_append, List.flatten_singleton]
    refine List.nodup_append.mpr ⟨h.nd, ringL_nodup t hx fun j j0 j1 => hL.least j j0 j1, fun a ha b hb e => ?_⟩
    subst e
    exact fr a hb ha
  · rw [List.flatten_append, List.flatten_singleton]
    by_cases e : u = i
    · subst e
      exact List.mem_append_right _ (mem_ringL.mpr ⟨0, hL.pos, rfl⟩)
    · exact List.mem_append_left _ (h.all u h1 (by omega))
  · refine List.pairwise_append.mpr ⟨h.ord, List.pairwise_singleton _ _, fun r hr s hs => ?_⟩
    have : s = ringL p i L := by simpa using hs
    subst this
    obtain ⟨x, M, a, b, rfl, d, e⟩ := h.ring r hr
    rw [ringL_getD b.pos, ringL_getD hL.pos]
    exact e
  · show rs ++ [ringL p i L] = if (i : Int) ∈ (ringsF p i).flatten then ringsF p i else ringsF p i ++ [ringL p i (perOf p i)]
    rw [← h.eq, if_neg hi, perOf_eq hL]
def PowIs (p : List Int) (k : Int) (t : List Int) : Prop := t.length = p.length ∧ ∀ x, In p x → ∃ L, Per p x L ∧ at0 t x = some (it p (k % (L : Int)).toNat x)
theorem step_along {p : List Int} {x : Int} {L : Nat} (h : Per p x L) (k : Int) (j : Nat) : it p (((j : Int) + k) % (L : Int)).toNat x = it p (k % (L : Int)).toNat (it p j x) := by
  rw [← it_add]
  refine it_cong h.back ?_
  have hL : (0 : Int) < (L : Int) := by have := h.pos; omega
  have a1 := Int.emod_nonneg ((j : Int) + k) (show (L : Int) ≠ 0 by omega)
  have b1 := Int.emod_nonneg k (show (L : Int) ≠ 0 by omega)
  have : (((((j : Int) + k) % (L : Int)).toNat % L : Nat) : Int) = ((((k % (L : Int)).toNat + j) % L : Nat) : Int) := by
    rw [Int.natCast_emod, Int.natCast_emod, Int.toNat_of_nonneg a1, Int.natCast_add, Int.toNat_of_nonneg b1, Int.emod_emod, Int.emod_add_emod, Int.add_comm]
  exact Int.ofNat.inj this
end Mth
namespace Mth
theorem nx_at0 {p : List Int} {x : Int} (h : In p x) : at0 p x = some (nx p x) := by
  have a1 := h.1
  have a2 := h.2
  unfold at0 nx
  rw [List.getD_eq_getElem?_getD, List.getElem?_eq_getElem (by omega)]
  rfl
theorem back_nx {p s : List Int} (t : IsT p) (h : PowIs p (-1) s) {x : Int} (hx : In p x) : ∃ y, at0 s x = some y ∧ In p y ∧ nx p y = x := by
  obtain ⟨L, hL, e⟩ := h.2 x hx
  have hpos := hL.pos
  have e1 : ((-1 : Int) % (L : Int)).toNat = L - 1 := by
    have h1 : (-1 : Int) % (L : Int) = (L : Int) - 1 := by
      have := Int.add_emod_right (-1 : Int) (L : Int)
      rw [← this, Int.emod_eq_of_lt (by omega) (by omega)]
      omega
    rw [h1]; omega
  rw [e1] at e
  refine ⟨_, e, it_in t hx _, ?_⟩
  show it p (L - 1 + 1) x = x
  rw [show L - 1 + 1 = L by omega, hL.back]
theorem back_eq {p s : List Int} (t : IsT p) (h : PowIs p (-1) s) {f : Nat → Int} (hf : ∀ u, u < p.length → ∃ j : Nat, f u = (j : Int) ∧ p[j]? = some (u : Int)) : s = (List.range p.length).map f := by
  refine List.ext_getElem? fun u => ?_
  by_cases hu : u < p.length
  · obtain ⟨y, e, hy, en⟩ := back_nx t h (x := (u : Int)) ⟨by omega, by omega⟩
    obtain ⟨j, e1, e2⟩ := hf u hu
    have hj : j < p.length := (List.getElem?_eq_some_iff.mp e2).1
    have e3 : nx p (j : Int) = (u : Int) := by
      unfold nx
      rw [Int.toNat_natCast, getD_eq hj]
      exact (List.getElem?_eq_some_iff.mp e2).2
    have : y = (j : Int) := nx_inj t hy ⟨by omega, by omega⟩ (by rw [en, e3])
    unfold at0 at e
    rw [Int.toNat_natCast] at e
    rw [e, List.getElem?_map, List.getElem?_range hu, this]
    show some (j : Int) = some (f u)
    rw [e1]
  · rw [List.getElem?_eq_none (by rw [h.1]; omega), List.getElem?_eq_none (by rw [List.length_map, List.length_range]; omega)]
end Mth
namespace Mth
theorem per_ex {p : List Int} (t : IsT p) {x : Int} (hx : In p x) : ∃ L, Per p x L := by
  have h0 : ∃ i, 0 < i ∧ i ≤ p.length ∧ it p i x = x := Classical.byContradiction fun hn => by
    have := ring_bound t hx (m := p.length + 1) fun i i0 i1 e => hn ⟨i, i0, by omega, e⟩
    omega
  have key : ∀ n, (∃ i, 0 < i ∧ i ≤ n ∧ it p i x = x) → ∃ L, Per p x L := by
    intro n
    induction n with
    | zero => rintro ⟨i, i0, i1, _⟩; omega
    | succ n ih =>
      rintro ⟨i, i0, i1, e⟩
      by_cases h : ∃ j, 0 < j ∧ j ≤ n ∧ it p j x = x
      · exact ih h
      · refine ⟨i, i0, e, fun j j0 j1 ej => h ⟨j, j0, by omega, ej⟩⟩
  exact key _ h0
theorem it_congZ {p : List Int} {x : Int} {L : Nat} (h : Per p x L) {a b : Nat} (e : ((a : Int) - (b : Int)) % (L : Int) = 0) : it p a x = it p b x := by
  refine it_cong h.back ?_
  have : ((a % L : Nat) : Int) = ((b % L : Nat) : Int) := by
    rw [Int.natCast_emod, Int.natCast_emod]
    exact Int.emod_emod_of_dvd _ (Int.dvd_refl _) |>.symm.trans (by
      rw [Int.emod_emod]
      exact (Int.emod_eq_emod_iff_emod_sub_eq_zero).mpr e)
  exact Int.ofNat.inj this
theorem isT_of_nx {t : List Int} (h1 : ∀ x : Int, 0 ≤ x → x < t.length → 0 ≤ nx t x ∧ nx t x < t.length) (h2 : ∀ x y : Int, 0 ≤ x → x < t.length → 0 ≤ y → y < t.length → nx t x = nx t y → x = y) : IsT t := by
  have g : ∀ i (hi : i < t.length), nx t (i : Int) = t[i] := fun i hi => by unfold nx; rw [Int.toNat_natCast, getD_eq hi]
  refine ⟨?_, fun x hx => ?_, fun x hx => ?_⟩
  · rw [List.nodup_iff_pairwise_ne, List.pairwise_iff_getElem]
    intro i j hi hj hlt e
    have := h2 i j (by omega) (by omega) (by omega) (by omega) (by rw [g i hi, g j hj]; exact e)
    omega
  · obtain ⟨i, hi, rfl⟩ := List.mem_iff_getElem.mp hx
    rw [← g i hi]; exact (h1 i (by omega) (by omega)).1
  · obtain ⟨i, hi, rfl⟩ := List.mem_iff_getElem.mp hx
    rw [← g i hi]; exact (h1 i (by omega) (by omega)).2
theorem pow_nx {p t : List Int} {k : Int} (h : PowIs p k t) {x : Int} (hx : In p x) : ∃ L, Per p x L ∧ ∀ m : Nat, ((m : Int) - k) % (L : Int) = 0 → nx t x = it p m x := by
  obtain ⟨L, hL, e⟩ := h.2 x hx
  refine ⟨L, hL, fun m hm => ?_⟩
  have e1 : nx t x = it p (k % (L : Int)).toNat x := by
    have hx' : In t x := ⟨hx.1, by rw [h.1]; exact hx.2⟩
    rw [nx_at0 hx'] at e
    exact Option.some.inj e
  rw [e1]
  refine it_congZ hL ?_
  have b0 := Int.emod_nonneg k (show (L : Int) ≠ 0 by have := hL.pos; omega)
  rw [Int.toNat_of_nonneg b0]
  have : k % (L : Int) - (m : Int) = -(((m : Int) - k) + (k - k % (L : Int))) := by omega
  rw [this]
  have d1 : (L : Int) ∣ ((m : Int) - k) := Int.dvd_of_emod_eq_zero hm
  have d2 : (L : Int) ∣ (k - k % (L : Int)) := Int.dvd_self_sub_emod
  exact Int.emod_eq_zero_of_dvd (Int.dvd_neg.mpr (Int.dvd_add d1 d2))
theorem nat_like (k : Int) (L : Nat) (h : 0 < L) : (((k % (L : Int)).toNat : Int) - k) % (L : Int) = 0 := by
  have b0 := Int.emod_nonneg k (show (L : Int) ≠ 0 by omega)
  rw [Int.toNat_of_nonneg b0]
  have : k % (L : Int) - k = -(k - k % (L : Int)) := by omega
  rw [this]
  exact Int.emod_eq_zero_of_dvd (Int.dvd_neg.mpr Int.dvd_self_sub_emod)
theorem pow_isT {p t : List Int} {k : Int} (tp : IsT p) (h : PowIs p k t) : IsT t := by
  have tx : ∀ x, In p x → ∃ L, Per p x L ∧ nx t x = it p (k % (L : Int)).toNat x := fun x hx => by
    obtain ⟨L, hL, e⟩ := pow_nx h hx
    exact ⟨L, hL, e _ (nat_like k L hL.pos)⟩
  refine isT_of_nx (fun x x0 x1 => ?_) (fun x y x0 x1 y0 y1 e => ?_)
  · rw [h.1] at x1 ⊢
    obtain ⟨L, hL, e⟩ := tx x ⟨x0, x1⟩
    rw [e]
    exact it_in tp ⟨x0, x1⟩ _
  · rw [h.1] at x1 y1
    obtain ⟨L, hL, e1⟩ := tx x ⟨x0, x1⟩
    obtain ⟨M, hM, e2⟩ := tx y ⟨y0, y1⟩
    rw [e1, e2] at e
    have pL := hL.shift tp ⟨x0, x1⟩ (k % (L : Int)).toNat
    have pM := hM.shift tp ⟨y0, y1⟩ (k % (M : Int)).toNat
    rw [e] at pL
    have := pL.uniq pM
    subst this
    exact it_inj tp ⟨x0, x1⟩ ⟨y0, y1⟩ _ e
end Mth
namespace L2
open PySem PySem.Spec PyProof.Rows
theorem comp_enum {K : PySem.W.Frag} {a : Addr} {xs : List V} {g : TG} {tc : TT} {te : TE} {σ0 : St} {H : Hp} {Q : VK} (Pv : Nat → List V → St → Hp → Prop) (h0 : Pv 0 [] σ0 H) (hl : ∀ i ys σ H, i ≤ xs.length → Pv i ys σ H → SqL K H a xs)
    (hs : ∀ i x ys σ H t, xs[i]? = some x → Pv i ys σ H → H t = none → g (.ref t) σ (upd H t (.tup [.int (i : Int), x])) fun σ2 H2 => tc σ2 H2 fun b H4 => if b = true then te σ2 H4 fun y H5 => ys.length < sizeLine ∧ Pv (i + 1) (ys ++ [y]) σ2 H5 else Pv (i + 1) ys σ2 H4)
    (hd : ∀ ys σ H, Pv xs.length ys σ H → ∀ D, H D = none → Q (.ref D) (upd H D (.lst ys))) : CompW (Ite K a) g tc te Q σ0 H := by
  refine ⟨fun i m ys σ H => m = xs.length - i ∧ i ≤ xs.length ∧ Pv i ys σ H, ⟨xs.length, by simp, Nat.zero_le _, h0⟩, ?_⟩
  rintro i m ys σ H ⟨rfl, hi, p⟩
  have q := hl i ys σ H hi p
  by_cases hlt : i < xs.length
  · refine .inr ⟨⟨xs, xs[i], q, by simp [hlt]⟩, Pv (i + 1), fun ys' σ' H' p' => ⟨xs.length - (i + 1), by omega, rfl, hlt, p'⟩, fun x H' y => ?_⟩
    obtain ⟨x', t, y1, y2, e1, e2⟩ := y
    subst e1 e2
    exact hs i x' ys σ _ t (y1 xs q) p y2
  · have e : i = xs.length := by omega
    subst e
    exact .inl ⟨⟨xs, q, Nat.le_refl _⟩, hd ys σ H p⟩
end L2
namespace L2
open PySem PySem.Spec PyProof.Rows
theorem pg_tupK (K : PySem.W.Frag) {X : Cx} {es : List Expr} {k : Nat} {t : TGs} {n : Nat} {pos : Pos} (hc : X.calm = true) (h : PGs X es t) (hK : X.K = K := by rfl)
    (hn : (assignEach es X.env).length = n := by rfl) (hst : (assignEach es X.env).findIdx? (·.1) = none := by rfl) : PG X (.Tuple es k pos) (gTup K n t) := by
  subst hK
  exact pg_tup hc h hn hst
end L2
namespace L2
open PySem PySem.Spec PyProof.Rows
section
variable {X : Cx} {o e : Expr} {to : TE} {t : TA} {apos pos p : Pos}
theorem pe_extend (ho : PE X o to) (ha : PA X [e] t)
    (hbase : attributeBase o "extend" X.env (eval o X.env) = eval o X.env := by rfl)
    (hfew : ((backTo pos (starEach [e] X.env)).all (fun x => !x.1) && (backToKw pos (keywordEach [] X.env)).all (fun x => x.1.isSome)
      && decide ([e].length + ([] : List Keyword).length + (if ([] : List Keyword).isEmpty then 0 else 1) < 30)) = true := by rfl)
    (hline : (apos.endLine == pos.line) = true := by rfl) (hs : starEach [e] X.env = (false, eval e X.env) :: starEach [] X.env := by rfl) (hplain : (backTo pos (starEach [] X.env)).any (·.1) = false := by rfl) :
    PE X (.Call (.Attribute o "extend" apos) [e] [] pos) (tBM X.K "list" rExtend to t) :=
  pe_bm PySem.F.plainAttrs_list PySem.F.slot_list_extend PySem.F.type_list_extend mt_extend ho ha hbase hfew hline hs hplain
end
theorem cut_to (xs : List V) (k : Nat) (h : k ≤ xs.length) : cutV xs none (some (k : Int)) = xs.take k := by
  unfold cutV
  rw [HT.sIx_nat, HT.sIx_none, Nat.min_eq_left h, List.drop_zero, Nat.sub_zero]
end L2
namespace L2
open PySem PySem.Spec PyProof.Rows
theorem boot_sortedB : bootBuiltins "sorted" = some (.builtin "sorted") := by decide +kernel
section
variable {X : Cx}
theorem laid_sorted {pins : List (Addr × Obj)} {σ : St} {H : Hp} {s : Shared} (I : Inv X pins σ H s) {vs : List Value} {out : Array Value} {ms : List Int} (h : IntsAre out.toList ms) (hl : ms.length ≤ sizeLine) :
    Inv X pins σ (upd H (s.heap.objs.size + 1) (.lst (ms.map V.int))) { s with heap := sortedAll s.heap vs out, toks := s.toks } := by
  obtain ⟨e, he⟩ := sortedAll_at s.heap vs out
  refine I.laid (t' := s.toks) (fun _ _ q => sortedAll_old q) (Nat.le_succ _) (show ObjOk X.prog X.w _ _ _ (.lst (ms.map V.int)) from ⟨by rw [List.length_map]; exact hl, out.toList, e, vals_ints h, he⟩)
theorem call_sorted : CallR X (.builtin "sorted") (fun xs H Q => ∃ (p : Addr) (ns : List Int), xs = [.ref p] ∧ SqL X.K H p (ns.map V.int) ∧ ns.length < 64 ∧ ∀ (ms : List Int) l, ms.Perm ns → ms.Pairwise (· ≤ ·) → H l = none → Q (.ref l) (upd H l (.lst (ms.map V.int)))) := by
  intro pins s σ H xs us Q I r h
  obtain ⟨p, ns, rfl, hp, h64, q⟩ := h
  obtain ⟨u, rfl, rx⟩ := vals1 r
  cases rx
  obtain ⟨its, rv, pl, _⟩ := I.list hp
  have ia := intsAre_of rv
  have il := ia.length
  refine sorted_ints pl.isList ia (by omega) fun out ms a1 a2 a3 => ?_
  have hl : ms.length ≤ sizeLine := by rw [a2.length_eq]; exact Nat.le_of_lt (small1000 (by omega))
  exact ⟨.ref (s.heap.objs.size + 1), _, laid_sorted I a1 hl, rfl, q ms _ a2 a3 (I.hok.fresh (Nat.le_succ _))⟩
variable {e : Expr} {t : TA} {p pos kpos : Pos}
theorem pe_sorted (hm : X.mg "sorted" = none) (ha : PA X [e] t) (hg : Gl X "sorted" := by rfl) (he : starEach [e] X.env = (false, eval e X.env) :: starEach [] X.env := by rfl) :
    PE X (.Call (.Name "sorted" p) [e] [] pos) (tCB (fun xs H Q => ∃ (p : Addr) (ns : List Int), xs = [.ref p] ∧ SqL X.K H p (ns.map V.int) ∧ ns.length < 64 ∧ ∀ (ms : List Int) l, ms.Perm ns → ms.Pairwise (· ≤ ·) → H l = none → Q (.ref l) (upd H l (.lst (ms.map V.int)))) t) :=
  pe_callB call_sorted hg hm boot_sortedB ha (by decide) (by decide) he rfl
def tRev (K : PySem.W.Frag) (te : TE) (ts : TO) : TE := fun σ H Q => te σ H fun x H1 => ts σ H1 fun o H2 => o = some (-1) ∧ ∃ a xs, x = .ref a ∧ SqL K H2 a xs ∧ ∀ p, H2 p = none → Q (.ref p) (upd H2 p (.lst xs.reverse))
theorem pe_rev {st : Expr} {te : TE} {ts : TO} {p2 : Pos} (he : PE X e te) (hst : PO X (some st) ts) : PE X (.Subscript e (.Slice none none (some st) p2) pos) (tRev X.K te ts) := by
  intro pins s σ H Q I h
  refine Subscript_ (thn (he pins s σ H _ I h) fun v s1 ⟨x, H1, I1, r1, q1⟩ => ?_)
  refine wpAny_Slice ?_
  rw [evalPart_none]
  refine wpAny_pure (wpAny_pure ?_)
  refine thn (hst pins s1 σ H1 _ I1 q1) fun vk s3 ⟨k, H3, I3, pk, ek, a, xs, ex, hx, q⟩ => ?_
  subst ek ex
  cases r1
  have I4 : Inv X pins σ H3 { s3 with heap := s3.heap.push { cls := .type "slice", data := .fields #[.none, .none, vk] } } := I3.kept (t' := s3.toks) fun b ob q => Heap.get?_push_of_some _ q
  obtain ⟨its, r, ht, hz⟩ := I4.list hx
  have hlen := r.length
  show wpAny (model X.prog X.w) X.A (subscriptTail e (.Slice none none (some st) p2) (.ref a) (.ref s3.heap.objs.size)) (EP X pins σ Q) X.xe { s3 with heap := s3.heap.push { cls := .type "slice", data := .fields #[.none, .none, vk] } }
  refine tail_any (ops := [.ref a, .ref s3.heap.objs.size]) (T := "list") ht.isList.typeIs slot_list_getitem.lookup ?_ rfl
  refine wpAny_getItem_list_slice ht.isList (Heap.IsSliceOf.new ..) .none .none pk (by decide) ?_ (by rw [List.size_toArray] <;> omega)
  rw [PySem.W.krv_pick]
  have I5 := I4.laid (t' := s3.toks) (o := .lst xs.reverse) (h' := (s3.heap.push { cls := .type "slice", data := .fields #[.none, .none, vk] }).push { cls := .type "list", data := .seq its.reverse.toArray }) (a := (s3.heap.push { cls := .type "slice", data := .fields #[.none, .none, vk] }).objs.size)
    (fun b ob q => Heap.get?_push_of_some _ q) (Nat.le_refl _) ⟨by rw [List.length_reverse]; exact hz, its.reverse, 0, r.reverse, Heap.get?_push_size _ rfl⟩
  exact ⟨.ref _, _, I5, rfl, q _ (I4.hok.fresh (Nat.le_refl _))⟩
end
end L2
namespace Mth
theorem sorted_same : ∀ {a b : List Int}, a.Perm b → a.Pairwise (· ≥ ·) → b.Pairwise (· ≥ ·) → a = b
  | [], b, h, _, _ => by rw [List.nil_perm.mp h]
  | x :: a, [], h, _, _ => by exact absurd h.length_eq (by simp)
  | x :: a, y :: b, h, ha, hb => by
    obtain ⟨a1, a2⟩ := List.pairwise_cons.mp ha
    obtain ⟨b1, b2⟩ := List.pairwise_cons.mp hb
    have hxy : x = y := by
      have h1 : x ∈ y :: b := h.mem_iff.mp List.mem_cons_self
      have h2 : y ∈ x :: a := h.mem_iff.mpr List.mem_cons_self
      have l1 : y ≥ x := by
        rcases List.mem_cons.mp h1 with e | e
        · exact Int.le_of_eq e
        · exact b1 x e
      have l2 : x ≥ y := by
        rcases List.mem_cons.mp h2 with e | e
        · exact Int.le_of_eq e
        · exact a1 y e
      omega
    subst hxy
    rw [sorted_same ((List.perm_cons x).mp h) a2 b2]
end Mth
namespace L2
open PySem PySem.Spec PyProof.Rows
def litsOf : List Expr → Option (List Int)
  | [] => some []
  | .Constant (.int i) _ _ :: es => (litsOf es).map (i :: ·)
  | _ :: _ => none
def tLitA (ns : List Int) : TA := fun _ H Q => Q (ns.map V.int) H
def tLits (ns : List Int) : TE := fun _ H Q => ns.length ≤ sizeLine ∧ ∀ p, H p = none → Q (.ref p) (upd H p (.lst (ns.map V.int)))
theorem starEach_int (i : Int) (j : Nat) (p : Pos) (es : List Expr) (env : Env) : starEach (.Constant (.int i) j p :: es) env = (false, eval (.Constant (.int i) j p) env) :: starEach es env := rfl
theorem pa_litsO {X : Cx} : ∀ (es : List Expr) (ns : List Int), litsOf es = some ns → PA X es (tLitA ns)
  | [], ns, h => by
    have : ns = [] := (Option.some.inj h).symm
    subst this
    exact fun pos pins s σ H Q I h => pa_nil pos pins s σ H Q I h
  | e :: es, ns, h => by
    unfold litsOf at h
    split at h
    · rename_i h0; cases h0
    · rename_i i j p es' heq
      cases heq
      cases ho : litsOf es with
      | none => rw [ho] at h; cases h
      | some ms =>
        rw [ho] at h
        cases h
        exact fun pos pins s σ H Q I h => (pa_cons (te := tC (.int i)) pe_int (pa_litsO es ms ho) (starEach_int i j p es X.env)) pos pins s σ H Q I h
    · cases h
theorem pe_litsO {X : Cx} {pos : Pos} {es : List Expr} (ns : List Int) (h : litsOf es = some ns) : PE X (.List es pos) (tLits ns) := fun pins s σ H Q I h' => pe_lst (pa_litsO es ns h) pins s σ H Q I (by
  show (ns.map V.int).length ≤ sizeLine ∧ _
  rw [List.length_map]; exact h')
end L2
namespace L2
open PySem PySem.Spec PyProof.Rows
theorem rows_cons {H : Hp} {a : Addr} {as : List Addr} {r : List Int} {rs : List (List Int)} (h : H a = some (.lst (r.map V.int))) (hr : RowsH H as rs) : RowsH H (a :: as) (r :: rs) := by
  refine ⟨by rw [List.length_cons, List.length_cons, hr.1], fun j b q h1 h2 => ?_⟩
  cases j with
  | zero =>
    rw [List.getElem?_cons_zero] at h1 h2
    cases h1; cases h2
    exact h
  | succ j =>
    rw [List.getElem?_cons_succ] at h1 h2
    exact hr.2 j b q h1 h2
theorem rows_app {H : Hp} : ∀ {as bs : List Addr} {rs qs : List (List Int)}, RowsH H as rs → RowsH H bs qs → RowsH H (as ++ bs) (rs ++ qs)
  | [], bs, [], qs, _, h => h
  | [], bs, r :: rs, qs, h, _ => by have := h.1; simp at this
  | a :: as, bs, [], qs, h, _ => by have := h.1; simp at this
  | a :: as, bs, r :: rs, qs, h, h' => rows_cons (h.2 0 a r rfl rfl) (rows_app ⟨by have := h.1; simpa using this, fun j b q h1 h2 => h.2 (j + 1) b q h1 h2⟩ h')
end L2
namespace L2
open PySem PySem.Spec PyProof.Rows
section
variable {X : Cx}
theorem kV_of_is {P : Program} {w : World} {k : Key} {u : Value} (h : (mixKind P w).is k u = true) : RelV (kV k) u := by
  cases k with
  | inl i =>
    cases u with
    | int j t =>
      have : i = j := by
        have h2 := KeyKind.is_eq_decide (knd := mixKind P w) (mixKind_int P w j t) (Sum.inl i)
        rw [h] at h2
        have := of_decide_eq_true h2.symm
        exact Sum.inl.inj this
      subst this
      exact ⟨t, rfl⟩
    | _ => cases h
  | inr x =>
    cases u with
    | str y t =>
      have : x = y := by
        have h2 := KeyKind.is_eq_decide (knd := mixKind P w) (mixKind_str P w y t) (Sum.inr x)
        rw [h] at h2
        have := of_decide_eq_true h2.symm
        exact Sum.inr.inj this
      subst this
      exact ⟨t, rfl⟩
    | _ => cases h
theorem Inv.freeze {pins : List (Addr × Obj)} {σ : St} {H : Hp} {s : Shared} {a : Addr} {kvs : List (Key × V)} {o : Obj} (I : Inv X pins σ H s) (e : H a = some (.dK kvs)) (ho : s.heap.get? a = some o) : Inv X pins σ (upd H a (.frz o (.dK kvs))) s := by
  have ok : ObjOk X.prog X.w H s.heap a (.dK kvs) := I.hok a _ e
  exact d_write (h' := s.heap) (t' := s.toks) I (by rw [e]; exact True.intro) ⟨rfl, fun b _ => rfl⟩ ⟨o, ho⟩ ⟨ho, ok⟩
def Itd (d : Addr) (o : Obj) (kvs : List (Key × V)) : It :=
  ⟨fun i H => H d = some (.frz o (.dK kvs)) ∧ i < kvs.length, fun i H x H' => H' = H ∧ ∃ k v, kvs[i]? = some (k, v) ∧ x = kV k, fun i H => H d = some (.frz o (.dK kvs)) ∧ kvs.length ≤ i⟩
theorem dk_at {P : Program} {w : World} {H : Hp} {h : Heap} {d : Addr} {o : Obj} {kvs : List (Key × V)} (x : ObjOk P w H h d (.frz o (.dK kvs))) {es : Array DictEntry} {ep : Nat} (hd : o.data = .dict es ep) : ∃ vs, KV kvs vs ∧ h.DictAt (mixKind P w) d vs ep := by
  obtain ⟨ho, _, _, vs, rel, o', es', ep', ho', hc, hd', r⟩ := x
  rw [ho] at ho'
  cases ho'
  rw [hd] at hd'
  cases hd'
  exact ⟨vs, rel, o, es, ho, hc, hd, r⟩
theorem paired_get {α β : Type} {R : α → β → Prop} {xs : List α} {ys : List β} (h : Paired R xs ys) : ∀ {i : Nat} {x : α}, xs[i]? = some x → ∃ y, ys[i]? = some y ∧ R x y := by
  induction h with
  | nil => intro i x e; simp at e
  | cons r _ ih =>
    intro i x e
    cases i with
    | zero => rw [List.getElem?_cons_zero] at e; cases e; exact ⟨_, rfl, r⟩
    | succ i => rw [List.getElem?_cons_succ] at e; exact ih e
theorem turn_dict {P : Program} {w : World} {K : PySem.W.Frag} {tg : Expr} (d it : Addr) (o : Obj) (kvs : List (Key × V)) (es : Array DictEntry) (ep : Nat) (hdat : o.data = .dict es ep) : Turn P w K tg (Itd d o kvs) [it] it (fun i h => h.IsKeyIter it d i kvs.length ep) where
  mem := by simp
  obj := fun i h st b hb => by
    have e : b = it := by simpa using hb
    subst e
    obtain ⟨o, e, c, d⟩ := st
    exact ⟨o, e, fun v z => by rw [d] at z; cases z⟩
  keep := fun i h h' st k => by
    obtain ⟨o, e, r⟩ := st
    exact ⟨o, k it (by simp) o e, r⟩
  item := by
    intro X hP hw hK hc i pins s σ H E I hf st hg
    subst hP hw hK
    obtain ⟨hH, hi⟩ := hg
    obtain ⟨vs, rel, hat⟩ := dk_at (I.hok d _ hH) hdat
    have hl : kvs.length = vs.length := rel.length
    obtain ⟨f0, f1, f2, f3, f4, f5⟩ := hf it (by simp)
    have e1 : kvs[i]? = some (kvs[i].1, kvs[i].2) := List.getElem?_eq_getElem hi
    generalize kvs[i].1 = k at e1
    generalize kvs[i].2 = v at e1
    obtain ⟨⟨k', u⟩, e2, e3, _⟩ := paired_get rel e1
    have e3 : k = k' := e3
    subst e3
    rw [hl] at st
    refine wpAny_pyNext_dict_item st hat e2 fun key h' hk st' sb => ?_
    have I1 : Inv X pins σ H { s with heap := h' } := I.turned (t' := s.toks) (fun b o hb e => (sb.2 b hb).trans e) f0 f1 f3 f4 f5
    obtain ⟨o, e, c, dd⟩ := id st'
    exact ⟨key, rfl, go_of (s := { s with heap := h' }) e c dd (by decide) ⟨kV k, H, I1, kV_of_is hk, ⟨rfl, k, v, e1, rfl⟩, by rw [hl]; exact st', fun b hb => (hf b hb).1⟩⟩
  done := by
    intro X hP hw hK hc i pins s σ H E I hf st hg
    subst hP hw hK
    obtain ⟨hH, hi⟩ := hg
    obtain ⟨vs, rel, hat⟩ := dk_at (I.hok d _ hH) hdat
    have hl : kvs.length = vs.length := rel.length
    obtain ⟨f0, f1, f2, f3, f4, f5⟩ := hf it (by simp)
    rw [hl] at st
    exact wpAny_pyNext_dict_end (I.ok.hd hc) st hat (List.getElem?_eq_none (by omega)) fun h' eb => ⟨rfl, I.turned (t' := s.toks) (fun b o hb e => eb b o hb e) f0 f1 f3 f4 f5⟩
  self := fun _ _ _ _ _ st h => wpAny_pyIter_keyiter st h
def iDict (td : TE) : TI := fun σ H R => td σ H fun x H1 => ∃ d kvs, x = .ref d ∧ H1 d = some (.dK kvs) ∧ ∀ o, R (Itd d o kvs) (upd H1 d (.frz o (.dK kvs)))
theorem pi_dict {tg l : Expr} {tl : TE} (hl : PE X l tl) : PI X tg l (iDict tl) := by
  intro pins s σ H R I h
  refine thn (hl pins s σ H _ I h) fun v s1 ⟨x, H1, I1, r1, q1⟩ => ?_
  obtain ⟨d, kvs, e, hH, q⟩ := q1
  subst e
  cases r1
  obtain ⟨_, hsm, vs, rel, o, es, ep, ho, hc, hdat, rr⟩ := (show ObjOk X.prog X.w H1 s1.heap d (.dK kvs) from I1.hok d _ hH)
  have hat : s1.heap.DictAt (mixKind X.prog X.w) d vs ep := ⟨o, es, ho, hc, hdat, rr⟩
  have I2 := I1.freeze hH ho
  refine wpAny_pyIter_dict hsm hat ?_
  have hlen : kvs.length = vs.length := rel.length
  refine ⟨s1.heap.objs.size, [s1.heap.objs.size], _, _, _, rfl, I2.kept (t' := s1.toks) fun b o e => Heap.get?_push_of_some _ e, turn_dict d _ o kvs es ep hdat, ⟨_, Heap.get?_push_size _ rfl, rfl, by rw [hlen]; rfl⟩, fun b hb => ?_, q o⟩
  have e : b = s1.heap.objs.size := by simpa using hb
  subst e
  exact I2.fpOk (Nat.le_refl _) (I2.hok.fresh (Nat.le_refl _))
theorem for_dict {d : Addr} {o : Obj} {kvs : List (Key × V)} {g : TG} {tb : TS} {D : Ends} {σ : St} {H : Hp} (Pv : Nat → St → Hp → Prop) (h0 : Pv 0 σ H) (hl : ∀ i σ H, i ≤ kvs.length → Pv i σ H → H d = some (.frz o (.dK kvs)))
    (hs : ∀ i k v σ H, kvs[i]? = some (k, v) → Pv i σ H → g (kV k) σ H fun σ2 H2 => tb { D with nx := Pv (i + 1), ct := Pv (i + 1), bk := D.nx } σ2 H2) (hd : ∀ σ H, Pv kvs.length σ H → D.nx σ H) :
    ∃ W : Nat → Nat → St → Hp → Prop, (∃ m, W 0 m σ H) ∧ ∀ i m σ H, W i m σ H →
      ((Itd d o kvs).stop i H ∧ D.nx σ H) ∨ ((Itd d o kvs).go i H ∧ ∃ N : St → Hp → Prop, (∀ σ' H', N σ' H' → ∃ m', m' < m ∧ W (i + 1) m' σ' H') ∧ ∀ x H', (Itd d o kvs).yld i H x H' → g x σ H' fun σ2 H2 => tb { D with nx := N, ct := N, bk := D.nx } σ2 H2) := by
  refine ⟨fun i m σ H => m = kvs.length - i ∧ i ≤ kvs.length ∧ Pv i σ H, ⟨kvs.length, by simp, Nat.zero_le _, h0⟩, ?_⟩
  rintro i m σ H ⟨rfl, hi, p⟩
  have q := hl i σ H hi p
  by_cases hlt : i < kvs.length
  · refine .inr ⟨⟨q, hlt⟩, Pv (i + 1), fun σ' H' p' => ⟨kvs.length - (i + 1), by omega, rfl, hlt, p'⟩, fun x H' y => ?_⟩
    obtain ⟨e, k, v, y1, y2⟩ := y
    subst e y2
    exact hs i k v σ _ y1 p
  · have e : i = kvs.length := by omega
    subst e
    exact .inl ⟨⟨q, Nat.le_refl _⟩, hd σ H p⟩
theorem meets_setdefault_pairs {prog : Program} {w : World} {κ : Type} [DecidableEq κ] (knd : KeyKind prog w κ) {k : κ} {key : Value} (d : Addr) (hkey : knd.is k key = true) (hd : (d == sysModules) = false) (dflt : Value) :
    MeetsIn prog w (Builtin.«dict.setdefault» ⟨[.ref d, key, dflt], []⟩) (fun _ R s => ∃ kvs, s.heap.DictOf knd d kvs ∧ kvs.length ≤ sizeLine ∧
      (∀ v, valueAt kvs k = some v → R (.ok (.ret v)) { s with toks := s.toks + 1 }) ∧
      (valueAt kvs k = none → ∀ h', h'.DictOf knd d (kvs ++ [(k, dflt)]) → Heap.SameBut d s.heap h' → R (.ok (.ret dflt)) { s with heap := h', toks := s.toks + 1 })) :=
  .of_wp fun A R s ⟨kvs, hm, hz, h1, h2⟩ => by
    unfold Builtin.«dict.setdefault»
    refine wpAny_bind ?_
    unfold Builtin.Dict.keyAndDefault
    refine wpAny_bind (wpAny_notOrdered_dict hm.typeIs ?_)
    show wpAny _ _ (pure (d, key, some dflt)) _ _ s
    refine wpAny_pure ?_
    show wpAny _ _ (if (d == sysModules) = true then _ else (dictSetDefault d key dflt >>= _)) _ _ s
    rw [if_neg (by rw [hd]; exact Bool.false_ne_true)]
    obtain ⟨o, es, ep, ho, hc, hdat, hk, hp, hn⟩ := id hm
    have hes : es.size ≤ sizeLine := by
      have e1 := hp.length
      have e2 : es.toList.length = es.size := by simp
      omega
    have hf := hm.mapOf
    refine wpAny_bind ?_
    unfold dictSetDefault
    try with_reducible refine wpAny_holding ?_
    refine wpAny_bind (knd.pyHash hkey ?_)
    refine wpAny_bind (wpAny_dictFind_of (s := { s with toks := s.toks + 1 }) hkey ho hdat hk ?_)
    have hidx : (es.findIdx? fun e => knd.is k e.key) = kvs.findIdx? fun kv => decide (kv.1 = k) := by
      rw [← hp.findIdx k]; obtain ⟨l⟩ := es; simp
    have hfb : findBy knd.is es k = valueAt kvs k := by
      rw [← hp.find k]
      obtain ⟨l⟩ := es
      simp [findBy]
    rw [findBy_of_findIdx?] at hfb
    cases hi : es.findIdx? fun e => knd.is k e.key with
    | some i =>
      refine wpAny_bind (wpAny_dictEntries (s := { s with toks := s.toks + 1 }) ho hdat ?_)
      cases he : es[i]? with
      | none =>
        exfalso
        have := Array.findIdx?_eq_some_iff_findIdx_eq.mp hi
        have hlt : i < es.size := this.1
        rw [Array.getElem?_eq_getElem hlt] at he
        exact nomatch he
      | some e =>
        refine wpAny_bind (wpAny_rule (wpAny_pure (wpAny_pure ⟨e.val, rfl, h1 e.val ?_⟩)))
        rw [hi] at hfb
        rw [← hfb]
        show Option.map _ es[i]? = _
        rw [he]; rfl
    | none =>
      have hnot : k ∉ kvs.map (·.1) := not_mem_of_findIdx_none (hidx ▸ hi)
      have hnone : valueAt kvs k = none := by rw [hi] at hfb; exact hfb.symm
      refine wpAny_bind (wpAny_rule (wpAny_bind (wpAny_updateDictKeys (hz := hes) (s := { s with toks := s.toks + 1 }) ho hdat (wpAny_pure (wpAny_pure ⟨dflt, rfl, h2 hnone _ ⟨_, _, ep + 1, Heap.get?_update_self _ ho (Obj.isFreed_of_dict (Obj.data_mapDictKeys hdat _)),
        hc.mapDictKeys _, Obj.data_mapDictKeys hdat _, hk.push hkey _, ?_, ?_⟩ (Heap.SameBut.update ..)⟩)))))
      · have := hp.append hkey (knd.hash k) dflt
        obtain ⟨l⟩ := es
        simpa using this
      · rw [List.map_append, List.nodup_append]
        refine ⟨hn, by simp, ?_⟩
        intro a ha b hb
        simp only [List.map_cons, List.map_nil, List.mem_singleton] at hb
        subst hb
        exact fun e => hnot (e ▸ ha)
def rSetDef : V → List V → Hp → VK → Prop := fun x vs H Q => ∃ (d : Addr) (kvs : List (Key × V)) (k : Key) (y : V), x = .ref d ∧ vs = [kV k, y] ∧ H d = some (.dK kvs) ∧ kvs.length < sizeLine ∧
  (∀ v, valV kvs k = some v → Q v H) ∧ (valV kvs k = none → Q y (upd H d (.dK (kvs ++ [(k, y)]))))
theorem mt_setdef : MtM X "dict.setdefault" rSetDef := by
  intro pins s σ H x vs v us Q I rx rv h
  obtain ⟨d, kvs, k, y, rfl, rfl, hH, hlen, q1, q2⟩ := h
  cases rx
  cases rv with
  | cons rk rr =>
    cases rr with
    | cons ry rn =>
      cases rn
      obtain ⟨z, hd, ws, rel, dd⟩ := dk_of I.hok hH
      refine call_meetsIn PySem.F.slot_dict_setdefault dd.typeIs PySem.F.entry_dict_setdefault (PySem.F.args_dict_setdefault_3 _ _ _) (meets_setdefault_pairs (mixKind X.prog X.w) d (kV_is rk) hd _)
        ⟨ws, dd, by rw [← rel.length]; exact z, fun u hu => ?_, fun hn h' dd' hs => ?_⟩
      · have := rel.val k
        rw [hu] at this
        cases hv : valV kvs k with
        | none => rw [hv] at this; cases this
        | some v =>
          rw [hv] at this
          exact ⟨v, H, I.tok _, this, q1 v hv⟩
      · have hvn : valV kvs k = none := by
          have := rel.val k
          rw [hn] at this
          cases hv : valV kvs k with
          | none => rfl
          | some v => rw [hv] at this; cases this
        have he : ∃ q, h'.get? d = some q := let ⟨q, _, _, hq, _⟩ := dd'; ⟨q, hq⟩
        have rel' := rel.put k ry
        have hany : ¬ (ws.any fun kv => decide (kv.1 = k)) = true := by
          rw [List.any_eq_true]
          rintro ⟨kv, hkv, hek⟩
          unfold valueAt at hn
          cases hf : ws.find? (fun kv => decide (kv.1 = k)) with
          | none => exact List.find?_eq_none.mp hf kv hkv hek
          | some y => rw [hf] at hn; cases hn
        rw [putK_new y hvn, stored, if_neg hany] at rel'
        exact ⟨y, _, d_write I (by rw [hH]; exact True.intro) hs he (dk_new (by rw [List.length_append]; exact hlen) hd rel' dd'), ry, q2 hvn⟩
theorem pe_setdef {o e f : Expr} {to : TE} {t : TA} {apos pos : Pos} (ho : PE X o to) (ha : PA X [e, f] t)
    (hbase : attributeBase o "setdefault" X.env (eval o X.env) = eval o X.env := by rfl)
    (hfew : ((backTo pos (starEach [e, f] X.env)).all (fun x => !x.1) && (backToKw pos (keywordEach [] X.env)).all (fun x => x.1.isSome)
      && decide ([e, f].length + ([] : List Keyword).length + (if ([] : List Keyword).isEmpty then 0 else 1) < 30)) = true := by rfl)
    (hline : (apos.endLine == pos.line) = true := by rfl) (hs : starEach [e, f] X.env = (false, eval e X.env) :: starEach [f] X.env := by rfl) (hplain : (backTo pos (starEach [f] X.env)).any (·.1) = false := by rfl) :
    PE X (.Call (.Attribute o "setdefault" apos) [e, f] [] pos) (tBM X.K "dict" rSetDef to t) :=
  pe_bm PySem.F.plainAttrs_dict PySem.F.slot_dict_setdefault PySem.F.type_dict_setdefault mt_setdef ho ha hbase hfew hline hs hplain
theorem boot_intB : bootBuiltins "int" = some (.type "int") := by decide +kernel
theorem call_intB : CallR X (.type "int") (fun xs H Q => ∃ b, xs = [.bl b] ∧ Q (.int (if b then 1 else 0)) H) := by
  intro pins s σ H xs us Q I r h
  obtain ⟨b, rfl, q⟩ := h
  obtain ⟨u, rfl, rx⟩ := vals1 r
  cases rx
  exact call_int_bool ⟨.int _, H, I.tok _, ⟨_, rfl⟩, q⟩
theorem pe_intB {e : Expr} {t : TA} {p pos : Pos} (hm : X.mg "int" = none) (ha : PA X [e] t) (hg : Gl X "int" := by rfl) (he : starEach [e] X.env = (false, eval e X.env) :: starEach [] X.env := by rfl) :
    PE X (.Call (.Name "int" p) [e] [] pos) (tCB (fun xs H Q => ∃ b, xs = [.bl b] ∧ Q (.int (if b then 1 else 0)) H) t) :=
  pe_callTy call_intB hg hm boot_intB ha (by decide) (by decide) he rfl
end
end L2
namespace Mth
def prodF (f : Nat → Nat) : List Nat → Nat
  | [] => 1
  | x :: xs => f x * prodF f xs
theorem prodF_app (f : Nat → Nat) : ∀ xs ys, prodF f (xs ++ ys) = prodF f xs * prodF f ys
  | [], ys => by rw [List.nil_append]; exact (Nat.one_mul _).symm
  | x :: xs, ys => by
    show f x * prodF f (xs ++ ys) = f x * prodF f xs * prodF f ys
    rw [prodF_app f xs ys, Nat.mul_assoc]
theorem prodF_snoc (f : Nat → Nat) (xs : List Nat) (x : Nat) : prodF f (xs ++ [x]) = prodF f xs * f x := by
  rw [prodF_app]
  show prodF f xs * (f x * 1) = _
  rw [Nat.mul_one]
theorem prodF_perm {f : Nat → Nat} {xs ys : List Nat} (h : xs.Perm ys) : prodF f xs = prodF f ys := by
  induction h with
  | nil => rfl
  | cons x _ ih => show f x * prodF f _ = f x * prodF f _; rw [ih]
  | swap x y l => show f y * (f x * prodF f l) = f x * (f y * prodF f l); rw [← Nat.mul_assoc, Nat.mul_comm (f y), Nat.mul_assoc]
  | trans _ _ i1 i2 => rw [i1, i2]
theorem prodF_ones {f : Nat → Nat} : ∀ {us : List Nat}, (∀ u ∈ us, f u = 1) → prodF f us = 1
  | [], _ => rfl
  | u :: us, h => by
    show f u * prodF f us = 1
    rw [h u List.mem_cons_self, prodF_ones fun x hx => h x (List.mem_cons_of_mem _ hx)]
theorem prodF_sub {f : Nat → Nat} : ∀ {ks us : List Nat}, ks.Nodup → us.Nodup → (∀ k ∈ ks, k ∈ us) → (∀ u ∈ us, u ∉ ks → f u = 1) → prodF f ks = prodF f us
  | [], us, _, _, _, h => (prodF_ones fun u hu => h u hu (by simp)).symm
  | k :: ks, us, nk, nu, sub, h => by
    obtain ⟨nk1, nk2⟩ := List.nodup_cons.mp nk
    have hk : k ∈ us := sub k List.mem_cons_self
    rw [prodF_perm (List.perm_cons_erase hk)]
    show f k * prodF f ks = f k * prodF f (us.erase k)
    have ih : prodF f ks = prodF f (us.erase k) := by
      refine prodF_sub nk2 (nu.erase k) (fun x hx => ?_) fun u hu hn => ?_
      · have hxk : x ≠ k := fun e => nk1 (by rw [← e]; exact hx)
        exact (List.mem_erase_of_ne hxk).mpr (sub x (List.mem_cons_of_mem _ hx))
      · obtain ⟨h1, h2⟩ := (List.Nodup.mem_erase_iff nu).mp hu
        refine h u h2 fun z => ?_
        rcases List.mem_cons.mp z with e | e
        · exact h1 e
        · exact hn e
    rw [ih]
def cntL (rs : List (List Int)) (l : Nat) : Nat := rs.countP fun r => decide (r.length = l)
theorem cntL_snoc (rs : List (List Int)) (r : List Int) (l : Nat) : cntL (rs ++ [r]) l = cntL rs l + if r.length = l then 1 else 0 := by
  unfold cntL
  rw [List.countP_append, List.countP_singleton]
  by_cases h : r.length = l <;> simp [h]
theorem cnt_pos {rs : List (List Int)} {l : Nat} (h : cntL rs l ≠ 0) : ∃ r ∈ rs, r.length = l := by
  unfold cntL at h
  obtain ⟨r, hr, e⟩ := List.countP_pos_iff.mp (Nat.pos_of_ne_zero h)
  exact ⟨r, hr, of_decide_eq_true e⟩
end Mth
namespace Mth
theorem rings_to {p : List Int} (t : IsT p) : ∀ i, i ≤ p.length → RingsUp p i (ringsF p i)
  | 0, _ => rings_none p
  | i + 1, h => by
    have ih := rings_to t i (by omega)
    show RingsUp p (i + 1) (if (i : Int) ∈ (ringsF p i).flatten then ringsF p i else ringsF p i ++ [ringL p i (perOf p i)])
    have hx : In p (i : Int) := ⟨by omega, by omega⟩
    by_cases hi : (i : Int) ∈ (ringsF p i).flatten
    · rw [if_pos hi]; exact rings_skip ih hi
    · rw [if_neg hi]
      obtain ⟨L, hL⟩ := per_ex t hx
      rw [perOf_eq hL]
      exact rings_step t ih hx hL hi
theorem rings_up {p : List Int} (t : IsT p) : RingsUp p p.length (ringsF p p.length) := rings_to t _ (Nat.le_refl _)
end Mth
namespace Mth
def fil (rs : List (List Int)) (l : Nat) : List (List Int) := rs.filter fun r => decide (r.length = l)
end Mth
namespace Mth
theorem maxmin {n c : Int} (hn : 1 ≤ n) (hc : 0 ≤ c) : ∃ mx, (if (if n < c then n else c) > 1 then (if n < c then n else c) else (1 : Int)) = mx ∧ 1 ≤ mx ∧ mx ≤ n := by
  refine ⟨_, rfl, ?_⟩
  split <;> split at * <;> omega
end Mth
namespace L2
open PySem PySem.Spec PyProof.Rows
def KI (kvs : List (Key × V)) (ns : List Int) : Prop := kvs.map (·.1) = ns.map Sum.inl
theorem ki_mem : ∀ {kvs : List (Key × V)} {ns : List Int}, KI kvs ns → ∀ k : Int, k ∈ ns ↔ ∃ v, valV kvs (Sum.inl k : Key) = some v
  | [], [], _, k => ⟨fun h => by simp at h, fun ⟨v, h⟩ => by cases h⟩
  | [], n :: ns, h, _ => by unfold KI at h; simp at h
  | p :: kvs, [], h, _ => by unfold KI at h; simp at h
  | p :: kvs, n :: ns, h, k => by
    unfold KI at h
    rw [List.map_cons, List.map_cons] at h
    injection h with h1 h2
    by_cases e : n = k
    · have : p.1 = (Sum.inl k : Key) := by rw [h1, e]
      rw [valV_pos this]
      exact ⟨fun _ => ⟨_, rfl⟩, fun _ => by rw [e]; exact List.mem_cons_self⟩
    · have : ¬ p.1 = (Sum.inl k : Key) := fun z => e (by rw [h1] at z; exact Sum.inl.inj z)
      rw [valV_neg this]
      constructor
      · intro hm
        rcases List.mem_cons.mp hm with z | z
        · exact absurd z.symm e
        · exact (ki_mem (show KI kvs ns from h2) k).mp z
      · intro hv
        exact List.mem_cons_of_mem _ ((ki_mem (show KI kvs ns from h2) k).mpr hv)
theorem ki_none {kvs : List (Key × V)} {ns : List Int} (h : KI kvs ns) {k : Int} (hk : k ∉ ns) : valV kvs (Sum.inl k : Key) = none := by
  cases e : valV kvs (Sum.inl k : Key) with
  | none => rfl
  | some v => exact absurd ((ki_mem h k).mpr ⟨v, e⟩) hk
theorem ki_new {kvs : List (Key × V)} {ns : List Int} (h : KI kvs ns) {k : Int} (hk : k ∉ ns) (v : V) : KI (putK kvs (Sum.inl k : Key) v) (ns ++ [k]) := by
  rw [putK_new v (ki_none h hk)]
  unfold KI at *
  rw [List.map_append, List.map_append, h]
  rfl
theorem ki_old {kvs : List (Key × V)} {ns : List Int} (h : KI kvs ns) {k : Int} (hk : k ∈ ns) (v : V) : KI (putK kvs (Sum.inl k : Key) v) ns := by
  obtain ⟨x, hx⟩ := (ki_mem h k).mp hk
  unfold putK
  rw [valV_any, hx, if_pos (show (some x).isSome = true from rfl)]
  unfold KI at *
  rw [← h, List.map_map]
  refine List.map_congr_left fun p _ => ?_
  show (if p.1 = (Sum.inl k : Key) then (p.1, v) else p).1 = p.1
  split <;> rfl
def tLitsT (ns : List Int) : TE := fun _ H Q => ns.length ≤ sizeLine ∧ ∀ p, H p = none → Q (.ref p) (upd H p (.tup (ns.map V.int)))
theorem pe_litsT {X : Cx} {x1} {pos : Pos} {es : List Expr} (ns : List Int) (h : litsOf es = some ns) : PE X (.Tuple es x1 pos) (tLitsT ns) := fun pins s σ H Q I h' => pe_tup (pa_litsO es ns h) pins s σ H Q I (by
  show (ns.map V.int).length ≤ sizeLine ∧ _
  rw [List.length_map]; exact h')
theorem comp_tup {K : PySem.W.Frag} {a : Addr} {xs : List V} {g : TG} {tc : TT} {te : TE} {σ0 : St} {H : Hp} {Q : VK} (Pv : Nat → List V → St → Hp → Prop) (h0 : Pv 0 [] σ0 H) (hl : ∀ i ys σ H, i ≤ xs.length → Pv i ys σ H → SqT K H a xs)
    (hs : ∀ i x ys σ H, xs[i]? = some x → Pv i ys σ H → g x σ H fun σ2 H2 => tc σ2 H2 fun b H4 => if b = true then te σ2 H4 fun y H5 => ys.length < sizeLine ∧ Pv (i + 1) (ys ++ [y]) σ2 H5 else Pv (i + 1) ys σ2 H4)
    (hd : ∀ ys σ H, Pv xs.length ys σ H → ∀ D, H D = none → Q (.ref D) (upd H D (.lst ys))) :
    CompW (Itt K a) g tc te Q σ0 H := by
  refine ⟨fun i m ys σ H => m = xs.length - i ∧ i ≤ xs.length ∧ Pv i ys σ H, ⟨xs.length, by simp, Nat.zero_le _, h0⟩, ?_⟩
  rintro i m ys σ H ⟨rfl, hi, p⟩
  have q := hl i ys σ H hi p
  by_cases hlt : i < xs.length
  · refine .inr ⟨⟨xs, xs[i], q, by simp [hlt]⟩, Pv (i + 1), fun ys' σ' H' p' => ⟨xs.length - (i + 1), by omega, rfl, hlt, p'⟩, fun x H' y => ?_⟩
    obtain ⟨e, y⟩ := y
    subst e
    exact hs i x ys σ _ (y xs q) p
  · have e : i = xs.length := by omega
    subst e
    exact .inl ⟨⟨xs, q, Nat.le_refl _⟩, hd ys σ H p⟩
end L2
namespace L2
open PySem PySem.Spec PyProof.Rows
structure XPS (X : Cx) (st : Stmt) (t : TS) : Prop where
  h : PS X st t
structure XPSs (X : Cx) (st : List Stmt) (t : TS) : Prop where
  h : PSs X st t
section
variable {X : Cx} {st : Stmt} {rest : List Stmt} {t u : TS}
theorem xb_litsT {tg : Expr} {es : List Expr} {x1} {tpos pos : Pos} {body : List Stmt} {g : TG} {tb : TS} (ns : List Int) (h : litsOf es = some ns) (hc : X.calm = true) (hp : PassesOwn (model X.prog X.w) X.A X.env X.xe) (hg : PG X tg g) (hb : PSs X body tb)
    (hs : ∀ x, foldedSetIterable (.Tuple es x1 tpos) X.env x = pure x := by intro _; rfl) : XPS X (.For tg (.Tuple es x1 tpos) body [] pos) (tFor (iTup X.K (tLitsT ns)) g tb) := ⟨ps_for hp hc (pi_tup (pe_litsT ns h)) hg hb hs⟩
theorem xb_cons (h1 : XPS X st t) (h2 : PSs X rest u) : XPSs X (st :: rest) (tSeq t u) := ⟨pss_cons h1.h h2⟩
theorem xb_pre (h1 : PS X st t) (h2 : XPSs X rest u) : PSs X (st :: rest) (tSeq t u) := pss_cons h1 h2.h
end
end L2
namespace L2
open PySem PySem.Spec PyProof.Rows
theorem HOk.hide {P : Program} {w : World} {H : Hp} {h : Heap} {as : List Addr} (x : HOk P w H h) (hn : ∀ b ∈ as, H b = none) : HOk P w H (PySem.W.hideAll h as) := fun a o e =>
  (x a o e).stay (fun b u hb q => PySem.W.hideAll_get _ q fun hm => by
    have := hn b hm
    rcases hb with rfl | hb
    · rw [e] at this; cases this
    · rw [hb] at this; cases this) (fun _ q => q) fun _ _ q => q
def CX1 (P : Program) (w : World) : CXT := fun outer H s E e s' =>
  ∃ (a t C : Addr) (vs : List Value) (B : Heap) (H' : Hp), e = .ref a ∧ s'.os = s.os ∧ AllBare s'.gens ∧ Un (frs outer) [] H H' s.heap s'.heap ∧ HOk P w H' B ∧
    (∀ b o, s.heap.get? b = some o → H b = none → b ∉ frs outer → B.get? b = some o) ∧ (∀ b o, s.heap.get? b = some o → b ∉ frs outer → ∃ o', B.get? b = some o') ∧
    Heap.FlyingW B outer a (.ref C) (.ref t) s'.heap ∧ s'.heap.TupAt t vs ∧ B.get? t = none ∧ E (.ref C) none H'
theorem un_fly {fs : List Addr} {H0 H1 : Hp} {h0 h1 h2 B : Heap} (u : Un fs [] H0 H1 h0 h1) (kb : ∀ b o, h0.get? b = some o → H0 b = none → b ∉ fs → B.get? b = some o) (tb : ∀ b o, h0.get? b = some o → b ∉ fs → ∃ o', B.get? b = some o')
    (st : B.StaysIn h2) (up : h1.UpToSlots h2) (fr : ∀ b ∈ fs, ∀ o, h1.get? b = some o → ∀ vs, o.data ≠ .fields vs) : Un fs [] H0 H1 h0 h2 where
  keep := fun b o q n hb _ => st b o (kb b o q n hb)
  slot := fun b o q n hb hx => by
    obtain ⟨sl, e⟩ := u.slot b o q n hb hx
    obtain ⟨sl2, e2⟩ := up b _ e (fr b hb _ e)
    exact ⟨sl2, e2⟩
  free := u.free
  there := fun b o q hx => by
    by_cases hb : b ∈ fs
    · obtain ⟨o', e⟩ := u.there b o q hx
      obtain ⟨sl, e2⟩ := up b o' e (fr b hb _ e)
      exact ⟨_, e2⟩
    · obtain ⟨o', e⟩ := tb b o q hb
      exact ⟨o', st b o' e⟩
  tups := u.tups
  frzs := u.frzs
  tbls := u.tbls
def Raises (X : Cx) (E : XK) : Prop := ∀ (pins : List (Addr × Obj)) (σ : St) (H : Hp) (s : Shared) (h' : Heap) (e C : Addr) (vs : List Value), Inv X pins σ H s → Heap.MadeExcOf s.heap h' e (.ref C) vs → E (.ref C) none H → X.xe (.ref e) { s with heap := h' }
theorem frames_plain {X : Cx} {pins : List (Addr × Obj)} {σ : St} {H : Hp} {s : Shared} (I : Inv X pins σ H s) : ∀ b ∈ frs X.stack, ∀ o, s.heap.get? b = some o → ∀ vs, o.data ≠ .fields vs := fun b hb o ho => by
  obtain ⟨_, o', ho', hn⟩ := I.stack.mem hb
  rw [ho] at ho'
  cases ho'
  exact hn
section
variable {P : Program} {w : World} {K : PySem.W.Frag} {mg : Str → Option Value} {base : Heap} {N : List Str} {qual : Str} {scope : Scope} {f : Addr} {cd : Value} {A : Around} {outer : List Env} {s₀ : Shared} {H₀ : Hp} {E E' : XK}
theorem own_above {pins : List (Addr × Obj)} {σ : St} {H : Hp} {s : Shared} (I : Inv (cxOf (CX1 P w) P w K mg base N qual scope f cd A outer s₀ H₀ E) pins σ H s) {b : Addr} {o : Obj} (h : s₀.heap.get? b = some o) (hb : b ∉ frs outer) :
    b ∉ frs (envOfC qual scope s₀.heap.objs.size f cd :: outer) := fun hm => by
  unfold frs at hm hb
  rw [List.filterMap_cons] at hm
  have hf : (envOfC qual scope s₀.heap.objs.size f cd).frame = some s₀.heap.objs.size := rfl
  rw [hf] at hm
  rcases List.mem_cons.mp hm with z | z
  · have := Heap.lt_size h
    rw [z] at this
    exact absurd this (Nat.lt_irrefl _)
  · exact hb z
theorem raises_cx : Raises (cxOf (CX1 P w) P w K mg base N qual scope f cd A outer s₀ H₀ E) E := by
  intro pins σ H s h' e C vs I hx hE
  show wpAny (model P w) _ (leaving _ (.ref e)) _ _ _
  have hin : ∀ env ∈ (envOfC qual scope s₀.heap.objs.size f cd :: outer), ∀ b, env.frame = some b → b ∈ frs (envOfC qual scope s₀.heap.objs.size f cd :: outer) := fun env he b hb => List.mem_filterMap.mpr ⟨env, he, hb⟩
  have hst : s.heap.FunFrames base (envOfC qual scope s₀.heap.objs.size f cd :: outer) := I.stack
  have hsf : ∀ b ∈ frs (envOfC qual scope s₀.heap.objs.size f cd :: outer), H b = none := I.stkFree
  have hub : Un (frs outer) [] H₀ H s₀.heap s.heap := I.base
  refine wpAny_leaves_madeW (base := PySem.W.hideAll s.heap (frs (envOfC qual scope s₀.heap.objs.size f cd :: outer))) (h := s.heap) I.ok.frames rfl (fun b o q => PySem.W.of_hideAll _ q) (PySem.W.funFrames_hide hst hin) hx fun h2 t fl tup tn up => ?_
  have up' : s.heap.UpToSlots h2 := (Heap.UpToSlots.of_keeps hx.keeps).trans up
  have kb : ∀ b o, s₀.heap.get? b = some o → H₀ b = none → b ∉ frs outer → (PySem.W.hideAll s.heap (frs (envOfC qual scope s₀.heap.objs.size f cd :: outer))).get? b = some o := fun b o q n hb =>
    PySem.W.hideAll_get _ (hub.keep b o q n hb (by simp)) (own_above I q hb)
  have tb : ∀ b o, s₀.heap.get? b = some o → b ∉ frs outer → ∃ o', (PySem.W.hideAll s.heap (frs (envOfC qual scope s₀.heap.objs.size f cd :: outer))).get? b = some o' := fun b o q hb => by
    obtain ⟨o', e'⟩ := hub.there b o q (by simp)
    exact ⟨o', PySem.W.hideAll_get _ e' (own_above I q hb)⟩
  refine ⟨e, t, C, vs, _, H, rfl, I.os, I.bare, un_fly hub kb tb fl.1 up' (fun b hb o ho => ?_), I.hok.hide hsf, kb, tb, fl, tup, tn, hE⟩
  exact frames_plain I b (by show b ∈ frs (envOfC qual scope s₀.heap.objs.size f cd :: outer); unfold frs at hb ⊢; rw [List.filterMap_cons]; exact List.mem_cons_of_mem _ hb) o ho
theorem passes_cx (imp : ∀ c d H, E c d H → E' c d H) : Passes (CX1 P w) (cxOf (CX1 P w) P w K mg base N qual scope f cd A outer s₀ H₀ E') E := by
  intro pins σ H s e s' I h
  obtain ⟨a, t, C, vs, B, H', rfl, os, bare, un, hok, kb, tb, fl, tup, tn, hE⟩ := h
  show wpAny (model P w) _ (leaving _ (.ref a)) _ _ _
  have hub : Un (frs outer) [] H₀ H s₀.heap s.heap := I.base
  have un' : Un (frs (envOfC qual scope s₀.heap.objs.size f cd :: outer)) [] H H' s.heap s'.heap := un
  have sub : ∀ b, b ∈ frs outer → b ∈ frs (envOfC qual scope s₀.heap.objs.size f cd :: outer) := fun b hb => by
    unfold frs at hb ⊢; rw [List.filterMap_cons]; exact List.mem_cons_of_mem _ hb
  refine wpAny_leaves_onW (L := s₀.heap.objs.size) I.ok.frames rfl fl fun h2 fl2 up => ?_
  have kb' : ∀ b o, s₀.heap.get? b = some o → H₀ b = none → b ∉ frs outer → B.get? b = some o := fun b o q n hb =>
    kb b o (hub.keep b o q n hb (by simp)) (hub.free b o q n (by simp)) (own_above I q hb)
  have tb' : ∀ b o, s₀.heap.get? b = some o → b ∉ frs outer → ∃ o', B.get? b = some o' := fun b o q hb => by
    obtain ⟨o', e'⟩ := hub.there b o q (by simp)
    exact tb b o' e' (own_above I q hb)
  have plain : ∀ b ∈ frs outer, ∀ o, s'.heap.get? b = some o → ∀ vs, o.data ≠ .fields vs := fun b hb o ho => by
    obtain ⟨_, o1, ho1, hn⟩ := I.stack.mem (sub b hb)
    obtain ⟨sl, e1⟩ := un'.slot b o1 ho1 (I.stkFree b (sub b hb)) (sub b hb) (by simp)
    rw [ho] at e1
    cases e1
    exact hn
  have unw : Un (frs outer) [] H₀ H' s₀.heap s'.heap := {
    keep := fun b o q n hb _ => un'.keep b o (hub.keep b o q n hb (by simp)) (hub.free b o q n (by simp)) (own_above I q hb) (by simp)
    slot := fun b o q n hb _ => by
      obtain ⟨sl, e1⟩ := hub.slot b o q n hb (by simp)
      obtain ⟨sl2, e2⟩ := un'.slot b _ e1 (hub.free b o q n (by simp)) (sub b hb) (by simp)
      exact ⟨sl2, e2⟩
    free := fun b o q n _ => by
      obtain ⟨sl, e1⟩ := hub.any q n (by simp)
      exact un'.free b _ e1 (hub.free b o q n (by simp)) (by simp)
    there := fun b o q _ => by
      obtain ⟨o', e1⟩ := hub.there b o q (by simp)
      exact un'.there b o' e1 (by simp)
    tups := fun b xs q => un'.tups b xs (hub.tups b xs q)
    frzs := fun b o u q => un'.frzs b o u (hub.frzs b o u q)
    tbls := fun b ps q => by
      obtain ⟨m1, q1⟩ := hub.tbls b ps q
      obtain ⟨m2, q2⟩ := un'.tbls b _ q1
      exact ⟨m1 ++ m2, by rw [q2, Array.append_assoc]⟩ }
  exact ⟨a, t, C, vs, B, H', rfl, os.trans I.os, bare, un_fly unw kb' tb' fl2.1 up plain, hok, kb', tb', fl2, tup.of_slots up, tn, imp _ _ _ hE⟩
end
theorem exc_obj {K : PySem.W.Frag} {h : Heap} {C : Addr} {bmB : List Value} {newId : String} (X : K.In h) (q : PySem.W.excIn K C bmB newId = true) :
    ∃ (bm : List Value) (N : Addr) (nm qn : Str) (bs : List Value) (hdct : Bool) (sn : List Str) (sub : List Value) (ab : Bool) (col : Option Bool) (dd : Option Addr) (k0 k1 k2 k3 k5 : Option Value) (mN : Str → Option Value),
      K.lookup C = some (excClassObj nm qn C N bs bm hdct sn sub ab col dd k0 k1 k2 k3 k5 newId) ∧ h.Ns N mN ∧ mN "__init__" = none ∧ OwnTail h bmB bm := by
  unfold PySem.W.excIn at q
  split at q
  · rename_i dd cd sl look
    split at q
    · rename_i C' bm k0 k1 k2 k3 n k5 hmro hsl
      rw [Bool.and_eq_true, Bool.and_eq_true, Bool.and_eq_true, Bool.and_eq_true, Bool.and_eq_true] at q
      obtain ⟨⟨⟨⟨⟨q1, q2⟩, q3⟩, q4⟩, q5⟩, q6⟩ := q
      have e1 : C' = C := beq_iff_eq.mp q1
      have e2 : n = newId := beq_iff_eq.mp q2
      subst e1 e2
      obtain ⟨nm, bs, mro, ns, qn, hd, sn, sub, ab, col, del⟩ := cd
      have e3 : mro = .ref C' :: bm := hmro
      have e4 : del = false := by
        cases del with
        | false => rfl
        | true => cases q3
      subst e3 e4
      have e5 : sl = #[k0, k1, k2, k3, some (.builtin n), k5] := by
        apply Array.ext'
        exact hsl
      subst e5
      exact ⟨bm, ns, nm, qn, bs, hd, sn, sub, ab, col, dd, k0, k1, k2, k3, k5, _, look, .of_isNs (PySem.W.isNs_of_in X q5), PySem.W.nsMap_none_of_in X q5 (beq_iff_eq.mp q6), PySem.W.tail_of_in X q4⟩
    · cases q
  · cases q
abbrev veB : List Value := [.type "ValueError", .type "Exception", .type "BaseException", .type "object"]
structure Err (K : PySem.W.Frag) (mg : Str → Option Value) (x : Str) (C : Addr) : Prop where
  mg : mg x = some (.ref C)
  ex : PySem.W.excIn K C veB "ValueError.__new__" = true
section
variable {X : Cx}
theorem ps_raise {x : Str} {C : Addr} {E : XK} {e : Expr} {te : TE} {np cpos pos : Pos} (R : Raises X E) (hc : X.calm = true) (c : Err X.K X.mg x C) (he : PE X e te) (hg : Gl X x := by rfl)
    (hs : starEach [e] X.env = (false, eval e X.env) :: starEach [] X.env := by rfl) (hd : (x == ("__debug__" : Str)) = false := by decide) :
    PS X (.Raise (some (.Call (.Name x np) [e] [] cpos)) none pos) (fun _ σ H => te σ H fun _ H1 => E (.ref C) none H1) := by
  intro pins s σ H D I h
  obtain ⟨bm, N, nm, qn, bs, hdct, sn, sub, ab, col, dd, k0, k1, k2, k3, k5, mN, hC, hN, hni, T⟩ := exc_obj I.ok.mod.kin c.ex
  refine wpAny_Raise_call_subT (C := C) (nm := nm) (q := qn) (N := N) (bs := bs) (bm := bm) (hdct := hdct) (sn := sn) (sub := sub) (ab := ab) (col := col) (dd := dd) (k0 := k0) (k1 := k1) (k2 := k2) (k3 := k3) (k5 := k5)
    PySem.F.excBase_ValueError (mN := mN) (T.hasType PySem.F.excBase_ValueError.hasBase) (I.ok.hd hc) (by rw [hs]; rfl) hni (ld_glob I hg c.mg ⟨rfl, ?_⟩ hd)
  rw [hs]
  refine Calls.evalArgs_plain (Calls.spliced_cons (thn (he pins s σ H _ I h) fun v s1 ⟨x, H1, I1, rx, q⟩ => Calls.spliced_nil ?_))
  exact ⟨rfl, (by show 1 ≤ sizeLine; decide), I1.kIn _ _ hC, hN.keeps I1.bk, T.keeps I1.bk, fun h' e' hm => R pins σ H1 s1 h' e' C _ I1 hm q⟩
end
section
variable {P : Program} {w : World} {K : PySem.W.Frag} {mg : Str → Option Value} {base : Heap}
theorem FnOk.lift {k : Nat} {f : Addr} {fd : FuncData} {ps : List Str} {sp : Sp} {CX : CXT} (F : FnOk P w K mg base CX0 k f fd ps sp) : FnOk P w K mg base CX k f fd ps sp :=
  ⟨F.len, fun A outer s H args us vs Q E hr e0 hb hv hs => codeAny_mono (F.run A outer s H args us vs Q E hr e0 hb hv hs) fun r s' h => by
    cases r with
    | error e => exact (show False from h).elim
    | ok v => cases v <;> exact h⟩
theorem FnOk.or {k : Nat} {f : Addr} {fd : FuncData} {ps : List Str} {sp sp' : Sp} {CX : CXT} (F : FnOk P w K mg base CX k f fd ps sp) (G : FnOk P w K mg base CX k f fd ps sp') : FnOk P w K mg base CX k f fd ps (fun vs H Q E => sp vs H Q E ∨ sp' vs H Q E) :=
  ⟨fun vs H Q E h => h.elim (F.len vs H Q E) (G.len vs H Q E), fun A outer s H args us vs Q E hr e0 hb hv hs => hs.elim (F.run A outer s H args us vs Q E hr e0 hb hv) (G.run A outer s H args us vs Q E hr e0 hb hv)⟩
theorem Fun.okx {x qual : Str} {st : Stmt} {f : Addr} {fd : FuncData} {N ps : List Str} {k : Nat} {sp : Sp} (F : Fun K x qual st f fd) (S : FnScope N ps (defScope st)) (len : ∀ vs H Q E, sp vs H Q E → vs.length = ps.length)
    (hbody : ∀ (cdv : Value) (A : Around) (outer : List Env) (s : Shared) (H : Hp) (vs : List V) (Q : VK) (E : XK), Room k (A.deeper (envOfC qual (defScope st) s.heap.objs.size f cdv)) → sp vs H Q E →
      ∃ t, PSs (cxOf (CX1 P w) P w K mg base N qual (defScope st) f cdv A outer s H E) (defBody st) t ∧ t { nx := fun _ H' => Q .non H', rt := Q } (start N vs) H) : FnOk P w K mg base (CX1 P w) (k + 1) f fd ps sp := by
  obtain ⟨oc, od, kV, doc, pm, an, cdv, ct, osl, rfl, lk, hcd⟩ := F.ex
  exact fn_of lk hcd S len fun A outer s H vs Q E hr hsp => hbody cdv A outer s H vs Q E hr hsp
def CalX (P : Program) (w : World) (K : PySem.W.Frag) (mg : Str → Option Value) (base : Heap) (x : Str) (k : Nat) (ps : List Str) (sp : Sp) : Prop :=
  ∃ (f : Addr) (fd : FuncData), mg x = some (.ref f) ∧ PySem.W.keepIn K (.ref f) = true ∧ Binds K fd ps [] ∧ FnOk P w K mg base (CX1 P w) k f fd ps sp
end
section
variable {X : Cx} {x : Str} {k : Nat} {ps : List Str} {sp : Sp} {e : Expr} {es : List Expr} {t : TA} {p pos : Pos} {E : XK}
theorem pe_calx (c : CalX X.prog X.w X.K X.mg X.base x k ps sp) (hr : Room k X.A) (hx : Passes (CX1 X.prog X.w) X E) (ha : PA X (e :: es) t) (hg : Gl X x := by rfl) (hdb : (x == ("__debug__" : Str)) = false := by decide)
    (he : starEach (e :: es) X.env = (false, eval e X.env) :: starEach es X.env := by rfl) (hpl : (backTo pos (starEach es X.env)).any (·.1) = false := by rfl) : PE X (.Call (.Name x p) (e :: es) [] pos) (tCall sp [] E t) := by
  obtain ⟨f, fd, h1, h2, h3, h4⟩ := c
  exact pe_call h4 hr hg h1 h2 h3 .nil hx ha hdb he hpl
end
end L2
namespace L2
open PySem PySem.Spec PyProof.Rows
theorem ObjOk.get {P : Program} {w : World} {H : Hp} {h : Heap} {a : Addr} {o : HO} (x : ObjOk P w H h a o) : ∃ u, h.get? a = some u := by
  cases o with
  | lst xs => obtain ⟨_, _, _, _, e⟩ := x; exact ⟨_, e⟩
  | tup xs => obtain ⟨_, _, _, ob, e, _⟩ := x; exact ⟨_, e⟩
  | dK kvs => obtain ⟨_, _, _, _, o, _, _, e, _⟩ := x; exact ⟨_, e⟩
  | dT kvs => obtain ⟨_, _, _, _, o, _, _, e, _⟩ := x; exact ⟨_, e⟩
  | set S n => obtain ⟨o, _, _, _, e, _⟩ := x; exact ⟨_, e⟩
  | ins C dx fs => obtain ⟨_, _, _, e, _⟩ := x; exact ⟨_, e⟩
  | own y => obtain ⟨_, e⟩ := x; exact ⟨_, e⟩
  | xd fs => obtain ⟨_, ⟨_, _, _, e, _⟩, _⟩ := x; exact ⟨_, e⟩
  | rng lo hi => obtain ⟨_, _, _, e⟩ := x; exact ⟨_, e⟩
  | frz ob u => obtain ⟨e, _⟩ := x; exact ⟨_, e⟩
  | tbl ps => exact ⟨_, show h.get? a = some _ from x⟩
  | met f y => exact ⟨_, show h.get? a = some _ from x⟩
  | ext φ => obtain ⟨_, ⟨_, e⟩, _⟩ := x; exact ⟨_, e⟩
def ExcO (a C : Addr) : HO := .ext fun h => ∃ oe vs, h.get? a = some oe ∧ oe.cls = .ref C ∧ oe.data = .fields vs
section
variable {X : Cx} {pins : List (Addr × Obj)} {σ : St} {H H' : Hp} {s s' : Shared}
theorem gone_ok {M : Model} {A : Around} {E : Value → Shared → Prop} {i : Nat} {n : Str} {pos : Pos} {Q : Unit → Shared → Prop} (I : Inv X pins σ H s) (hN : X.N.Nodup) (hi : X.N[i]? = some n) (hk : X.env.kindOf n = some .local)
    (h : ∀ s', Inv X pins (σ.set i none) H s' → Q () s') : wpAny M A (do bindName X.env n .none; unbindBehindTheSuite X.env n pos) Q E s := by
  obtain ⟨m, hn, hl⟩ := id I.loc
  have hcls : (X.env.scope.kind == .class || (X.env.scope.kind == .module && X.env.locals != X.env.globals)) = false := by rw [I.ok.kind]; rfl
  have hiσ : i < σ.length := by rw [I.len]; exact (List.getElem?_eq_some_iff.mp hi).1
  have cne := I.cne
  refine wpAny_nameGoes_keeps hk hn hcls fun h' v hn' hs => h _ ?_
  obtain ⟨oL, _, _, hoL, _⟩ := id hn
  have low : ∀ b o, X.s₀.heap.get? b = some o → b ≠ X.env.locals := fun b o e => Nat.ne_of_lt (Nat.lt_of_lt_of_le (Heap.lt_size e) I.ok.above)
  refine ⟨I.ok, I.os, I.bare, ⟨fun b o e n hb hx => ?_, fun b o e n hb hx => ?_, I.base.free, fun b o e hx => ?_, I.base.tups, I.base.frzs, I.base.tbls⟩, ⟨_, hn', fun j y v' e1 e2 e3 => ?_⟩, fun y c e => ?_, I.free, I.freeC, fun p hp => ?_, fun b ob e => ?_, by simpa using I.len⟩
  · exact (hs.2 b (low b o e)).trans (I.base.keep b o e n hb hx)
  · obtain ⟨sl, e1⟩ := I.base.slot b o e n hb hx
    exact ⟨sl, (hs.2 b (low b o e)).trans e1⟩
  · obtain ⟨o', e1⟩ := I.base.there b o e hx
    exact ⟨o', (hs.2 b (low b o e)).trans e1⟩
  · by_cases hj : j = i
    · subst hj
      rw [List.getElem?_set_self hiσ] at e2
      cases e2
    · rw [List.getElem?_set_ne (Ne.symm hj)] at e2
      obtain ⟨u', r', q⟩ := hl j y v' e1 e2 e3
      refine ⟨u', r', ?_⟩
      rcases q with ⟨k, e⟩ | ⟨k, c, e, z⟩
      · refine .inl ⟨k, ?_⟩
        have : y ≠ n := fun e => hj (nodup_ix hN e1 (e ▸ hi))
        simp [this, e]
      · exact .inr ⟨k, c, e, z.sameBut hs (cne y c e)⟩
  · obtain ⟨w', z⟩ := I.cell y c e
    exact ⟨w', z.sameBut hs (cne y c e)⟩
  · obtain ⟨e, n, ne, nf, d⟩ := I.pin p hp
    exact ⟨(hs.2 p.1 ne).trans e, n, ne, nf, d⟩
  · refine (I.hok b ob e).stay (fun c w' hc q => (hs.2 c ?_).trans q) (fun _ q => q) fun _ _ q => q
    rintro rfl
    rcases hc with rfl | hc
    · rw [I.free] at e; cases e
    · rw [I.free] at hc; cases hc
abbrev Cx.marked (X : Cx) (a : Addr) : Cx := { X with A := X.A.mark (some (.ref a)), calm := false, xe := fun _ _ => False }
theorem Inv.mark (I : Inv X pins σ H s) (a : Addr) : Inv (X.marked a) pins σ H s :=
  ⟨⟨I.ok.mod, I.ok.kind, I.ok.glob, I.ok.blt, I.ok.above, I.ok.inj, I.ok.has, I.ok.cab, (fun z => nomatch z), I.ok.frames, I.ok.stk, I.ok.exf, I.ok.bs, I.ok.bsz, I.ok.noex, I.ok.exfs, I.ok.funs, I.ok.frf⟩, I.os, I.bare, I.base, I.loc, I.cell, I.free, I.freeC, I.pin, I.hok, I.len⟩
theorem Inv.unmark {a : Addr} (ok : X.Ok) (I : Inv (X.marked a) pins σ H s) : Inv X pins σ H s :=
  ⟨ok, I.os, I.bare, I.base, I.loc, I.cell, I.free, I.freeC, I.pin, I.hok, I.len⟩
theorem Inv.trackNew {a : Addr} {o : HO} (I : Inv X pins σ H s) (hn : H a = none) (h0 : X.s₀.heap.get? a = none) (hL : a ≠ X.env.locals) (hc : ∀ x c, X.env.cells.lookup x = some c → c ≠ a) (hp : ∀ p ∈ X.pn ++ pins, p.1 ≠ a) (new : ObjOk X.prog X.w (upd H a o) s.heap a o) :
    Inv X pins σ (upd H a o) s := by
  refine ⟨I.ok, I.os, I.bare, ⟨I.base.keep, I.base.slot, fun b o' e n hx => ?_, I.base.there, fun b xs e => ?_, fun b o' u e => ?_, fun b ps e => ?_⟩, I.loc, I.cell, ?_, fun x c e => ?_, fun p hq => ?_, I.hok.track hn new, I.len⟩
  · rw [upd_ne (fun z => by rw [z, h0] at e; cases e)]; exact I.base.free b o' e n hx
  · have := I.base.tups b xs e
    rw [upd_ne (ne_of_none this hn)]; exact this
  · have := I.base.frzs b o' u e
    rw [upd_ne (ne_of_none this hn)]; exact this
  · obtain ⟨m, this⟩ := I.base.tbls b ps e
    exact ⟨m, by rw [upd_ne (ne_of_none this hn)]; exact this⟩
  · rw [upd_ne (Ne.symm hL)]; exact I.free
  · rw [upd_ne (hc x c e)]; exact I.freeC x c e
  · obtain ⟨e, n, ne, nf, d⟩ := I.pin p hq
    exact ⟨e, by rw [upd_ne (hp p hq)]; exact n, ne, nf, d⟩
end
def PX (X : Cx) (st : List Stmt) (t : XK → TS) : Prop :=
  ∀ (pins : List (Addr × Obj)) (s : Shared) (σ : St) (H : Hp) (D : Ends) (E : XK) (E1 : Value → Shared → Prop), Inv X pins σ H s →
    (∀ (H1 : Hp) (s1 : Shared) (e : Value) (s' : Shared), Inv X pins σ H1 s1 → CX1 X.prog X.w X.stack H1 s1 E e s' → E1 e s') → t E D σ H → wpAny (model X.prog X.w) X.A (execs st X.env) (SP X pins D) E1 s
section
variable {X : Cx} {x : Str} {k : Nat} {ps : List Str} {sp : Sp} {e : Expr} {es : List Expr} {t : TA} {p pos : Pos}
theorem PA.any (h : PA X.nox es t) (E1 : Value → Shared → Prop) : PA (X.wish E1) es t := fun pos pins s σ H Q I hw =>
  wpAny_mono (h pos pins s σ H Q (I.unwish.wish _) hw) (fun _ _ ⟨v, H', I', r, q⟩ => ⟨v, H', I'.unwish.wish E1, r, q⟩) fun _ _ z => False.elim z
theorem call_at {pins : List (Addr × Obj)} {σ : St} {H : Hp} {s : Shared} {Q : VK} {E : XK} {E1 : Value → Shared → Prop} (c : CalX X.prog X.w X.K X.mg X.base x k ps sp) (hr : Room k X.A) (ha : PA X.nox (e :: es) t) (I : Inv X pins σ H s)
    (hx : ∀ (H1 : Hp) (s1 : Shared) (e : Value) (s' : Shared), Inv X pins σ H1 s1 → CX1 X.prog X.w X.stack H1 s1 E e s' → E1 e s') (h : tCall sp [] E t σ H Q) (hg : Gl X x) (hdb : (x == ("__debug__" : Str)) = false)
    (he : starEach (e :: es) X.env = (false, eval e X.env) :: starEach es X.env) (hpl : (backTo pos (starEach es X.env)).any (·.1) = false) :
    wpAny (model X.prog X.w) X.A (eval (.Call (.Name x p) (e :: es) [] pos) X.env) (EP X pins σ Q) E1 s := by
  obtain ⟨f, fd, h1, h2, h3, h4⟩ := c
  have Iw : Inv (X.wish E1) pins σ H s := I.wish E1
  refine wpAny_Call_Name_kw (ld_glob (E := E1) I hg h1 ?_ hdb)
  refine PySem.W.callWith_K (h₀ := X.base) I.ok.mod.kin h2 (thn ((PA.any ha E1) pos pins s σ H _ Iw h) fun us s1 ⟨vs, H1, I1, r, q⟩ => ⟨I1.kIn, ?_⟩) he hpl
  have I1' : Inv X pins σ H1 s1 := I1.unwish
  have r2 : Vals (vs ++ []) us := by rw [List.append_nil]; exact r
  have hl : (us ++ []).length = ps.length := by rw [List.append_nil, ← r2.length]; exact h4.len _ _ _ _ q
  have hb := h3 s1 us I1'.kIn hl
  rw [List.append_nil] at hb
  refine wpAny_call (codeAny_mono (h4.run X.A X.stack s1 H1 ⟨us, []⟩ us (vs ++ []) Q E hr I1'.env0 hb r2 q) fun rr s' hq => ?_)
  cases rr with
  | error e => exact hx H1 s1 e s' I1' hq
  | ok fl =>
    cases fl with
    | ret u => exact I1'.after hq
    | next => exact False.elim hq
    | brk => exact False.elim hq
    | cont => exact False.elim hq
theorem px_set {i : Nat} {y : Str} {py sp' : Pos} (c : CalX X.prog X.w X.K X.mg X.base x k ps sp) (hr : Room k X.A) (hN : X.N.Nodup) (hi : X.N[i]? = some y) (hy : Loc X.env.scope y) (ha : PA X.nox (e :: es) t) (hg : Gl X x := by rfl) (hdb : (x == ("__debug__" : Str)) = false := by decide)
    (he : starEach (e :: es) X.env = (false, eval e X.env) :: starEach es X.env := by rfl) (hpl : (backTo pos (starEach es X.env)).any (·.1) = false := by rfl)
    (hs : swapsWith (.Call (.Name x p) (e :: es) [] pos) (some (.Name y py)) sp'.line X.env = pure false := by rfl) (hf : X.fn y = true ∨ X.env.scope.names.lookup y = some .local := by first | exact .inl rfl | exact .inr rfl | assumption) :
    PX X [.Assign [.Name y py] (.Call (.Name x p) (e :: es) [] pos) sp'] (fun E D σ H => tCall sp [] E t σ H fun v H1 => D.nx (σ.set i (some v)) H1) := by
  intro pins s σ H D E E1 I hx h
  have first : wpAny (model X.prog X.w) X.A (exec (.Assign [.Name y py] (.Call (.Name x p) (e :: es) [] pos) sp') X.env) (SP X pins D) E1 s :=
    wpAny_Assign_Name (thn (call_at c hr ha I hx h hg hdb he hpl) fun v s1 ⟨y', H1, I1, r1, q1⟩ => store_ok I1 hN hi hy r1 (fun s2 I2 => show SP X pins D .next s2 from ⟨_, H1, I2, q1⟩) hf) hs
  refine wpAny_execs_cons (thn first fun f s1 q => ?_)
  cases f with
  | next => exact wpAny_execs_nil q
  | ret v => exact q
  | brk => exact q
  | cont => exact q
end
section
variable {X : Cx}
def tCaught (K : PySem.W.Frag) (T : Addr) (i : Nat) (ts : TS) (D : Ends) (σ : St) : XK := fun c _ H' =>
  ∃ C, c = .ref C ∧ PySem.W.exmOne K (.ref C) (.ref T) = some true ∧ ∀ a, H' a = none → ts { nx := fun σ' H'' => D.nx (σ'.set i none) H'', rt := fun _ _ => False } (σ.set i (some (.ref a))) (upd H' a (ExcO a C))
theorem ps_try {body : List Stmt} {x n : Str} {T : Addr} {i : Nat} {np hp pos : Pos} {b₀ : Stmt} {suite : List Stmt} {tb : XK → TS} {ts : TS} (hb : PX X body tb) (hm : X.mg x = some (.ref T)) (hN : X.N.Nodup) (hi : X.N[i]? = some n) (hk : X.env.kindOf n = some .local)
    (hsu : ∀ a, PSs (X.marked a) (b₀ :: suite) ts) (hst : X.stack = X.env :: X.outer := by rfl) (hfr : X.env.frame = some X.env.locals := by rfl) (hex0 : X.ex = [] := by rfl) (hg : Gl X x := by rfl) (hdb : (x == ("__debug__" : Str)) = false := by decide) (hf : X.fn n = true ∨ X.env.scope.names.lookup n = some .local := by first | exact .inl rfl | exact .inr rfl | assumption) :
    PS X (.Try body [.ExceptHandler (some (.Name x np)) (some n) (b₀ :: suite) hp] [] [] pos) (fun D σ H => tb (tCaught X.K T i ts D σ) D σ H) := by
  intro pins s σ H D I h
  refine wpAny_Try_except (wpAny_mono (hb pins s σ H D _ (fun e s₁ => wpAny (model X.prog X.w) X.A (noteFrame e X.env) (fun _ s₂ => wpAny (model X.prog X.w) X.A (setFlight e none) (fun _ s₃ => wpAny (model X.prog X.w) X.A (handleBy e X.env [.ExceptHandler (some (.Name x np)) (some n) (b₀ :: suite) hp]) (SP X pins D) X.xe s₃) X.xe s₂) X.xe s₁) I (fun H1 s1 e s' I1 hcx => ?_) h) (fun f s1 q => ?_) fun _ _ z => z)
  · obtain ⟨a, t, C, vs, B, H', rfl, os, bare, un, hok, kb, tb', fl, tup, tn, C', hCe, hex, hts⟩ := hcx
    cases hCe
    rw [hst] at un fl kb tb'
    have hframes : X.A.frames = some (X.env :: X.outer) := by rw [← hst]; exact I1.ok.frames
    have plain : ∀ b ∈ frs (X.env :: X.outer), ∀ o, s'.heap.get? b = some o → ∀ vs, o.data ≠ .fields vs := fun b hb o ho => by
      obtain ⟨_, o', ho', hn⟩ := fl.2.2.1.mem hb
      rw [ho] at ho'
      cases ho'
      exact hn
    have notB : B.get? a = none := fl.2.1
    have notF : a ∉ frs (X.env :: X.outer) := fun hm => by
      obtain ⟨oe, ws, he, _, hd, _⟩ := fl.first
      exact plain a hm oe he ws hd
    have new1 : s1.heap.get? a = none := by
      cases q : s1.heap.get? a with
      | none => rfl
      | some o =>
        obtain ⟨o', e'⟩ := tb' a o q notF
        rw [notB] at e'; cases e'
    have new0 : X.s₀.heap.get? a = none := by
      cases q : X.s₀.heap.get? a with
      | none => rfl
      | some o =>
        by_cases hx : a ∈ X.ex
        · rw [hex0] at hx; simp at hx
        · obtain ⟨o', e'⟩ := I1.base.there a o q hx
          rw [new1] at e'; cases e'
    have hHa : H' a = none := by
      cases q : H' a with
      | none => rfl
      | some o => obtain ⟨u, hu⟩ := (hok a o q).get; rw [notB] at hu; cases hu
    refine wpAny_looks_onW hframes hfr fl fun h₄ held₄ up₄ => ?_
    refine wpAny_landsW held₄ fun h₅ fl₅ up₅ => ?_
    have inv : ∀ h, B.StaysIn h → s'.heap.UpToSlots h → Inv X pins σ H' { s' with heap := h } := fun h st up =>
      I1.call' (ch := []) (s' := { s' with heap := h }) os (by rw [hst]; exact un_fly un kb tb' st up plain) (hok.kept st) bare (fun b z => absurd z (by simp))
    have I5 := inv h₅ fl₅.1 (up₄.trans up₅)
    refine wpAny_handleBy_cons (codeAny_handlers_test (ld_glob (X := X.marked a) (E := _) (I5.mark a) hg hm ?_ hdb)) (by intro q; cases q)
    obtain ⟨ob, hob, hobc⟩ := fl₅.there
    have LT : PySem.W.Looks (model X.prog X.w) h₅ (typeOf (.ref a)) (.ref C) := hobc ▸ (PySem.W.Looks.ld hob).andThen .now
    refine PySem.W.exm_one (M := model X.prog X.w) (h := h₅) I5.kIn LT hex _ _ _ _ (fun _ _ q => q) ?_
    refine codeAny_handlers_suite_as ?_
    refine lands_againW fl₅ fun h₆ fl₆ up₆ => ?_
    have I6 := inv h₆ fl₆.1 ((up₄.trans up₅).trans up₆)
    have hLa : a ≠ X.env.locals := fun z => notF (by unfold frs; rw [List.filterMap_cons, hfr]; rw [z]; exact List.mem_cons_self)
    have hca : ∀ y c, X.env.cells.lookup y = some c → c ≠ a := fun y c e z => by
      obtain ⟨v, o, ho, _⟩ := I1.cell y c e
      rw [z, new1] at ho; cases ho
    have hpa : ∀ q ∈ X.pn ++ pins, q.1 ≠ a := fun q hq z => by
      obtain ⟨e, _⟩ := I1.pin q hq
      rw [z, new1] at e; cases e
    obtain ⟨oe, ws, he6, hc6, hd6, _⟩ := fl₆.first
    have I7 : Inv X pins σ (upd H' a (ExcO a C)) { s' with heap := h₆ } := I6.trackNew hHa new0 hLa hca hpa ⟨⟨oe, ws, he6, hc6, hd6⟩, ⟨oe, he6⟩, fun h1 h2 ⟨o1, v1, q1, q2⟩ st => ⟨o1, v1, st o1 q1, q2⟩⟩
    have hts' := hts a hHa
    refine store_ok I7 hN hi (.inl hk) (show RelV (.ref a) (.ref a) from rfl) (fun s2 I8 => ?_) hf
    refine wpAny_mono (hsu a pins s2 _ _ _ (I8.mark a) hts') (fun f s3 q => ?_) fun _ _ z => False.elim z
    cases f with
    | next =>
      obtain ⟨σ', H'', I9, q⟩ := q
      exact gone_ok (I9.unmark I1.ok) hN hi hk fun s4 I10 => show SP X pins D .next s4 from ⟨_, _, I10, q⟩
    | ret v => obtain ⟨_, _, _, _, _, q⟩ := q; exact q.elim
    | brk => obtain ⟨_, _, _, q⟩ := q; exact q.elim
    | cont => obtain ⟨_, _, _, q⟩ := q; exact q.elim
  · cases f with
    | next => exact wpAny_execs_nil q
    | ret v => exact q
    | brk => exact q
    | cont => exact q
end
end L2
namespace L2
open PySem PySem.Spec PyProof.Rows PySem.W PySem.Builtin PySem.Builtin.ObjectAttr PySem.Builtin.Getset_descriptor
section
variable {prog : Program} {w : World} {A : Around} {E : Value → Shared → Prop} {s : Shared} {K : PySem.W.Frag} {a C : Addr}
structure ErrI (K : PySem.W.Frag) (C : Addr) : Prop where
  ga : PySem.W.findIn K (.ref C) "__getattribute__" = some (some (.builtin "BaseException.__getattribute__"))
  hook : PySem.W.findIn K (.ref C) "__getattr__" = some none
  cls : PySem.W.findIn K (.ref C) "__class__" = some (some (.builtin "object.__class__"))
  get : PySem.W.specialIn K (.builtin "object.__class__") "__get__" = some (some (.builtin "getset_descriptor.__get__"))
  tak : PySem.W.takesIn K (.builtin "object.__class__") = some true
  bex : PySem.W.mroIn K C (.type "BaseException") = some true
  obj : PySem.W.mroIn K C (.type "object") = some true
  isc : ∃ oc, K.lookup C = some oc ∧ ∃ cd, oc.data = .cls cd
theorem exc_class_get {tp : Value} {R : Result → Shared → Prop} (X : K.In s.heap) (L0 : PySem.W.Looks (model prog w) s.heap (typeOf (.ref a)) (.ref C)) (hm : PySem.W.mroIn K C (.type "object") = some true)
    (h : R (.ok (.ret (.ref C))) s) : codeAny (model prog w) A (.call (.builtin "getset_descriptor.__get__") ⟨[.builtin "object.__class__", .ref a, tp], []⟩) R s := by
  obtain ⟨hh, g, dr, t, os⟩ := s
  have L1 := looks_mroIn (M := model prog w) X hm
  refine codeAny_call_builtin KF.slot_gs.plain KF.entry_gs (KF.slot_gs.check _ _ _ _ _ _ _ _ KF.type_class (KF.args_gs _ _ _) ?_)
  unfold Builtin.«getset_descriptor.__get__» descrGet
  rw [dga_obj]
  refine wpAny_bind (wpAny_pure ?_)
  unfold descrGetter descrCheckInstance descrNameAndClass isInstance
  simp only [KF.owner_class]
  repeat lk
  refine ⟨Code.quiet_builtin _ (by decide +kernel), codeAny_builtin KF.entry_class ?_⟩
  unfold Builtin.«object.__class__» shownTypeOf
  repeat lk
  exact h
theorem exc_check {M : Model} {nameV : Value} {Q : Unit → Shared → Prop} (X : K.In s.heap) (L0 : PySem.W.Looks M s.heap (typeOf (.ref a)) (.ref C)) (hm : PySem.W.mroIn K C (.type "BaseException") = some true)
    (hq : Q () s) : wpAny M A (checkBuiltinCall "BaseException.__getattribute__" ⟨[.ref a, nameV], []⟩) Q E s := by
  obtain ⟨hh, g, dr, t, os⟩ := s
  have L1 := looks_mroIn (M := M) X hm
  have hk : builtinKind "BaseException.__getattribute__" = some .slot := by decide +kernel
  have hsplit : splitId "BaseException.__getattribute__" = some ("BaseException", "__getattribute__") := by decide +kernel
  have ha := F.args_bexc_ga (.ref a) nameV
  simp only [checkBuiltinCall, hk, hsplit]
  unfold isInstance
  repeat (first | lk | wp_step)
  exact hq
theorem exc_entry {tk : Tok} {Q : Fin → Shared → Prop} (X : K.In s.heap) (L0 : PySem.W.Looks (model prog w) s.heap (typeOf (.ref a)) (.ref C)) (I : ErrI K C) (hq : Q (.done (.ret (.ref C))) s) :
    wpAny (model prog w) A (Builtin.«object.__getattribute__» ⟨[.ref a, .str "__class__" tk], []⟩) Q E s := by
  obtain ⟨hh, g, dr, t, os⟩ := s
  have L1 := looks_findIn (M := model prog w) X I.cls
  have L2 := looks_specialIn (M := model prog w) X I.get
  have L3 := looks_takesIn (M := model prog w) X I.tak
  unfold Builtin.«object.__getattribute__»
  repeat lk
  refine wpAny_run (exc_class_get X L0 I.obj ?_)
  repeat (first | exact hq | lk)
theorem exc_class_attr {Q : Option Value → Shared → Prop} (X : K.In s.heap) (L0 : PySem.W.Looks (model prog w) s.heap (typeOf (.ref a)) (.ref C)) (I : ErrI K C) (h : Q (some (.ref C)) { s with toks := s.toks + 1 }) :
    wpAny (model prog w) A (getAttr? (.ref a) "__class__") Q E s := by
  obtain ⟨hh, g, dr, t, os⟩ := s
  have L1 := looks_findIn (M := model prog w) X I.ga
  have L2 := looks_findIn (M := model prog w) X I.hook
  have hb := PySem.F.attrBase_ValueError.ga.bind (.ref a)
  unfold getAttr? getAttrBy? getAttrBy
  refine wpAny_bind (wpAny_mkText (wpAny_bind (wpAny_attempt (wpAny_holding (wpAny_bind (L0.at (wpAny_bind (L1.at ?_))))))))
  dsimp only
  rw [if_neg (show ¬ ((onTheHeap (Value.ref C) && Value.builtin "BaseException.__getattribute__" == Value.builtin "object.__getattribute__") = true) from by
    rw [show (Value.builtin "BaseException.__getattribute__" == Value.builtin "object.__getattribute__") = false from by decide +kernel, Bool.and_false]; exact Bool.false_ne_true)]
  unfold getAttrByItsOwn hookBefore
  refine wpAny_bind ?_
  rw [if_pos (show onTheHeap (Value.ref C) = true from rfl)]
  refine L2.at ?_
  refine wpAny_bind (wpAny_attempt (wpAny_holding ?_))
  unfold callGetattribute
  rw [if_neg (by simp)]
  unfold boundAndCalled
  rw [hb]
  refine wpAny_bind (wpAny_pure ?_)
  refine wpAny_call (codeAny_call_builtin PySem.F.attrBase_ValueError.ga.plain F.entry_bexc_ga (exc_check X L0 I.bex (exc_entry X L0 I ?_)))
  refine handed_on (M := model prog w) rfl ?_
  exact wpAny_pure h
theorem kitx_exc (I : ErrI K C) : PySem.W.KitX K (.ref a) (.ref C) (fun h => ∃ oe vs, h.get? a = some oe ∧ oe.cls = .ref C ∧ oe.data = .fields vs) where
  ty := fun M h _ ⟨oe, vs, h1, h2, _⟩ => h2 ▸ (PySem.W.Looks.ld h1).andThen .now
  it := fun M h X _ => by
    obtain ⟨oc, h1, cd, h2⟩ := I.isc
    obtain ⟨c1, c2, c3, c4⟩ := oc
    dsimp only at h2
    subst h2
    intro A' Q' E' s' k q
    unfold isType loadHead
    exact wpAny_bind (wpAny_loadPart (k _ _ (X _ _ h1)) (wpAny_pure q))
  ne := fun h tp dd its n sl X htp => by
    obtain ⟨oc, h1, cd, h2⟩ := I.isc
    refine Bool.eq_false_iff.mpr fun q => ?_
    have e : C = tp := Value.ref.inj (beq_iff_eq.mp q)
    subst e
    have z := (X _ _ h1).symm.trans htp
    cases z
    cases h2
  ca := fun {prog w A E Q s} X ⟨oe, vs, h1, h2, _⟩ k => exc_class_attr X (h2 ▸ (PySem.W.Looks.ld h1).andThen .now) I k
end
section
variable {X : Cx}
def rIsiX (K : PySem.W.Frag) : List V → Hp → VK → Prop := fun xs H Q => ∃ a C c u b, xs = [.ref a, c] ∧ ((∃ D, c = .ref D ∧ u = Value.ref D) ∨ (∃ n, c = .ty n ∧ u = Value.type n)) ∧ H a = some (ExcO a C) ∧ ErrI K C ∧ PySem.W.kitOne K (.ref C) u = some b ∧ Q (.bl b) H
theorem call_isiX : CallR X (.builtin "isinstance") (rIsiX X.K) := by
  intro pins s σ H xs us Q I r h
  obtain ⟨a, C, c, u, b, rfl, hc, hH, ei, hk, q⟩ := h
  obtain ⟨u1, u2, rfl, r1, r2⟩ := vals2 r
  cases (show u1 = Value.ref a from r1)
  have e2 : u2 = u := by
    rcases hc with ⟨D, rfl, rfl⟩ | ⟨n, rfl, rfl⟩
    · exact r2
    · exact r2
  subst e2
  have p := (show ObjOk X.prog X.w H s.heap a (ExcO a C) from I.hok a _ hH).1
  exact PySem.W.kia_one (kitx_exc ei) I.kIn p hk (fun z => nomatch z) fun tk => ⟨.bl b, H, I.tok tk, rfl, q⟩
theorem pe_isiX {a b : Expr} {ta : TA} {p pos : Pos} (hm : X.mg "isinstance" = none) (ha : PA X [a, b] ta) (hg : Gl X "isinstance" := by rfl)
    (he : starEach [a, b] X.env = (false, eval a X.env) :: starEach [b] X.env := by rfl) (hpl : (backTo pos (starEach [b] X.env)).any (·.1) = false := by rfl) :
    PE X (.Call (.Name "isinstance" p) [a, b] [] pos) (tCB (rIsiX X.K) ta) := pe_callB call_isiX hg hm boot_isi ha (by decide) (by decide) he hpl
theorem boot_VE : bootBuiltins "ValueError" = some (.type "ValueError") := by decide +kernel
theorem pe_tyVE {p : Pos} (hm : X.mg "ValueError" = none) (hg : Gl X "ValueError" := by rfl) : PE X (.Name "ValueError" p) (tC (.ty "ValueError")) := pe_bltn hg hm boot_VE rfl
end
theorem kit_own {K : PySem.W.Frag} {C D : Addr} {b : Bool} (h1 : PySem.W.isClsIn K D = true) (h2 : PySem.W.typeIn K (.ref D) = some (.type "type")) (h3 : PySem.W.mroIn K C (.ref D) = some b) (hs : C = D → b = true) : PySem.W.kitOne K (.ref C) (.ref D) = some b := by
  unfold PySem.W.kitOne
  by_cases e : C = D
  · rw [if_pos (by rw [e]; exact beq_self_eq_true _), hs e]
  · rw [if_neg (fun q => e (Value.ref.inj (beq_iff_eq.mp q)))]
    unfold PySem.W.kitCls
    dsimp only
    rw [if_pos (by rw [Bool.and_eq_true]; exact ⟨h1, by rw [h2]; exact beq_self_eq_true _⟩)]
    exact h3
theorem kit_ve {K : PySem.W.Frag} {C : Addr} (h3 : PySem.W.mroIn K C (.type "ValueError") = some true) : PySem.W.kitOne K (.ref C) (.type "ValueError") = some true := by
  unfold PySem.W.kitOne
  rw [if_neg (fun q => by cases beq_iff_eq.mp q)]
  unfold PySem.W.kitCls
  dsimp only
  rw [if_pos (by decide +kernel)]
  exact h3
theorem exm_own {K : PySem.W.Frag} {C T : Addr} {b : Bool} (h0 : PySem.W.mroIn K T (.type "BaseException") = some true) (h1 : PySem.W.isClsIn K T = true) (h2 : PySem.W.typeIn K (.ref T) = some (.type "type")) (h3 : PySem.W.mroIn K C (.ref T) = some b) : PySem.W.exmOne K (.ref C) (.ref T) = some b := by
  unfold PySem.W.exmOne
  rw [if_pos (show (PySem.W.subIn K (.ref T) (.type "BaseException") == some true) = true from beq_iff_eq.mpr h0)]
  unfold PySem.W.kitCls
  dsimp only
  rw [if_pos (by rw [Bool.and_eq_true]; exact ⟨h1, by rw [h2]; exact beq_self_eq_true _⟩)]
  exact h3
theorem errI_mk {K : PySem.W.Frag} {C : Addr} (ga : PySem.W.findIn K (.ref C) "__getattribute__" = some (some (.builtin "BaseException.__getattribute__"))) (hook : PySem.W.findIn K (.ref C) "__getattr__" = some none) (cls : PySem.W.findIn K (.ref C) "__class__" = some (some (.builtin "object.__class__")))
    (get : PySem.W.specialIn K (.builtin "object.__class__") "__get__" = some (some (.builtin "getset_descriptor.__get__"))) (tak : PySem.W.takesIn K (.builtin "object.__class__") = some true) (bex : PySem.W.mroIn K C (.type "BaseException") = some true) (obj : PySem.W.mroIn K C (.type "object") = some true) (isc : PySem.W.isClsIn K C = true) : ErrI K C :=
  ⟨ga, hook, cls, get, tak, bex, obj, by
    obtain ⟨cd, h⟩ := Option.isSome_iff_exists.mp (show (PySem.W.clsIn K C).isSome = true from isc)
    unfold PySem.W.clsIn at h
    split at h
    · rename_i ho
      exact ⟨_, ho, _, rfl⟩
    · cases h⟩
structure ErrAll (K : PySem.W.Frag) (mg : Str → Option Value) (T : Addr) (cs : List (Str × Addr)) : Prop where
  top : mg "TurnError" = some (.ref T)
  err : ∀ p ∈ cs, Err K mg p.1 p.2
  inst : ∀ p ∈ cs, ErrI K p.2
  exm : ∀ p ∈ cs, PySem.W.exmOne K (.ref p.2) (.ref T) = some true
  ve : ∀ p ∈ cs, PySem.W.kitOne K (.ref p.2) (.type "ValueError") = some true
  pair : ∀ p ∈ cs, ∀ q ∈ cs, PySem.W.kitOne K (.ref p.2) (.ref q.2) = some (decide (p.1 = q.1))
end L2
namespace L2
open PySem PySem.Spec PyProof.Rows
section
variable {X : Cx}
def rCountV : V → List V → Hp → VK → Prop := fun x vs H Q => ∃ (l : Addr) (ns : List V) (v : V), x = .ref l ∧ vs = [v] ∧ flatV v = true ∧ ns.all flatV = true ∧ H l = some (.lst ns) ∧ Q (.int ((ns.countP fun i => eqV i v : Nat) : Int)) H
theorem mt_countV : MtM X "list.count" rCountV := by
  intro pins s σ H x vs v us Q I rx rv h
  obtain ⟨l, ns, k, rfl, rfl, fk, fl, hH, q⟩ := h
  cases rx
  cases rv with
  | cons rk rr =>
  rename_i u _
  cases rr
  obtain ⟨z, its, n, r, hl, e⟩ := I.lstM hH
  refine call_meets F.slot_list_count ⟨_, e, rfl⟩ F.entry_list_count (F.args_list_count_2 _ _)
    (SeqAt.list_countAt l its.toArray n none #[] u (eqU k)) ⟨e, fun y hy => ?_, ?_⟩
  · exact mem_eqAt rk fk r fl y (by simpa using hy)
  · have cnt : ∀ (ms : List V) (us : List Value), Vals ms us → ms.all flatV = true → us.countP (eqU k) = ms.countP fun i => eqV i k := by
      intro ms
      induction ms with
      | nil => intro us h _; cases h; rfl
      | cons m ms ih =>
        intro us h f
        rw [List.all_cons, Bool.and_eq_true] at f
        cases h with
        | cons h1 h2 => rw [List.countP_cons, List.countP_cons, ih _ h2 f.2, eqU_of h1 f.1]
    rw [show its.toArray.toList.countP (eqU k) = ns.countP fun i => eqV i k from cnt ns its r fl]
    exact ⟨.int _, H, I.tok _, ⟨_, rfl⟩, q⟩
def rIndexV : V → List V → Hp → VK → Prop := fun x vs H Q => ∃ (l : Addr) (ns : List V) (v : V) (j : Nat), x = .ref l ∧ vs = [v] ∧ flatV v = true ∧ ns.all flatV = true ∧ H l = some (.lst ns) ∧ (∃ y, ns[j]? = some y ∧ eqV y v = true) ∧ (∀ i y, i < j → ns[i]? = some y → eqV y v = false) ∧ ns.length ≤ 1000 ∧ Q (.int j) H
theorem mt_indexV : MtM X "list.index" rIndexV := by
  intro pins s σ H x vs v us Q I rx rv h
  obtain ⟨l, ns, k, j, rfl, rfl, fk, fl, hH, ⟨y, hj, hy⟩, hno, hz, q⟩ := h
  cases rx
  cases rv with
  | cons rk rr =>
  rename_i u _
  cases rr
  obtain ⟨z, its, n, r, hl, e⟩ := I.lstM hH
  have hjl : j < ns.length := (List.getElem?_eq_some_iff.mp hj).1
  have hjI : j < its.length := by omega
  have at_ : ∀ m (hm : m < its.length), eqU k its[m] = eqV (ns[m]'(by omega)) k := fun m hm => by
    have e1 : ns[m]? = some (ns[m]'(by omega)) := List.getElem?_eq_getElem (by omega)
    obtain ⟨u1, z1, q1⟩ := r.get e1
    rw [List.getElem?_eq_getElem hm] at z1
    rw [Option.some.inj z1]
    exact eqU_of q1 (List.all_eq_true.mp fl _ (List.getElem_mem _))
  refine call_meets F.slot_list_index ⟨_, e, rfl⟩ F.entry_list_index (F.args_list_index_2 _ _)
    (SeqAt.list_indexAt l its.toArray n none #[] u (eqU k) j (by simpa using hjI) (by omega) ?_ ?_) ⟨e, fun y hy => ?_, ?_⟩
  · have : eqU k its.toArray[j] = _ := at_ j hjI
    rw [this, ← hy, (List.getElem?_eq_some_iff.mp hj).2]
  · intro m hm hmj
    have hm' : m < its.length := by simpa using hm
    have : eqU k its.toArray[m] = _ := at_ m hm'
    rw [this]
    exact hno m _ hmj (List.getElem?_eq_getElem (by omega))
  · exact mem_eqAt rk fk r fl y (by simpa using hy)
  · exact ⟨.int j, H, I.tok _, ⟨_, rfl⟩, q⟩
theorem pe_countV (K : PySem.W.Frag) {o e : Expr} {to : TE} {t : TA} {apos pos : Pos} (ho : PE X o to) (ha : PA X [e] t) (hK : X.K = K := by rfl)
    (hbase : attributeBase o "count" X.env (eval o X.env) = eval o X.env := by rfl)
    (hfew : ((backTo pos (starEach [e] X.env)).all (fun x => !x.1) && (backToKw pos (keywordEach [] X.env)).all (fun x => x.1.isSome)
      && decide ([e].length + ([] : List Keyword).length + (if ([] : List Keyword).isEmpty then 0 else 1) < 30)) = true := by rfl)
    (hline : (apos.endLine == pos.line) = true := by rfl) (hs : starEach [e] X.env = (false, eval e X.env) :: starEach [] X.env := by rfl) (hplain : (backTo pos (starEach [] X.env)).any (·.1) = false := by rfl) :
    PE X (.Call (.Attribute o "count" apos) [e] [] pos) (tBM K "list" rCountV to t) := by
  subst hK
  exact pe_bm PySem.F.plainAttrs_list PySem.F.slot_list_count PySem.F.type_list_count mt_countV ho ha hbase hfew hline hs hplain
theorem pe_indexV (K : PySem.W.Frag) {o e : Expr} {to : TE} {t : TA} {apos pos : Pos} (ho : PE X o to) (ha : PA X [e] t) (hK : X.K = K := by rfl)
    (hbase : attributeBase o "index" X.env (eval o X.env) = eval o X.env := by rfl)
    (hfew : ((backTo pos (starEach [e] X.env)).all (fun x => !x.1) && (backToKw pos (keywordEach [] X.env)).all (fun x => x.1.isSome)
      && decide ([e].length + ([] : List Keyword).length + (if ([] : List Keyword).isEmpty then 0 else 1) < 30)) = true := by rfl)
    (hline : (apos.endLine == pos.line) = true := by rfl) (hs : starEach [e] X.env = (false, eval e X.env) :: starEach [] X.env := by rfl) (hplain : (backTo pos (starEach [] X.env)).any (·.1) = false := by rfl) :
    PE X (.Call (.Attribute o "index" apos) [e] [] pos) (tBM K "list" rIndexV to t) := by
  subst hK
  exact pe_bm PySem.F.plainAttrs_list PySem.F.slot_list_index PySem.F.type_list_index mt_indexV ho ha hbase hfew hline hs hplain
end
def strsOf : List Expr → Option (List Str)
  | [] => some []
  | .Constant (.str i) _ _ :: es => (strsOf es).map (i :: ·)
  | _ :: _ => none
def tStrA (ns : List Str) : TA := fun _ H Q => Q (ns.map V.str) H
def tStrs (ns : List Str) : TE := fun _ H Q => ns.length ≤ sizeLine ∧ ∀ p, H p = none → Q (.ref p) (upd H p (.lst (ns.map V.str)))
theorem starEach_str (i : Str) (j : Nat) (p : Pos) (es : List Expr) (env : Env) : starEach (.Constant (.str i) j p :: es) env = (false, eval (.Constant (.str i) j p) env) :: starEach es env := rfl
theorem pa_strsO {X : Cx} : ∀ (es : List Expr) (ns : List Str), strsOf es = some ns → PA X es (tStrA ns)
  | [], ns, h => by
    have : ns = [] := (Option.some.inj h).symm
    subst this
    exact fun pos pins s σ H Q I h => pa_nil pos pins s σ H Q I h
  | e :: es, ns, h => by
    unfold strsOf at h
    split at h
    · rename_i h0; cases h0
    · rename_i i j p es' heq
      cases heq
      cases ho : strsOf es with
      | none => rw [ho] at h; cases h
      | some ms =>
        rw [ho] at h
        cases h
        exact fun pos pins s σ H Q I h => (pa_cons (te := tC (.str i)) pe_str (pa_strsO es ms ho) (starEach_str i j p es X.env)) pos pins s σ H Q I h
    · cases h
theorem pe_strsO {X : Cx} {pos : Pos} {es : List Expr} (ns : List Str) (h : strsOf es = some ns) : PE X (.List es pos) (tStrs ns) := fun pins s σ H Q I h' => pe_lst (pa_strsO es ns h) pins s σ H Q I (by
  show (ns.map V.str).length ≤ sizeLine ∧ _
  rw [List.length_map]; exact h')
theorem xb_setS {X : Cx} {i : Nat} {y : Str} {es : List Expr} {py lp sp : Pos} (ns : List Str) (h : strsOf es = some ns) (hN : X.N.Nodup) (hi : X.N[i]? = some y) (hy : Loc X.env.scope y) (hs : swapsWith (.List es lp) (some (.Name y py)) sp.line X.env = pure false := by rfl)
    (hf : X.fn y = true ∨ X.env.scope.names.lookup y = some .local := by first | exact .inl rfl | exact .inr rfl | assumption) :
    XPS X (.Assign [.Name y py] (.List es lp) sp) (tAsg (tStrs ns) (gName i)) := ⟨ps_set hN hi hy (pe_strsO ns h) hs hf⟩
end L2
namespace L2
open PySem PySem.Spec PyProof.Rows
mutual
inductive Sh (H : Hp) : V → PyData → Prop
  | non : Sh H .non .none
  | bl (b : Bool) : Sh H (.bl b) (.bool b)
  | int (i : Int) : Sh H (.int i) (.int i)
  | str (x : Str) : Sh H (.str x) (.str x)
  | lst {a : Addr} {xs : List V} {ds : List PyData} (e : H a = some (.lst xs)) (h : ShA H xs ds) : Sh H (.ref a) (.list ds)
  | tup {a : Addr} {xs : List V} {ds : List PyData} (e : H a = some (.tup xs)) (h : ShA H xs ds) : Sh H (.ref a) (.tuple ds)
inductive ShA (H : Hp) : List V → List PyData → Prop
  | nil : ShA H [] []
  | cons {x : V} {xs : List V} {d : PyData} {ds : List PyData} (h : Sh H x d) (hs : ShA H xs ds) : ShA H (x :: xs) (d :: ds)
end
mutual
theorem Sh.reads {X : Cx} {pins : List (Addr × Obj)} {σ : St} {H : Hp} {s : Shared} (I : Inv X pins σ H s) : ∀ {v : V} {d : PyData} {u : Value}, Sh H v d → RelV v u → ∃ as, Reads s.heap u d as
  | _, _, u, .non, r => by cases (show u = Value.none from r); exact ⟨_, .none⟩
  | _, _, u, .bl b, r => by cases (show u = Value.bool b from r); exact ⟨_, .bool b⟩
  | _, _, u, .int i, r => by obtain ⟨t, rfl⟩ := r; exact ⟨_, .int i t⟩
  | _, _, u, .str x, r => by obtain ⟨t, rfl⟩ := r; exact ⟨_, .str x t⟩
  | _, _, u, .lst e h, r => by
    cases r
    obtain ⟨z, its, n, rv, hl, ho⟩ := I.lstM e
    obtain ⟨as, ra⟩ := ShA.reads I h rv
    exact ⟨_, .list ho rfl rfl (by simpa using ra)⟩
  | _, _, u, .tup e h, r => by
    cases r
    obtain ⟨z, its, rv, o, ho, hc, n, hd⟩ := I.hok _ _ e
    obtain ⟨as, ra⟩ := ShA.reads I h rv
    exact ⟨_, .tuple ho hc hd (by simpa using ra)⟩
theorem ShA.reads {X : Cx} {pins : List (Addr × Obj)} {σ : St} {H : Hp} {s : Shared} (I : Inv X pins σ H s) : ∀ {vs : List V} {ds : List PyData} {us : List Value}, ShA H vs ds → Vals vs us → ∃ as, ReadsAll s.heap us ds as
  | _, _, _, .nil, .nil => ⟨_, .nil⟩
  | _, _, _, .cons h hs, .cons r rs => by
    obtain ⟨as, x⟩ := Sh.reads I h r
    obtain ⟨bs, y⟩ := ShA.reads I hs rs
    exact ⟨_, .cons x y⟩
end
mutual
theorem Sh.keep {H H' : Hp} (s : Same H H') : ∀ {v : V} {d : PyData}, Sh H v d → Sh H' v d
  | _, _, .non => .non
  | _, _, .bl b => .bl b
  | _, _, .int i => .int i
  | _, _, .str x => .str x
  | _, _, .lst e h => .lst (s _ _ e) (ShA.keep s h)
  | _, _, .tup e h => .tup (s _ _ e) (ShA.keep s h)
theorem ShA.keep {H H' : Hp} (s : Same H H') : ∀ {v : List V} {d : List PyData}, ShA H v d → ShA H' v d
  | _, _, .nil => .nil
  | _, _, .cons h hs => .cons (Sh.keep s h) (ShA.keep s hs)
end
mutual
theorem Sh.nodict {H : Hp} : ∀ {v : V} {d : PyData}, Sh H v d → d.hasDict = false
  | _, _, .non => by simp only [PyData.hasDict]
  | _, _, .bl b => by simp only [PyData.hasDict]
  | _, _, .int i => by simp only [PyData.hasDict]
  | _, _, .str x => by simp only [PyData.hasDict]
  | _, _, .lst e h => by simp only [PyData.hasDict]; exact ShA.nodict h
  | _, _, .tup e h => by simp only [PyData.hasDict]; exact ShA.nodict h
theorem ShA.nodict {H : Hp} : ∀ {v : List V} {d : List PyData}, ShA H v d → PyData.hasDictAll d = false
  | _, _, .nil => by simp only [PyData.hasDictAll]
  | _, _, .cons h hs => by simp only [PyData.hasDictAll]; rw [Sh.nodict h, ShA.nodict hs]; rfl
end
theorem textFrom_le : ∀ (ts : List Str) (k : Nat) (acc : Str) (m : Nat), (∀ t ∈ ts, t.length ≤ m) → (textFrom k acc ts).length ≤ acc.length + ts.length * (m + 2)
  | [], k, acc, m, _ => by show acc.length ≤ _; omega
  | t :: r, k, acc, m, h => by
    have ih := textFrom_le r (k + 1) (acc ++ (if k > 0 then ", " else "" : String) ++ t) m fun x hx => h x (List.mem_cons_of_mem _ hx)
    have ht := h t List.mem_cons_self
    have el : ((acc ++ (if k > 0 then ", " else "" : String) ++ t : Str)).length ≤ acc.length + 2 + t.length := by
      rw [strLen_append, strLen_append]
      by_cases z : k > 0
      · rw [if_pos z]; exact Nat.le_refl _
      · rw [if_neg z]
        have : (("" : String) : Str).length = 0 := rfl
        omega
    show (textFrom (k + 1) (acc ++ (if k > 0 then ", " else "" : String) ++ t) r).length ≤ _
    rw [List.length_cons, Nat.succ_mul]
    omega
theorem listText_le {ts : List Str} {m : Nat} (h : ∀ t ∈ ts, t.length ≤ m) : (listText ts).length ≤ 2 + ts.length * (m + 2) := by
  unfold listText
  rw [strLen_append]
  have := textFrom_le ts 0 "[" m h
  have e1 : (("[" : String) : Str).length = 1 := rfl
  have e2 : (("]" : String) : Str).length = 1 := rfl
  omega
def ShD (H : Hp) (v : V) (d : PyData) : Prop := (Sh H v d ∨ ∃ a, v = .ref a ∧ H a = some (.dK []) ∧ d = .dict []) ∧ d.showable = true ∧ d.shown.length ≤ sizeLine ∧ d.depth ≤ 8
theorem ShD.keep {H H' : Hp} {v : V} {d : PyData} (h : ShD H v d) (s : Same H H') : ShD H' v d := by
  obtain ⟨h | ⟨a, e1, e2, e3⟩, r⟩ := h
  · exact ⟨.inl (h.keep s), r⟩
  · exact ⟨.inr ⟨a, e1, s _ _ e2, e3⟩, r⟩
section
variable {X : Cx} {p pos : Pos} {e : Expr} {t : TA}
def rRepr : List V → Hp → VK → Prop := fun xs H Q => ∃ v d, xs = [v] ∧ ShD H v d ∧ Q (.str d.shown) H
theorem call_reprV (hu : X.A.units + 16 < cLine) (hg : X.A.guards = some []) : CallR X (.builtin "repr") rRepr := by
  intro pins s σ H xs us Q I r h
  obtain ⟨v, d, rfl, ⟨hs, sh, le, dp⟩, q⟩ := h
  cases r with
  | cons r rr =>
  rename_i u _
  cases rr
  have fin : ∀ tk0 tk, (EP X pins σ Q) (.str d.shown tk0) { s with toks := tk } := fun tk0 tk => ⟨.str d.shown, H, I.tok _, ⟨_, rfl⟩, q⟩
  have onref : ∀ {a : Addr} {as : List Addr}, u = .ref a → Reads s.heap (.ref a) d as → (d.hasDict = true → sysModules ∉ as) → wpAny (model X.prog X.w) X.A (call (.builtin "repr") [u]) (EP X pins σ Q) X.xe s := fun {a as} eu rd hsm => by
    subst eu
    exact repr_of_reads' rd sh hsm hg (by omega) (fun _ _ q => q) (fun h' u tk hk => ⟨.str d.shown, H, I.kept (t' := tk) hk, ⟨_, rfl⟩, q⟩) le
  rcases hs with hs | ⟨a, rfl, e, rfl⟩
  · have nd := hs.nodict
    have hsm : ∀ as : List Addr, d.hasDict = true → sysModules ∉ as := fun _ z => by rw [nd] at z; cases z
    obtain ⟨as, rd⟩ := hs.reads I r
    cases hs with
    | non => cases (show u = Value.none from r); exact PySem.P.repr_of_none (by simpa only [PyData.shown] using fin _ _)
    | bl b => cases (show u = Value.bool b from r); exact PySem.P.repr_of_bool (by simpa only [PyData.shown] using fin _ _)
    | int i => obtain ⟨t, rfl⟩ := r; exact PySem.P.repr_of_int (by simpa [PyData.showable] using sh) (by simpa only [PyData.shown] using fin _ _)
    | str x => obtain ⟨t, rfl⟩ := r; exact PySem.P.repr_of_str (by simpa only [PyData.shown] using fin _ _) (by simpa only [PyData.shown] using le)
    | lst e h => exact onref r (by have e : u = Value.ref _ := r; subst e; exact rd) (hsm _)
    | tup e h => exact onref r (by have e : u = Value.ref _ := r; subst e; exact rd) (hsm _)
  · obtain ⟨hz, hS, vs, kv, o, es, ep, ho, hx, hd, hk, hp, hn⟩ := I.hok a _ e
    cases kv
    have ee : es.toList = [] := by
      cases hq : es.toList with
      | nil => rfl
      | cons x xs => rw [hq] at hp; cases hp
    exact onref r (.dict (kvs := []) (as := []) (bs := []) ho hx.1 hd (by rw [ee]; exact .nil) (by rw [ee]; exact .nil)) (fun _ hm => by
      have : sysModules = a := by simpa using hm
      rw [this] at hS
      simp at hS)
theorem boot_reprB : bootBuiltins "repr" = some (.builtin "repr") := by decide +kernel
theorem pe_repr (hu : X.A.units + 16 < cLine) (hg0 : X.A.guards = some []) (hm : X.mg "repr" = none) (ha : PA X [e] t) (hg : Gl X "repr" := by rfl) (he : starEach [e] X.env = (false, eval e X.env) :: starEach [] X.env := by rfl) :
    PE X (.Call (.Name "repr" p) [e] [] pos) (tCB rRepr t) := pe_callB (call_reprV hu hg0) hg hm boot_reprB ha (by decide) (by decide) he rfl
end
end L2
namespace L2
open PySem PySem.Spec PyProof.Rows
def orSp (a b : Sp) : Sp := fun vs H Q E => a vs H Q E ∨ b vs H Q E
section
variable {P : Program} {w : World} {K : PySem.W.Frag} {mg : Str → Option Value} {base : Heap} {CX : CXT} {k : Nat} {f : Addr} {fd : FuncData} {ps : List Str} {a b : Sp}
theorem fn_or (x : FnOk P w K mg base CX k f fd ps a) (y : FnOk P w K mg base CX k f fd ps b) : FnOk P w K mg base CX k f fd ps (orSp a b) :=
  ⟨fun vs H Q E h => h.elim (x.len vs H Q E) (y.len vs H Q E), fun A outer s H args us vs Q E r e bt v h => h.elim (x.run A outer s H args us vs Q E r e bt v) (y.run A outer s H args us vs Q E r e bt v)⟩
theorem cal_l {x : Str} (c : Cal P w K mg base x k ps (orSp a b)) : Cal P w K mg base x k ps a := by
  obtain ⟨f, fd, h1, h2, h3, h4⟩ := c
  exact ⟨f, fd, h1, h2, h3, h4.imp fun vs H Q E z => .inl z⟩
end
theorem kit_no (K : PySem.W.Frag) {a b : String} (h0 : ((Value.type a == Value.type b) = true) → False) (h1 : PySem.W.kitMeta b = true) (h2 : (fastBuiltinMro a).map (·.contains (Value.type b)) = some false) : PySem.W.kitOne K (.type a) (.type b) = some false := by
  unfold PySem.W.kitOne PySem.W.kitCls
  rw [if_neg h0]
  show (if PySem.W.kitMeta b = true then (fastBuiltinMro a).map (·.contains (Value.type b)) else none) = some false
  rw [if_pos h1]
  exact h2
theorem kit_none_int (K : PySem.W.Frag) : PySem.W.kitOne K (.type "NoneType") (.type "int") = some false := kit_no K (by decide +kernel) (by decide +kernel) (by decide +kernel)
theorem kit_none_bool (K : PySem.W.Frag) : PySem.W.kitOne K (.type "NoneType") (.type "bool") = some false := kit_no K (by decide +kernel) (by decide +kernel) (by decide +kernel)
theorem kit_none_list (K : PySem.W.Frag) : PySem.W.kitOne K (.type "NoneType") (.type "list") = some false := kit_no K (by decide +kernel) (by decide +kernel) (by decide +kernel)
theorem kit_str_int (K : PySem.W.Frag) : PySem.W.kitOne K (.type "str") (.type "int") = some false := kit_no K (by decide +kernel) (by decide +kernel) (by decide +kernel)
theorem kit_str_bool (K : PySem.W.Frag) : PySem.W.kitOne K (.type "str") (.type "bool") = some false := kit_no K (by decide +kernel) (by decide +kernel) (by decide +kernel)
theorem kit_str_list (K : PySem.W.Frag) : PySem.W.kitOne K (.type "str") (.type "list") = some false := kit_no K (by decide +kernel) (by decide +kernel) (by decide +kernel)
theorem kit_list_int (K : PySem.W.Frag) : PySem.W.kitOne K (.type "list") (.type "int") = some false := kit_no K (by decide +kernel) (by decide +kernel) (by decide +kernel)
theorem kit_list_bool (K : PySem.W.Frag) : PySem.W.kitOne K (.type "list") (.type "bool") = some false := kit_no K (by decide +kernel) (by decide +kernel) (by decide +kernel)
theorem kit_tuple_int (K : PySem.W.Frag) : PySem.W.kitOne K (.type "tuple") (.type "int") = some false := kit_no K (by decide +kernel) (by decide +kernel) (by decide +kernel)
theorem kit_tuple_bool (K : PySem.W.Frag) : PySem.W.kitOne K (.type "tuple") (.type "bool") = some false := kit_no K (by decide +kernel) (by decide +kernel) (by decide +kernel)
theorem kit_tuple_list (K : PySem.W.Frag) : PySem.W.kitOne K (.type "tuple") (.type "list") = some false := kit_no K (by decide +kernel) (by decide +kernel) (by decide +kernel)
theorem kit_dict_list (K : PySem.W.Frag) : PySem.W.kitOne K (.type "dict") (.type "list") = some false := kit_no K (by decide +kernel) (by decide +kernel) (by decide +kernel)
theorem kit_int_list (K : PySem.W.Frag) : PySem.W.kitOne K (.type "int") (.type "list") = some false := kit_no K (by decide +kernel) (by decide +kernel) (by decide +kernel)
theorem kit_bool_list (K : PySem.W.Frag) : PySem.W.kitOne K (.type "bool") (.type "list") = some false := kit_no K (by decide +kernel) (by decide +kernel) (by decide +kernel)
end L2
namespace L2
open PySem PySem.Spec PyProof.Rows
section
variable {X : Cx} {p pos : Pos} {e : Expr} {t : TA}
theorem op_neLK (K : PySem.W.Frag) (n : Nat) (hu : X.A.units + n + 1 < cLine) (hK : X.K = K := by rfl) : OpR X (compareOp .NotEq) (rEqL K n true) := by
  subst hK
  exact op_neL n hu
theorem op_eqLK (K : PySem.W.Frag) (n : Nat) (hu : X.A.units + n + 1 < cLine) (hK : X.K = K := by rfl) : OpR X (compareOp .Eq) (rEqL K n false) := by
  subst hK
  exact op_eqL n hu
def tSorted (K : PySem.W.Frag) (t : TA) : TE := tCB (fun xs H Q => ∃ (p : Addr) (ns : List Int), xs = [.ref p] ∧ SqL K H p (ns.map V.int) ∧ ns.length < 64 ∧ ∀ (ms : List Int) l, ms.Perm ns → ms.Pairwise (· ≤ ·) → H l = none → Q (.ref l) (upd H l (.lst (ms.map V.int)))) t
theorem pe_sortedK (K : PySem.W.Frag) (hm : X.mg "sorted" = none) (ha : PA X [e] t) (hK : X.K = K := by rfl) (hg : Gl X "sorted" := by rfl) (he : starEach [e] X.env = (false, eval e X.env) :: starEach [] X.env := by rfl) :
    PE X (.Call (.Name "sorted" p) [e] [] pos) (tSorted K t) := by
  subst hK
  exact pe_sorted hm ha hg he
end
end L2
namespace L2
open PySem PySem.Spec PyProof.Rows
def mask (H H' : Hp) : Hp := fun a => match H a with
  | none => H' a
  | some _ => none
theorem mask_some {H H' : Hp} {a : Addr} {o : HO} (h : mask H H' a = some o) : H a = none ∧ H' a = some o := by
  unfold mask at h
  cases e : H a with
  | none => rw [e] at h; exact ⟨rfl, h⟩
  | some x => rw [e] at h; cases h
theorem mask_of {H H' : Hp} {a : Addr} {o : HO} (h0 : H a = none) (h : H' a = some o) : mask H H' a = some o := by
  unfold mask
  rw [h0]; exact h
theorem mask_l {H H1 H2 : Hp} (s : Same H1 H2) : Same (mask H H1) (mask H H2) := fun a o h => mask_of (mask_some h).1 (s _ _ (mask_some h).2)
theorem mask_r {H H1 H2 : Hp} (s : Same H H1) : Same (mask H1 H2) (mask H H2) := fun a o h => mask_of (s.free (mask_some h).1) (mask_some h).2
theorem ShA.length {H : Hp} : ∀ {xs : List V} {ds : List PyData}, ShA H xs ds → xs.length = ds.length
  | _, _, .nil => rfl
  | _, _, .cons _ h => congrArg Nat.succ h.length
def datasBy (f : Expr → Option PyData) : List Expr → Option (List PyData)
  | [] => some []
  | e :: es => (f e).bind fun d => (datasBy f es).map (d :: ·)
theorem datasBy_len {f : Expr → Option PyData} : ∀ {es : List Expr} {ds : List PyData}, datasBy f es = some ds → ds.length = es.length
  | [], ds, h => by cases (Option.some.inj h); rfl
  | e :: es, ds, h => by
    obtain ⟨d, hd, h⟩ := Option.bind_eq_some_iff.mp h
    obtain ⟨r, hr, rfl⟩ := Option.map_eq_some_iff.mp h
    exact congrArg Nat.succ (datasBy_len hr)
def dataOf : Nat → Expr → Option PyData
  | 0, _ => none
  | _ + 1, .Constant .none _ _ => some .none
  | _ + 1, .Constant (.bool b) _ _ => some (.bool b)
  | _ + 1, .Constant (.int i) _ _ => some (.int i)
  | _ + 1, .Constant (.str x) _ _ => some (.str x)
  | n + 1, .UnaryOp .USub e _ => match dataOf n e with
    | some (.int i) => some (.int (-i))
    | _ => none
  | n + 1, .BinOp a .Pow b _ => match dataOf n a, dataOf n b with
    | some (.int i), some (.int j) => if 0 ≤ j ∧ j ≤ 1000000 ∧ i.natAbs < 2 ^ 64 then some (.int (i ^ j.toNat)) else none
    | _, _ => none
  | n + 1, .List es _ => if es.length ≤ 1000 then (datasBy (dataOf n) es).map .list else none
  | n + 1, .Tuple es _ _ => if es.length ≤ 1000 then (datasBy (dataOf n) es).map .tuple else none
  | _ + 1, _ => none
def tData (d : PyData) : TE := fun _ H Q => ∀ v H', Same H H' → Sh (mask H H') v d → Q v H'
def tDatas (ds : List PyData) : TA := fun _ H Q => ∀ xs H', Same H H' → ShA (mask H H') xs ds → Q xs H'
theorem star_data {env : Env} {es : List Expr} : ∀ {n : Nat} {e : Expr} {d : PyData}, dataOf n e = some d → starEach (e :: es) env = (false, eval e env) :: starEach es env
  | 0, _, _, h => by cases h
  | n + 1, e, d, h => by
    unfold dataOf at h
    split at h
    all_goals first
      | rfl
      | cases h
theorem pa_datas {X : Cx} {n : Nat} (hf : ∀ (e : Expr) (d : PyData), dataOf n e = some d → PE X e (tData d)) : ∀ {es : List Expr} {ds : List PyData}, datasBy (dataOf n) es = some ds → PA X es (tDatas ds)
  | [], ds, h => by
    cases (Option.some.inj h)
    exact fun pos pins s σ H Q I h => pa_nil pos pins s σ H Q I (h [] H (Same.refl H) .nil)
  | e :: es, ds, h => by
    obtain ⟨d, hd, h⟩ := Option.bind_eq_some_iff.mp h
    obtain ⟨r, hr, rfl⟩ := Option.map_eq_some_iff.mp h
    refine fun pos pins s σ H Q I h => pa_cons (hf e d hd) (pa_datas hf hr) (star_data hd) pos pins s σ H Q I ?_
    intro v H1 s1 sh xs H2 s2 sa
    exact h (v :: xs) H2 (s1.trans s2) (.cons (sh.keep (mask_l s2)) (sa.keep (mask_r s1)))
theorem pe_data {X : Cx} : ∀ (n : Nat) (e : Expr) (d : PyData), dataOf n e = some d → PE X e (tData d)
  | 0, _, _, h => by cases h
  | n + 1, e, d, h => by
    have ih := fun e d => pe_data (X := X) n e d
    unfold dataOf at h
    split at h
    · rename_i e0; cases e0
    · cases h; exact fun pins s σ H Q I h => pe_non pins s σ H Q I (h _ _ (Same.refl H) .non)
    · cases h; exact fun pins s σ H Q I h => pe_bl pins s σ H Q I (h _ _ (Same.refl H) (.bl _))
    · cases h; exact fun pins s σ H Q I h => pe_int pins s σ H Q I (h _ _ (Same.refl H) (.int _))
    · cases h; exact fun pins s σ H Q I h => pe_str pins s σ H Q I (h _ _ (Same.refl H) (.str _))
    · rename_i e0
      obtain rfl := Nat.succ.inj e0
      split at h
      · rename_i i hi
        cases h
        refine fun pins s σ H Q I h => pe_un un_neg (ih _ _ hi) pins s σ H Q I fun v H' s' sh => ?_
        cases sh
        exact ⟨i, rfl, h _ _ s' (.int _)⟩
      · cases h
    · rename_i e0
      obtain rfl := Nat.succ.inj e0
      split at h
      · rename_i i j hi hj
        split at h
        · rename_i hc
          cases h
          refine fun pins s σ H Q I h => pe_op op_pow (ih _ _ hi) (ih _ _ hj) pins s σ H Q I fun v H1 s1 sh => ?_
          cases sh
          intro v2 H2 s2 sh2
          cases sh2
          exact ⟨i, j, rfl, rfl, hc, h _ _ (s1.trans s2) (.int _)⟩
        · cases h
      · cases h
    · rename_i e0
      obtain rfl := Nat.succ.inj e0
      split at h
      · rename_i hl
        obtain ⟨ds, hd, rfl⟩ := Option.map_eq_some_iff.mp h
        refine fun pins s σ H Q I h => pe_lst (pa_datas ih hd) pins s σ H Q I fun xs H1 s1 sa => ⟨?_, fun p hp => ?_⟩
        · rw [sa.length, datasBy_len hd, sizeLine_eq]; omega
        · have s2 : Same H1 (upd H1 p (.lst xs)) := Same.upd_new hp
          exact h _ _ (s1.trans s2) (.lst (mask_of (s1.free hp) upd_same) (sa.keep (mask_l s2)))
      · cases h
    · rename_i e0
      obtain rfl := Nat.succ.inj e0
      split at h
      · rename_i hl
        obtain ⟨ds, hd, rfl⟩ := Option.map_eq_some_iff.mp h
        refine fun pins s σ H Q I h => pe_tup (pa_datas ih hd) pins s σ H Q I fun xs H1 s1 sa => ⟨?_, fun p hp => ?_⟩
        · rw [sa.length, datasBy_len hd, sizeLine_eq]; omega
        · have s2 : Same H1 (upd H1 p (.tup xs)) := Same.upd_new hp
          exact h _ _ (s1.trans s2) (.tup (mask_of (s1.free hp) upd_same) (sa.keep (mask_l s2)))
      · cases h
    · cases h
theorem pa_data {X : Cx} (n : Nat) {es : List Expr} (ds : List PyData) (h : datasBy (dataOf n) es = some ds) : PA X es (tDatas ds) := pa_datas (pe_data n) h
def tDataC (ds : List PyData) (t : TA) : TA := fun σ H Q => ∀ xs H', Same H H' → ShA (mask H H') xs ds → t σ H' fun ys H2 => Q (xs ++ ys) H2
theorem pa_pre {X : Cx} (n : Nat) : ∀ {es fs : List Expr} {t : TA} (ds : List PyData), datasBy (dataOf n) es = some ds → PA X fs t → PA X (es ++ fs) (tDataC ds t)
  | [], fs, t, ds, h, hf => by
    cases (Option.some.inj h)
    exact fun pos pins s σ H Q I h => hf pos pins s σ H Q I (h [] H (Same.refl H) .nil)
  | e :: es, fs, t, ds, h, hf => by
    obtain ⟨d, hd, h⟩ := Option.bind_eq_some_iff.mp h
    obtain ⟨r, hr, rfl⟩ := Option.map_eq_some_iff.mp h
    refine fun pos pins s σ H Q I h => pa_cons (pe_data n e d hd) (pa_pre n r hr hf) (star_data hd) pos pins s σ H Q I ?_
    intro v H1 s1 sh xs H2 s2 sa
    exact h (v :: xs) H2 (s1.trans s2) (.cons (sh.keep (mask_l s2)) (sa.keep (mask_r s1)))
theorem pa_first {X : Cx} (n k : Nat) {es : List Expr} {t : TA} (ds : List PyData) (h : datasBy (dataOf n) (es.take k) = some ds) (hf : PA X (es.drop k) t) : PA X es (tDataC ds t) := by
  have := pa_pre n ds h hf
  rw [List.take_append_drop] at this
  exact this
end L2
namespace L2
open PySem PySem.Spec PyProof.Rows
def CDivH (i j : Int) : Prop := 0 < j ∧ j.natAbs < 2 ^ 9000
theorem op_fdivH {X : Cx} : OpR X (binaryOp .FloorDiv) (rI CDivH fun i j => .int (i / j)) := opI fun i j _ _ _ _ _ hc q => by
  have hp : Builtin.divisionGoesByPylong i j = false := PyProof.noPylong_of_log2 ((Nat.log2_lt (by have := hc.1; omega)).mpr hc.2)
  refine floordiv_int (by have := hc.1; omega) ?_ (.inl hp)
  rw [Int.fdiv_eq_ediv_of_nonneg i (by have := hc.1; omega)]
  exact q
end L2
namespace L2
open PySem PySem.Spec PyProof PyProof.Rows
def CMulH (i j : Int) : Prop := i.natAbs < 2 ^ 20000 ∧ j.natAbs < 2 ^ 20000
theorem mulH_ok {i j : Int} {n : Nat} (hn : n ≤ 2 ^ 20) (h1 : i.natAbs < 2 ^ n) (h2 : j.natAbs < 2 ^ n) : IntMulOk i j := by
  refine IntMulOk.of_bits ?_ ?_
  · exact Nat.le_trans (PySem.intBits_le_iff.mpr h1) hn
  · exact Nat.le_trans (PySem.intBits_le_iff.mpr h2) hn
theorem op_mulH {X : Cx} : OpR X (binaryOp .Mult) (rI CMulH fun i j => .int (i * j)) := opI fun _ _ _ _ _ _ _ hc q => mul_int q (mulH_ok (by decide) hc.1 hc.2)
end L2
namespace L2
open PySem PySem.Spec PyProof PyProof.Rows
open PySem.Builtin PySem.Builtin.Str PySem.Builtin.BaseException PySem.Builtin.Exceptions
section
variable {X : Cx}
structure ErrS (K : PySem.W.Frag) (C : Addr) : Prop where
  str : PySem.W.findIn K (.ref C) "__str__" = some (some (.builtin "BaseException.__str__"))
  bex : PySem.W.mroIn K C (.type "BaseException") = some true
end
end L2
namespace L2
open PySem PySem.Spec PyProof.Rows
section
variable {P : Program} {w : World} {K : PySem.W.Frag} {mg : Str → Option Value} {base h : Heap} {x : Str} {st : Stmt} {f : Addr} {fd : FuncData} {ps : List Str} {k : Nat} {sp : Sp}
def Fu (K : PySem.W.Frag) (x : Str) (st : Stmt) (f : Addr) : Prop := ∃ fd, PySem.W.nsIn K mainGlobals x = some (some (.ref f)) ∧ Fun K x x st f fd
theorem fu_mk {oc : Value} {od an : Option Addr} {osl : Array (Option Value)} {kV doc pm cdv ct : Value} (a : PySem.W.nsIn K mainGlobals x = some (some (.ref f))) (l : K.lookup f = some ⟨oc, od, .func (PySem.W.fnOf x x (defArgs st) (defBody st) (defScope st) .none kV doc pm an cdv ct), osl⟩)
    (c : PySem.W.codeIn K cdv x = true) (k : PySem.W.keepIn K (.ref f) = true) : Fu K x st f := ⟨_, a, fun_mk l c k⟩
theorem cal_mk (X : K.In h) (G : h.Ns mainGlobals mg) (a : PySem.W.nsIn K mainGlobals x = some (some (.ref f))) (F : Fun K x x st f fd) (b : Binds K fd ps []) (ok : FnOk P w K mg base CX0 k f fd ps sp) : Cal P w K mg base x k ps sp := ⟨f, fd, PySem.W.mg_of X G a, F.kp, b, ok⟩
theorem calx_mk (X : K.In h) (G : h.Ns mainGlobals mg) (a : PySem.W.nsIn K mainGlobals x = some (some (.ref f))) (F : Fun K x x st f fd) (b : Binds K fd ps []) (ok : FnOk P w K mg base (CX1 P w) k f fd ps sp) : CalX P w K mg base x k ps sp := ⟨f, fd, PySem.W.mg_of X G a, F.kp, b, ok⟩
def Fre (K : PySem.W.Frag) : List Str → Prop
  | [] => True
  | x :: l => PySem.W.nsIn K mainGlobals x = some none ∧ Fre K l
structure ClF (K : PySem.W.Frag) (T : Addr) (x : Str) (q : Addr) : Prop where
  n : PySem.W.nsIn K mainGlobals x = some (some (.ref q))
  e : PySem.W.excIn K q veB "ValueError.__new__" = true
  g : PySem.W.findIn K (.ref q) "__getattribute__" = some (some (.builtin "BaseException.__getattribute__"))
  h : PySem.W.findIn K (.ref q) "__getattr__" = some none
  c : PySem.W.findIn K (.ref q) "__class__" = some (some (.builtin "object.__class__"))
  b : PySem.W.mroIn K q (.type "BaseException") = some true
  o : PySem.W.mroIn K q (.type "object") = some true
  i : PySem.W.isClsIn K q = true
  t : PySem.W.typeIn K (.ref q) = some (.type "type")
  u : PySem.W.mroIn K q (.ref T) = some true
  v : PySem.W.mroIn K q (.type "ValueError") = some true
  s : PySem.W.findIn K (.ref q) "__str__" = some (some (.builtin "BaseException.__str__"))
def ClFs (K : PySem.W.Frag) (T : Addr) : List (Str × Addr) → Prop
  | [] => True
  | (x, q) :: l => ClF K T x q ∧ ClFs K T l
def PrI (K : PySem.W.Frag) (i : Nat) (a : Addr) : Nat → List (Str × Addr) → Prop
  | _, [] => True
  | j, (_, b) :: l => PySem.W.mroIn K a (.ref b) = some (Nat.beq i j) ∧ PrI K i a (j + 1) l
def PrsI (K : PySem.W.Frag) (all : List (Str × Addr)) : Nat → List (Str × Addr) → Prop
  | _, [] => True
  | i, (_, a) :: l => PrI K i a 0 all ∧ PrsI K all (i + 1) l
theorem ClFs.get {T : Addr} : ∀ {cs : List (Str × Addr)}, ClFs K T cs → ∀ p ∈ cs, ClF K T p.1 p.2
  | (x, q) :: l, h, p, hp => by
    rcases List.mem_cons.mp hp with rfl | hp
    · exact h.1
    · exact ClFs.get h.2 p hp
theorem PrI.get {i : Nat} {a : Addr} : ∀ {l : List (Str × Addr)} {j0 : Nat}, PrI K i a j0 l → ∀ j q, l[j]? = some q → PySem.W.mroIn K a (.ref q.2) = some (Nat.beq i (j0 + j))
  | (x, b) :: l, j0, h, 0, q, e => by
    cases e
    exact h.1
  | (x, b) :: l, j0, h, j + 1, q, e => by
    have := PrI.get h.2 j q e
    rw [this, show j0 + 1 + j = j0 + (j + 1) by omega]
theorem PrsI.get {all : List (Str × Addr)} : ∀ {l : List (Str × Addr)} {i0 : Nat}, PrsI K all i0 l → ∀ i p, l[i]? = some p → PrI K (i0 + i) p.2 0 all
  | (x, b) :: l, i0, h, 0, p, e => by
    cases e
    exact h.1
  | (x, b) :: l, i0, h, i + 1, p, e => by
    have := PrsI.get h.2 i p e
    rw [show i0 + 1 + i = i0 + (i + 1) by omega] at this
    exact this
theorem errAll_mk {T : Addr} {cs : List (Str × Addr)} (X : K.In h) (G : h.Ns mainGlobals mg) (uT : PySem.W.nsIn K mainGlobals "TurnError" = some (some (.ref T))) (uTb : PySem.W.mroIn K T (.type "BaseException") = some true) (uTc : PySem.W.isClsIn K T = true) (uTt : PySem.W.typeIn K (.ref T) = some (.type "type"))
    (uG : PySem.W.specialIn K (.builtin "object.__class__") "__get__" = some (some (.builtin "getset_descriptor.__get__"))) (uK : PySem.W.takesIn K (.builtin "object.__class__") = some true) (uC : ClFs K T cs) (uP : PrsI K cs 0 cs) (nd : (cs.map (·.1)).Nodup) : ErrAll K mg T cs := by
  refine ⟨PySem.W.mg_of X G uT, fun p hp => ?_, fun p hp => ?_, fun p hp => ?_, fun p hp => ?_, fun p hp q hq => ?_⟩
  · exact ⟨PySem.W.mg_of X G (uC.get p hp).n, (uC.get p hp).e⟩
  · have c := uC.get p hp
    exact errI_mk c.g c.h c.c uG uK c.b c.o c.i
  · exact exm_own uTb uTc uTt (uC.get p hp).u
  · exact kit_ve (uC.get p hp).v
  · have c := uC.get q hq
    obtain ⟨i, hi⟩ := List.getElem?_of_mem hp
    obtain ⟨j, hj⟩ := List.getElem?_of_mem hq
    have e : ∀ {k : Nat} {r : Str × Addr}, cs[k]? = some r → PySem.W.mroIn K p.2 (.ref r.2) = some (Nat.beq i k) := fun {k r} hr => by
      have := (uP.get i p hi).get k r hr
      rw [Nat.zero_add, Nat.zero_add] at this
      exact this
    have eb : decide (p.1 = q.1) = Nat.beq i j := by
      by_cases z : i = j
      · subst z
        rw [hi] at hj
        cases hj
        rw [decide_eq_true rfl, Nat.beq_refl]
      · have : Nat.beq i j = false := by
          cases y : Nat.beq i j with
          | false => rfl
          | true => exact absurd (Nat.eq_of_beq_eq_true y) z
        rw [this]
        refine decide_eq_false fun y => z ?_
        have i1 : i < (cs.map (·.1)).length := by rw [List.length_map]; exact (List.getElem?_eq_some_iff.mp hi).1
        refine (List.getElem?_inj i1 nd).mp ?_
        rw [List.getElem?_map, List.getElem?_map, hi, hj]
        exact congrArg some y
    rw [eb]
    refine kit_own c.i c.t (e hj) fun z => ?_
    have a := e hi
    rw [z] at a
    have b := e hj
    rw [z, a, Nat.beq_refl] at b
    exact (Option.some.inj b).symm
end
end L2
namespace My
open PySem L2 Mth
def top (i : Nat) : Stmt := PySem.Challenge.pw_turnroots_k18_roots_counted.main.body.getD i (.Pass ⟨0, 0, 0, 0⟩)
abbrev s_is_whole : Stmt := top 13
abbrev s_must_be_from_one : Stmt := top 14
abbrev s_greatest_part : Stmt := top 15
abbrev s_walk_ring : Stmt := top 16
abbrev s_walk_rings : Stmt := top 17
abbrev s_sort_by_length : Stmt := top 18
abbrev s_is_turn : Stmt := top 21
abbrev s_must_be_turn : Stmt := top 22
abbrev s_right_numbers : Stmt := top 24
abbrev s_ways_to_follow : Stmt := top 25
abbrev s_count_joins : Stmt := top 26
abbrev s_how_many_roots : Stmt := top 27
abbrev s_law_cell_at : Stmt := top 29
abbrev s_law_stir : Stmt := top 30
abbrev s_law_deck : Stmt := top 31
abbrev s_law_next : Stmt := top 32
abbrev s_law_turn : Stmt := top 33
abbrev s_law_m : Stmt := top 34
abbrev s_law_rounds : Stmt := top 35
abbrev s_law_power : Stmt := top 36
abbrev s_law_counts : Stmt := top 37
abbrev s_law_rights : Stmt := top 38
abbrev s_law_woven : Stmt := top 39
abbrev s_law_how_many : Stmt := top 40
abbrev s_law_every : Stmt := top 41
abbrev s_law_roots : Stmt := top 42
abbrev s_law_word : Stmt := top 43
abbrev s_law_spoilt : Stmt := top 44
abbrev s_law_bad_turns : Stmt := top 45
abbrev s_law_asked : Stmt := top 46
abbrev s_law_right : Stmt := top 47
abbrev s_law : Stmt := top 48
end My
namespace My
open PySem L2 Mth
structure Bl (mg : Str → Option Value) : Prop where
  len : mg "len" = none
  isi : mg "isinstance" = none
  int : mg "int" = none
  bool : mg "bool" = none
  list : mg "list" = none
  range : mg "range" = none
  sum : mg "sum" = none
  min : mg "min" = none
  max : mg "max" = none
  enum : mg "enumerate" = none
  zip : mg "zip" = none
  sorted : mg "sorted" = none
  tuple : mg "tuple" = none
  str : mg "str" = none
  repr : mg "repr" = none
  all : mg "all" = none
  any : mg "any" = none
  set : mg "set" = none
  dict : mg "dict" = none
  ve : mg "ValueError" = none
section
variable {P : Program} {w : World} {K : PySem.W.Frag} {mg : Str → Option Value} {base : Heap}
def spWhole (K : PySem.W.Frag) : Sp := fun vs H Q _ => ∃ x t b1 b2, vs = [x] ∧ TyOf K H x t ∧ PySem.W.kitOne K t (.type "int") = some b1 ∧ PySem.W.kitOne K t (.type "bool") = some b2 ∧ Q (.bl (b1 && !b2)) H
theorem scWhole : FnScope ["thing"] ["thing"] (defScope s_is_whole) := ⟨rfl, rfl, rfl, by decide +kernel, rfl, by decide +kernel, by decide +kernel⟩
theorem ok_whole {f : Addr} {fd : FuncData} (F : Fun K "is_whole" "is_whole" s_is_whole f fd) (B : Bl mg) : FnOk P w K mg base CX0 1 f fd ["thing"] (spWhole K) := by
  refine F.ok scWhole (fun vs H Q E h => ?_) (fun cdv A outer s H vs Q E hr h => ?_)
  · obtain ⟨x, t, b1, b2, rfl, _⟩ := h
    rfl
  · obtain ⟨x, t, b1, b2, rfl, ty, e1, e2, q⟩ := h
    refine ⟨_, pss_one (ps_ret (pe_and (pe_isi B.isi (pa_cons (pv 0) (pa_cons (pe_tyInt B.int) pa_nil))) (pe_one (pe_not (pe_isi B.isi (pa_cons (pv 0) (pa_cons (pe_tyBool B.bool) pa_nil))))))), ?_⟩
    refine ⟨x, rfl, x, "int", t, b1, rfl, ty, e1, b1, rfl, ?_⟩
    cases b1 with
    | true =>
      refine iteT ⟨x, rfl, x, "bool", t, b2, rfl, ty, e2, b2, rfl, ?_⟩
      exact q
    | false => exact iteF q
def spIsTurn : Sp := fun vs H Q _ => ∃ (a : Addr) (ns : List Int), vs = [.ref a] ∧ H a = some (.lst (ns.map V.int)) ∧ ∀ (b : Bool) (H' : Hp), Same H H' → (b = true ↔ ns.length ≤ 40 ∧ IsT ns) → Q (.bl b) H'
theorem scIsTurn : FnScope ["thing", "seen", "place"] ["thing"] (defScope s_is_turn) := ⟨rfl, rfl, rfl, by decide +kernel, rfl, by decide +kernel, by decide +kernel⟩
theorem ok_isTurn {f : Addr} {fd : FuncData} (F : Fun K "is_turn" "is_turn" s_is_turn f fd) (B : Bl mg) (mt : ∃ t, mg "MOST_THINGS" = some (.int 40 t)) (cW : Cal P w K mg base "is_whole" 1 ["thing"] (spWhole K)) : FnOk P w K mg base CX0 2 f fd ["thing"] spIsTurn := by
  refine F.ok scIsTurn (fun vs H Q E h => ?_) (fun cdv A outer s H vs Q E hr h => ?_)
  · obtain ⟨a, ns, rfl, _⟩ := h
    rfl
  · obtain ⟨a, ns, rfl, ha, k⟩ := h
    obtain ⟨tk, mt⟩ := mt
    have hu := hu_of hr
    refine ⟨_, pss_cons (ps_if (pw_or (pt_not (pt_val (pe_isi B.isi (pa_cons (pv 0) (pa_cons (pe_tyList B.list) pa_nil))))) (pw_or1 (pt_cmpR op_gt (pe_lenL B.len (pa_cons (pv 0) pa_nil)) (pe_glob (v := .int 40) (by rfl) mt ⟨tk, rfl⟩) (nomark _)))).pt (pss_one (ps_ret pe_bl)) pss_nil)
      (pss_cons (ps_set (i := 1) scIsTurn.nd rfl (Or.inl rfl) pe_dnewK)
      (pss_cons (ps_for PassesOwn.never rfl (pi_list (pv 0)) (pg_name (i := 2) scIsTurn.nd rfl (Or.inl rfl))
        (pss_cons (ps_if (pw_or (pt_not (pt_val (pe_cal cW hr (pa_cons (pv 2) pa_nil)))) (pw_or (pt_cmpR op_lt (pv 2) pe_int (nomark _)) (pw_or (pt_cmpR op_ge (pv 2) (pe_lenL B.len (pa_cons (pv 0) pa_nil)) (nomark _)) (pw_or1 (pt_cmp (pc_din hu (pv 2) (pv 1))))))).pt (pss_one (ps_ret pe_bl)) pss_nil)
        (pss_one (ps_dput hu (pv 1) (pv 2) pe_bl rfl))))
      (pss_one (ps_ret pe_bl)))), ?_⟩
    refine ⟨_, rfl, _, "list", _, true, rfl, .lst ha, kit_same K "list", true, rfl, ?_⟩
    refine iteF ⟨_, rfl, a, _, rfl, .inl (SqL.of ha), _, _, rfl, rfl, _, rfl, ?_⟩
    rw [List.length_map]
    refine ite2 (fun h40 => ?_) (fun h40 => ?_)
    · have h40 : (40 : Int) < (ns.length : Int) := of_decide_eq_true h40
      exact k false H (Same.refl H) ⟨fun z => (by cases z), fun z => (by have := z.1; omega)⟩
    · have h40 : ¬ (40 : Int) < (ns.length : Int) := fun z => h40 (decide_eq_true z)
      intro d hd
      have nad : a ≠ d := ne_of_none ha hd
      have ha1 : (upd H d (.dK [])) a = some (.lst (ns.map V.int)) := by rw [upd_ne nad]; exact ha
      refine ⟨_, rfl, a, rfl, ⟨_, SqL.of ha1⟩, for_list (K := K) (a := a) (xs := ns.map V.int) (fun i σ H2 => ∃ v : Option V, σ = [some (.ref a), some (.ref d), v] ∧ Same H H2 ∧ H2 d = some (.dK (seenK (ns.take i))) ∧ (ns.take i).Nodup ∧ ∀ x ∈ ns.take i, 0 ≤ x ∧ x < ns.length)
        ⟨none, rfl, Same.upd_new hd, upd_same, List.nodup_nil, fun x hx => by simp at hx⟩ (fun i σ H2 _ ⟨_, _, s2, _⟩ => SqL.of (s2 a _ ha)) ?_ ?_⟩
      · rintro i y σ H2 hi ⟨v, rfl, s2, h2, nd, bd⟩
        obtain ⟨z, hz, rfl⟩ := getElem_int hi
        have ha2 := s2 a _ ha
        have hil : i < ns.length := (List.getElem?_eq_some_iff.mp hz).1
        refine ⟨_, rfl, .int z, _, true, false, rfl, .int z, kit_same K "int", kit_int_bool K, _, rfl, ?_⟩
        refine iteF ⟨_, rfl, _, _, rfl, rfl, _, rfl, ?_⟩
        refine ite2 (fun hz0 => ?_) (fun hz0 => ?_)
        · have hz0 : z < 0 := of_decide_eq_true hz0
          exact iteT (k false H2 s2 ⟨fun q => (by cases q), fun q => (by have := q.2.lo z (List.mem_of_getElem? hz); omega)⟩)
        have hz0 : ¬ z < 0 := fun q => hz0 (decide_eq_true q)
        refine ⟨_, rfl, _, rfl, a, _, rfl, .inl (SqL.of ha2), _, _, rfl, rfl, _, rfl, ?_⟩
        rw [List.length_map]
        refine ite2 (fun hz1 => ?_) (fun hz1 => ?_)
        · have hz1 : (ns.length : Int) ≤ z := of_decide_eq_true hz1
          exact iteT (k false H2 s2 ⟨fun q => (by cases q), fun q => (by have := q.2.hi z (List.mem_of_getElem? hz); omega)⟩)
        have hz1 : ¬ (ns.length : Int) ≤ z := fun q => hz1 (decide_eq_true q)
        refine ⟨_, rfl, _, rfl, d, _, rfl, DGet.k (k := Sum.inl z) h2, _, rfl, ?_⟩
        by_cases hm : z ∈ ns.take i
        · rw [seenK_in hm]
          refine iteT (k false H2 s2 ⟨fun q => (by cases q), fun q => ?_⟩)
          exfalso
          obtain ⟨j, hj⟩ := List.mem_iff_getElem?.mp hm
          have hjl : j < i := by
            have := (List.getElem?_eq_some_iff.mp hj).1
            rw [List.length_take] at this
            omega
          rw [List.getElem?_take_of_lt hjl] at hj
          have e1 := (List.getElem?_eq_some_iff.mp hj).2
          have e2 := (List.getElem?_eq_some_iff.mp hz).2
          exact List.pairwise_iff_getElem.mp (List.nodup_iff_pairwise_ne.mp q.2.nd) j i (by omega) hil hjl (by rw [e1, e2])
        · rw [seenK_no hm]
          refine iteF ⟨_, rfl, _, rfl, d, _, rfl, DPut.k (k := Sum.inl z) h2 (small1000 (by unfold seenK; rw [List.length_map, List.length_take]; omega)), ?_⟩
          have hds : ∀ b o, H b = some o → b ≠ d := fun b o e => ne_of_none e hd
          refine ⟨some (.int z), rfl, fun b o e => by rw [upd_ne (hds b o e)]; exact s2 b o e, ?_, ?_, ?_⟩
          · rw [seenK_put hm, upd_same, take_succ_of hz]
          · rw [take_succ_of hz]; exact nd_snoc nd hm
          · intro x hx
            rw [take_succ_of hz] at hx
            rcases List.mem_append.mp hx with q | q
            · exact bd x q
            · have : x = z := by simpa using q
              omega
      · rintro σ H2 ⟨v, rfl, s2, h2, nd, bd⟩
        rw [List.length_map, List.take_length] at nd bd
        refine k true H2 s2 ⟨fun _ => ⟨by omega, ⟨nd, fun x hx => (bd x hx).1, fun x hx => (bd x hx).2⟩⟩, fun _ => rfl⟩
end
end My
namespace My
open PySem L2 Mth
section
variable {P : Program} {w : World} {K : PySem.W.Frag} {mg : Str → Option Value} {base : Heap}
def TurnAt (H : Hp) (a : Addr) (p : List Int) : Prop := H a = some (.lst (p.map V.int)) ∧ IsT p ∧ p.length ≤ 40
end
end My
namespace My
open PySem L2 Mth
section
variable {P : Program} {w : World} {K : PySem.W.Frag} {mg : Str → Option Value} {base : Heap}
def spMust : Sp := fun vs H Q _ => ∃ (a : Addr) (ns : List Int), vs = [.ref a] ∧ TurnAt H a ns ∧ ∀ (H' : Hp), Same H H' → Q .non H'
theorem scMust : FnScope ["thing"] ["thing"] (defScope s_must_be_turn) := ⟨rfl, rfl, rfl, by decide +kernel, rfl, by decide +kernel, by decide +kernel⟩
theorem ok_must {f : Addr} {fd : FuncData} (F : Fun K "must_be_turn" "must_be_turn" s_must_be_turn f fd) (cT : Cal P w K mg base "is_turn" 2 ["thing"] spIsTurn) : FnOk P w K mg base CX0 3 f fd ["thing"] spMust := by
  refine F.ok scMust (fun vs H Q E h => ?_) (fun cdv A outer s H vs Q E hr h => ?_)
  · obtain ⟨a, ns, rfl, _⟩ := h
    rfl
  · obtain ⟨a, ns, rfl, ⟨ha, ht, hl⟩, k⟩ := h
    refine ⟨_, pss_one (ps_if (pt_not (pt_val (pe_cal cT hr (pa_cons (pv 0) pa_nil)))) (pss_one ps_never) pss_nil), ?_⟩
    refine ⟨_, rfl, a, ns, rfl, ha, fun b H' s' hb => ⟨b, rfl, ?_⟩⟩
    have : b = true := hb.mpr ⟨hl, ht⟩
    subst this
    exact iteF (k H' s')
end
end My
namespace My
open PySem L2 Mth
def lenAt (H : Hp) (l : Addr) : Nat := match H l with
  | some (.lst xs) => xs.length
  | _ => 0
theorem lenAt_of {H : Hp} {l : Addr} {xs : List V} (h : H l = some (.lst xs)) : lenAt H l = xs.length := by unfold lenAt; rw [h]
end My
namespace My
open PySem L2 Mth
section
variable {P : Program} {w : World} {K : PySem.W.Frag} {mg : Str → Option Value} {base : Heap}
def spRings : Sp := fun vs H Q _ => ∃ (a : Addr) (p : List Int), vs = [.ref a] ∧ TurnAt H a p ∧
  ∀ (l : Addr) (as : List Addr) (rs : List (List Int)) (H' : Hp), H l = none → Same H H' → H' l = some (.lst (as.map V.ref)) → RowsH H' as rs → RingsUp p p.length rs → (∀ b ∈ as, H b = none) → as.Nodup → l ∉ as → Q (.ref l) H'
theorem rows_snoc {H : Hp} {as : List Addr} {rs : List (List Int)} {e : Addr} {r : List Int} (h : RowsH H as rs) (he : H e = some (.lst (r.map V.int))) : RowsH H (as ++ [e]) (rs ++ [r]) := by
  refine ⟨by rw [List.length_append, List.length_append, h.1]; rfl, fun j b q h1 h2 => ?_⟩
  by_cases hj : j < as.length
  · rw [List.getElem?_append_left hj] at h1
    rw [List.getElem?_append_left (by rw [← h.1]; exact hj)] at h2
    exact h.2 j b q h1 h2
  · rw [List.getElem?_append_right (by omega)] at h1
    rw [List.getElem?_append_right (by rw [← h.1]; omega), ← h.1] at h2
    have hj0 : j - as.length = 0 := by
      have := (List.getElem?_eq_some_iff.mp h1).1
      simpa using this
    rw [hj0] at h1 h2
    cases h1; cases h2
    exact he
theorem rows_keep {H H' : Hp} {as : List Addr} {rs : List (List Int)} (h : RowsH H as rs) (k : ∀ b ∈ as, ∀ o, H b = some o → H' b = some o) : RowsH H' as rs :=
  ⟨h.1, fun j a r h1 h2 => k a (List.mem_of_getElem? h1) _ (h.2 j a r h1 h2)⟩
theorem rows_mem {H : Hp} {as : List Addr} {rs : List (List Int)} (h : RowsH H as rs) {b : Addr} (hb : b ∈ as) : ∃ r : List Int, H b = some (.lst (r.map V.int)) := by
  obtain ⟨j, hj⟩ := List.mem_iff_getElem?.mp hb
  have hjl := (List.getElem?_eq_some_iff.mp hj).1
  exact ⟨_, h.2 j b (rs[j]'(by rw [← h.1]; exact hjl)) hj (List.getElem?_eq_getElem _)⟩
theorem up_len {p : List Int} {i : Nat} {rs : List (List Int)} (tp : IsT p) (h : RingsUp p i rs) : rs.flatten.length ≤ p.length := by
  refine nodup_len_in h.nd fun x hx => ?_
  obtain ⟨r, hr, hxr⟩ := List.mem_flatten.mp hx
  obtain ⟨y, L, a, b, rfl, _⟩ := h.ring r hr
  exact ringL_in tp a x hxr
theorem up_count {p : List Int} {i : Nat} {rs : List (List Int)} (h : RingsUp p i rs) : rs.length ≤ rs.flatten.length := by
  have : ∀ l : List (List Int), (∀ r ∈ l, 1 ≤ r.length) → l.length ≤ l.flatten.length := by
    intro l
    induction l with
    | nil => intro _; exact Nat.le_refl _
    | cons a r ih =>
      intro h
      have h1 := h a List.mem_cons_self
      have h2 := ih fun x hx => h x (List.mem_cons_of_mem _ hx)
      rw [List.flatten_cons, List.length_append, List.length_cons]
      omega
  refine this rs fun r hr => ?_
  obtain ⟨y, L, a, b, rfl, _⟩ := h.ring r hr
  rw [ringL_len]
  exact b.pos
end
end My
namespace My
open PySem L2 Mth
section
variable {P : Program} {w : World} {K : PySem.W.Frag} {mg : Str → Option Value} {base : Heap}
def spRing : Sp := fun vs H Q _ => ∃ (a : Addr) (p : List Int) (x : Int), vs = [.ref a, .int x] ∧ TurnAt H a p ∧ In p x ∧
  ∀ (l : Addr) (L : Nat) (H' : Hp), H l = none → Same H H' → Per p x L → L ≤ 40 → H' l = some (.lst ((ringL p x L).map V.int)) → Q (.ref l) H'
theorem scRing : FnScope ["p", "first", "ring", "thing"] ["p", "first"] (defScope s_walk_ring) := ⟨rfl, rfl, rfl, by decide +kernel, rfl, by decide +kernel, by decide +kernel⟩
theorem ok_ring {f : Addr} {fd : FuncData} (F : Fun K "walk_ring" "walk_ring" s_walk_ring f fd) : FnOk P w K mg base CX0 1 f fd ["p", "first"] spRing := by
  refine F.ok scRing (fun vs H Q E h => ?_) (fun cdv A outer s H vs Q E hr h => ?_)
  · obtain ⟨a, p, x, rfl, _⟩ := h
    rfl
  · obtain ⟨a, p, x, rfl, ⟨ha, tp, lp⟩, hx, q⟩ := h
    refine ⟨_, pss_cons (ps_set (i := 2) scRing.nd rfl (Or.inl rfl) (pe_lst (pa_cons (pv 1) pa_nil)))
      (pss_cons (ps_set (i := 3) scRing.nd rfl (Or.inl rfl) (pe_ix ix_list (pv 0) (pv 1) (fun _ _ => rfl)))
      (pss_cons (ps_while PassesOwn.never (pt_cmpR op_ne (pv 3) (pv 1) (nomark _)) (pss_cons (ps_expr (pe_append (pv 2) (pa_cons (pv 3) pa_nil))) (pss_one (ps_set (i := 3) scRing.nd rfl (Or.inl rfl) (pe_ix ix_list (pv 0) (pv 3) (fun _ _ => rfl))))))
      (pss_one (ps_ret (pv 2))))), ?_⟩
    refine ⟨_, rfl, (by show 1 ≤ sizeLine; decide), fun l hl => ?_⟩
    have nal : a ≠ l := ne_of_none ha hl
    have hal : (upd H l (.lst [.int x])) a = some (.lst (p.map V.int)) := by rw [upd_ne nal]; exact ha
    refine ⟨_, rfl, _, rfl, a, _, _, _, rfl, rfl, SqL.of hal, atI_map hx.1 hx.2, ?_⟩
    refine while_by (fun σ H2 => ∃ m : Nat, σ = [some (.ref a), some (.int x), some (.ref l), some (.int (it p m x))] ∧ 1 ≤ m ∧ H2 l = some (.lst ((ringL p x m).map V.int)) ∧ Same H H2 ∧ ∀ i, 0 < i → i < m → it p i x ≠ x) (fun _ H2 => p.length + 1 - lenAt H2 l)
      ⟨1, rfl, Nat.le_refl _, upd_same, Same.upd_new hl, fun i i0 i1 => by omega⟩ ?_ ?_
    · rintro σ H2 ⟨m, rfl, m1, h2l, s2, hne⟩
      have ha2 := s2 a _ ha
      refine ⟨_, rfl, _, rfl, rfl, _, rfl, ?_⟩
      by_cases hb : it p m x = x
      · refine iteNS (congrArg V.int hb) ?_
        exact ⟨_, rfl, q l m H2 hl s2 ⟨by omega, hb, hne⟩ (by have := ring_bound tp hx hne; omega) h2l⟩
      · have hb' : ¬ V.int (it p m x) = V.int x := fun z => hb (V.int.inj z)
        rw [decide_eq_false hb']
        refine iteT ?_
        have hne' : ∀ i, 0 < i → i < m + 1 → it p i x ≠ x := fun i i0 i1 => by
          by_cases e : i = m
          · rw [e]; exact hb
          · exact hne i i0 (by omega)
        have hbd := ring_bound tp hx hne'
        refine ⟨_, rfl, .inl ⟨rfl, _, SqL.of h2l⟩, _, rfl, l, _, _, rfl, rfl, h2l, small1000 (by rw [List.length_map, ringL_len]; omega), ?_⟩
        have hi := it_in tp hx m
        refine ⟨_, rfl, _, rfl, a, _, _, _, rfl, rfl, SqL.of (by rw [upd_ne nal]; exact ha2), atI_map hi.1 hi.2, ?_⟩
        have h3l : (upd H2 l (.lst ((ringL p x m).map V.int ++ [.int (it p m x)]))) l = some (.lst ((ringL p x (m + 1)).map V.int)) := by
          rw [upd_same, ringL_succ, List.map_append]; rfl
        refine ⟨⟨m + 1, rfl, by omega, h3l, fun b o hb => by rw [upd_ne (ne_of_none hb hl)]; exact s2 b o hb, hne'⟩, ?_⟩
        rw [lenAt_of h3l, lenAt_of h2l, List.length_map, List.length_map, ringL_len, ringL_len]
        omega
    · rintro σ H2 Q Q' hq ⟨v, hv, u, hu, e1, k1, e2, e3⟩
      exact ⟨v, hv, u, hu, e1, k1, e2, hq _ _ e3⟩
theorem scRings : FnScope ["p", "rings", "seen", "first", "ring", "thing"] ["p"] (defScope s_walk_rings) := ⟨rfl, rfl, rfl, by decide +kernel, rfl, by decide +kernel, by decide +kernel⟩
theorem ok_rings {f : Addr} {fd : FuncData} (F : Fun K "walk_rings" "walk_rings" s_walk_rings f fd) (B : Bl mg) (cR : Cal P w K mg base "walk_ring" 1 ["p", "first"] spRing) : FnOk P w K mg base CX0 2 f fd ["p"] spRings := by
  refine F.ok scRings (fun vs H Q E h => ?_) (fun cdv A outer s H vs Q E hr h => ?_)
  · obtain ⟨a, p, rfl, _⟩ := h
    rfl
  · obtain ⟨a, p, rfl, ⟨ha, tp, lp⟩, q⟩ := h
    have hu := hu_of hr
    refine ⟨_, pss_cons (ps_set (i := 1) scRings.nd rfl (Or.inl rfl) (pe_lst pa_nil)) (pss_cons (ps_set (i := 2) scRings.nd rfl (Or.inl rfl) pe_dnewK)
      (pss_cons (ps_for PassesOwn.never rfl (pi_range1 (by rfl) B.range (pa_cons (pe_lenL B.len (pa_cons (pv 0) pa_nil)) pa_nil)) (pg_name (i := 3) scRings.nd rfl (Or.inl rfl))
        (pss_one (ps_if (pt_cmp (pc_dnotin hu (pv 3) (pv 2))) (pss_cons (ps_set (i := 4) scRings.nd rfl (Or.inl rfl) (pe_cal cR hr (pa_cons (pv 0) (pa_cons (pv 3) pa_nil)))) (pss_cons (ps_expr (pe_append (pv 1) (pa_cons (pv 4) pa_nil)))
          (pss_one (ps_for PassesOwn.never rfl (pi_list (pv 4)) (pg_name (i := 5) scRings.nd rfl (Or.inl rfl)) (pss_one (ps_dput hu (pv 2) (pv 5) pe_bl rfl)))))) pss_nil)))
      (pss_one (ps_ret (pv 1))))), ?_⟩
    refine ⟨Nat.zero_le _, fun l hl => ?_⟩
    intro d hd
    have hdl : d ≠ l := fun z => by rw [z, upd_same] at hd; cases hd
    have hd0 : H d = none := by rw [upd_ne hdl] at hd; exact hd
    have s0 : Same H (upd (upd H l (.lst [])) d (.dK [])) := (Same.upd_new hl).upd_r hd0
    have h0l : (upd (upd H l (.lst [])) d (.dK [])) l = some (.lst []) := by rw [upd_ne hdl.symm, upd_same]
    refine ⟨_, rfl, a, _, rfl, .inl (SqL.of (s0 a _ ha)), (p.length : Int), ?_, by omega, by omega, ?_⟩
    · rw [List.length_map]
    rw [show ((p.length : Int)).toNat = p.length by omega]
    refine for_range (lo := 0) (n := p.length) (fun i σ H2 => ∃ (as : List Addr) (rs : List (List Int)) (v3 v4 v5 : Option V), σ = [some (.ref a), some (.ref l), some (.ref d), v3, v4, v5] ∧ H2 l = some (.lst (as.map V.ref)) ∧ H2 d = some (.dK (seenK rs.flatten)) ∧ RowsH H2 as rs ∧ RingsUp p i rs ∧ Same H H2 ∧ (∀ b ∈ as, H b = none) ∧ as.Nodup ∧ l ∉ as)
      ⟨[], [], none, none, none, rfl, h0l, upd_same, ⟨rfl, fun j b r h => by simp at h⟩, rings_none p, s0, fun b hb => by simp at hb, List.nodup_nil, by simp⟩ ?_ ?_
    · rintro i σ H2 hi ⟨as, rs, v3, v4, v5, rfl, h2l, h2d, rows, up, s2, fa, nda, nla⟩
      have hx : In p (i : Int) := ⟨by omega, by omega⟩
      have e0 : (0 : Int) + (i : Int) = (i : Int) := by omega
      rw [e0]
      refine ⟨_, rfl, _, rfl, d, _, rfl, DGet.k (k := Sum.inl (i : Int)) h2d, _, rfl, ?_⟩
      by_cases hm : (i : Int) ∈ rs.flatten
      · rw [seenK_in hm]
        refine iteF ?_
        exact ⟨as, rs, _, _, _, rfl, h2l, h2d, rows, rings_skip up hm, s2, fa, nda, nla⟩
      · rw [seenK_no hm]
        refine iteT ?_
        refine ⟨_, rfl, _, rfl, a, p, _, rfl, ⟨s2 a _ ha, tp, lp⟩, hx, fun e L H3 he s23 pr hL h3e => ?_⟩
        have h3l := s23 l _ h2l
        have h3d := s23 d _ h2d
        have nle : l ≠ e := ne_of_none h2l he
        have nde : d ≠ e := ne_of_none h2d he
        have fl := up_len tp up
        have cl := up_count up
        have lenas := rows.1
        refine ⟨_, rfl, .inl ⟨rfl, _, SqL.of h3l⟩, _, rfl, l, _, _, rfl, rfl, h3l, small1000 (by rw [List.length_map, lenas]; omega), ?_⟩
        have es : as.map V.ref ++ [V.ref e] = (as ++ [e]).map V.ref := by rw [List.map_append]; rfl
        rw [es]
        have h4l : (upd H3 l (.lst ((as ++ [e]).map V.ref))) l = some (.lst ((as ++ [e]).map V.ref)) := upd_same
        have h4d : (upd H3 l (.lst ((as ++ [e]).map V.ref))) d = some (.dK (seenK rs.flatten)) := by rw [upd_ne hdl]; exact h3d
        have h4e : (upd H3 l (.lst ((as ++ [e]).map V.ref))) e = some (.lst ((ringL p i L).map V.int)) := by rw [upd_ne nle.symm]; exact h3e
        have k4 : ∀ b o, H2 b = some o → b ≠ l → (upd H3 l (.lst ((as ++ [e]).map V.ref))) b = some o := fun b o hb hn => by rw [upd_ne hn]; exact s23 b o hb
        generalize (upd H3 l (.lst ((as ++ [e]).map V.ref))) = H4 at h4l h4d h4e k4 ⊢
        have fr := rings_fresh up pr hm
        have ndr := ringL_nodup tp hx fun j j0 j1 => pr.least j j0 j1
        refine ⟨_, rfl, e, rfl, ⟨_, SqL.of h4e⟩, for_list (K := K) (a := e) (xs := (ringL p i L).map V.int) (fun j σ H5 => ∃ v5' : Option V, σ = [some (.ref a), some (.ref l), some (.ref d), some (.int (i : Int)), some (.ref e), v5'] ∧ H5 d = some (.dK (seenK (rs.flatten ++ (ringL p i L).take j))) ∧ KeepBut d H4 H5)
          ⟨v5, rfl, by rw [List.take_zero, List.append_nil]; exact h4d, KeepBut.refl d H4⟩ (fun j σ H5 _ ⟨_, _, _, k⟩ => SqL.of (k e _ h4e nde.symm)) ?_ ?_⟩
        · rintro j y σ H5 hj ⟨v5', rfl, h5d, kb⟩
          obtain ⟨z, hz, rfl⟩ := getElem_int hj
          have hjl : j < (ringL p i L).length := (List.getElem?_eq_some_iff.mp hz).1
          rw [ringL_len] at hjl
          have hzn : z ∉ rs.flatten ++ (ringL p i L).take j := by
            intro hm'
            rcases List.mem_append.mp hm' with g | g
            · exact fr z (List.mem_of_getElem? hz) g
            · obtain ⟨jj, hjj⟩ := List.mem_iff_getElem?.mp g
              have hjk : jj < j := by
                have := (List.getElem?_eq_some_iff.mp hjj).1
                rw [List.length_take] at this
                omega
              rw [List.getElem?_take_of_lt hjk] at hjj
              have e1 := (List.getElem?_eq_some_iff.mp hjj).2
              have e2 := (List.getElem?_eq_some_iff.mp hz).2
              exact List.pairwise_iff_getElem.mp (List.nodup_iff_pairwise_ne.mp ndr) jj j (by rw [ringL_len]; omega) (by rw [ringL_len]; omega) hjk (by rw [e1, e2])
          refine ⟨_, rfl, _, rfl, d, _, rfl, DPut.k (k := Sum.inl z) h5d (small1000 (by unfold seenK; rw [List.length_map, List.length_append, List.length_take, ringL_len]; omega)), ?_⟩
          refine ⟨_, rfl, ?_, kb.upd_a⟩
          rw [seenK_put hzn, upd_same, take_succ_of hz, List.append_assoc]
        · rintro σ H5 ⟨v5', rfl, h5d, kb⟩
          rw [List.length_map, List.take_length] at h5d
          have nad : ∀ b ∈ as, b ≠ d ∧ b ≠ l := fun b hb => by
            obtain ⟨r, hr'⟩ := rows_mem rows hb
            exact ⟨ne_of hr' h2d (by intro z; cases z), fun z => nla (z ▸ hb)⟩
          refine ⟨as ++ [e], rs ++ [ringL p i L], _, _, _, rfl, kb l _ h4l hdl.symm, ?_, ?_, rings_step tp up hx pr hm, ?_, ?_, ?_, ?_⟩
          · rw [h5d, List.flatten_append, List.flatten_singleton]
          · exact rows_snoc (rows_keep rows fun b hb o ho => kb b o (k4 b o ho (nad b hb).2) (nad b hb).1) (kb e _ h4e nde.symm)
          · exact fun b o hb => kb b o (k4 b o (s2 b o hb) (ne_of_none hb hl)) (ne_of_none hb hd0)
          · intro b hb
            rcases List.mem_append.mp hb with g | g
            · exact fa b g
            · have : b = e := by simpa using g
              rw [this]; exact s2.free he
          · refine nd_snoc nda fun g => ?_
            obtain ⟨r, hr'⟩ := rows_mem rows g
            rw [he] at hr'; cases hr'
          · intro g
            rcases List.mem_append.mp g with g | g
            · exact nla g
            · exact nle (by simpa using g)
    · rintro σ H2 ⟨as, rs, v3, v4, v5, rfl, h2l, h2d, rows, up, s2, fa, nda, nla⟩
      exact ⟨_, rfl, q l as rs H2 hl s2 h2l rows up fa nda nla⟩
end
end My
namespace My
open PySem L2 Mth
section
variable {P : Program} {w : World} {K : PySem.W.Frag} {mg : Str → Option Value} {base : Heap}
def spPower : Sp := fun vs H Q _ => ∃ (a : Addr) (p : List Int) (k : Int), vs = [.ref a, .int k] ∧ TurnAt H a p ∧ ∀ (l : Addr) (t : List Int) (H' : Hp), H l = none → Same H H' → PowIs p k t → H' l = some (.lst (t.map V.int)) → Q (.ref l) H'
end
end My
namespace My
open PySem L2 Mth
section
variable {P : Program} {w : World} {K : PySem.W.Frag} {mg : Str → Option Value} {base : Heap}
def spGcd : Sp := fun vs H Q _ => ∃ (x y : Nat), vs = [.int (x : Int), .int (y : Int)] ∧ Q (.int (Nat.gcd x y : Nat)) H
theorem scGcd : FnScope ["a", "b", "rest"] ["a", "b"] (defScope s_greatest_part) := ⟨rfl, rfl, rfl, by decide +kernel, rfl, by decide +kernel, by decide +kernel⟩
def secondOf (σ : St) : Nat := match σ[1]? with
  | some (some (V.int i)) => i.toNat
  | _ => 0
theorem ok_gcd {f : Addr} {fd : FuncData} (F : Fun K "greatest_part" "greatest_part" s_greatest_part f fd) : FnOk P w K mg base CX0 1 f fd ["a", "b"] spGcd := by
  refine F.ok scGcd (fun vs H Q E h => ?_) (fun cdv A outer s H vs Q E hr h => ?_)
  · obtain ⟨x, y, rfl, _⟩ := h
    rfl
  · obtain ⟨x, y, rfl, q⟩ := h
    refine ⟨_, pss_cons (ps_while PassesOwn.never (pt_cmpR op_ne (pv 1) pe_int (nomark _))
        (pss_cons (ps_set (i := 2) scGcd.nd rfl (Or.inl rfl) (pe_op op_mod (pv 0) (pv 1))) (pss_cons (ps_set (i := 0) scGcd.nd rfl (Or.inl rfl) (pv 1)) (pss_one (ps_set (i := 1) scGcd.nd rfl (Or.inl rfl) (pv 2))))))
      (pss_one (ps_ret (pv 0))), ?_⟩
    refine while_by (fun σ H2 => ∃ (a b : Nat) (v : Option V), σ = [some (.int (a : Int)), some (.int (b : Int)), v] ∧ Nat.gcd a b = Nat.gcd x y ∧ H2 = H) (fun σ _ => secondOf σ) ⟨x, y, none, rfl, rfl, rfl⟩ ?_ ?_
    · rintro σ H2 ⟨a, b, v, rfl, hg, rfl⟩
      refine ⟨_, rfl, rfl, _, rfl, ?_⟩
      by_cases hb : b = 0
      · subst hb
        refine iteNS (by rfl) ?_
        refine ⟨_, rfl, ?_⟩
        rw [Nat.gcd_zero_right] at hg
        rw [hg]
        exact q
      · have hb' : ¬ V.int (b : Int) = V.int 0 := fun z => hb (by have := V.int.inj z; omega)
        rw [decide_eq_false hb']
        refine iteT ?_
        refine ⟨_, rfl, _, rfl, _, _, rfl, rfl, (by show (0 : Int) < (b : Int); omega), _, rfl, _, rfl, ⟨b, a % b, some (.int ((a : Int) % (b : Int))), ?_, ?_, rfl⟩, ?_⟩
        · rw [Int.natCast_emod]; rfl
        · rw [← hg, Nat.gcd_comm a b, Nat.gcd_rec b a, Nat.gcd_comm]
        · show ((a : Int) % (b : Int)).toNat < ((b : Int)).toNat
          have := Int.emod_lt_of_pos (a : Int) (show (0 : Int) < (b : Int) by omega)
          have := Int.emod_nonneg (a : Int) (show (b : Int) ≠ 0 by omega)
          omega
    · rintro σ H2 Q Q' hq ⟨v, hv, e1, k1, e2, e3⟩
      exact ⟨v, hv, e1, k1, e2, hq _ _ e3⟩
end
end My
namespace My
open PySem L2 Mth
section
variable {P : Program} {w : World} {K : PySem.W.Frag} {mg : Str → Option Value} {base : Heap}
def spOne : Sp := fun vs H Q _ => ∃ (n : Int), vs = [.int n] ∧ 1 ≤ n ∧ Q .non H
theorem scOne : FnScope ["number"] ["number"] (defScope s_must_be_from_one) := ⟨rfl, rfl, rfl, by decide +kernel, rfl, by decide +kernel, by decide +kernel⟩
theorem ok_one {f : Addr} {fd : FuncData} (F : Fun K "must_be_from_one" "must_be_from_one" s_must_be_from_one f fd) (cW : Cal P w K mg base "is_whole" 1 ["thing"] (spWhole K)) : FnOk P w K mg base CX0 2 f fd ["number"] spOne := by
  refine F.ok scOne (fun vs H Q E h => ?_) (fun cdv A outer s H vs Q E hr h => ?_)
  · obtain ⟨n, rfl, _⟩ := h
    rfl
  · obtain ⟨n, rfl, h1, q⟩ := h
    have hr1 : Room 1 _ := hr.mono (by decide)
    refine ⟨_, pss_one (ps_if (pw_or (pt_not (pt_val (pe_cal cW hr1 (pa_cons (pv 0) pa_nil)))) (pw_or1 (pt_cmpR op_lt (pv 0) pe_int (nomark _)))).pt (pss_one ps_never) pss_nil), ?_⟩
    refine ⟨_, rfl, .int n, _, true, false, rfl, .int n, kit_same K "int", kit_int_bool K, true, rfl, ?_⟩
    refine iteF ⟨_, rfl, _, _, rfl, rfl, _, rfl, ?_⟩
    rw [decide_eq_false (show ¬ n < 1 by omega)]
    exact iteF q
end
end My
namespace My
open PySem L2 Mth
section
variable {P : Program} {w : World} {K : PySem.W.Frag} {mg : Str → Option Value} {base : Heap}
def kvsOf (es : List (Nat × Addr)) : List (Key × V) := es.map fun e => (Sum.inl (e.1 : Int), V.ref e.2)
theorem kvs_some {es : List (Nat × Addr)} {l : Nat} {v : V} (h : valV (kvsOf es) (Sum.inl (l : Int)) = some v) : ∃ e ∈ es, e.1 = l ∧ v = .ref e.2 := by
  unfold valV at h
  cases hf : (kvsOf es).find? (fun kv => decide (kv.1 = Sum.inl (l : Int))) with
  | none => rw [hf] at h; cases h
  | some kv =>
    rw [hf] at h
    have hk := of_decide_eq_true (List.find?_some (p := fun kv : Key × V => decide (kv.1 = Sum.inl (l : Int))) hf)
    obtain ⟨e, he, rfl⟩ := List.mem_map.mp (List.mem_of_find?_eq_some hf)
    have hk' : (Sum.inl (e.1 : Int) : Key) = Sum.inl (l : Int) := hk
    have := Sum.inl.inj hk'
    exact ⟨e, he, by omega, (Option.some.inj h).symm⟩
theorem kvs_none {es : List (Nat × Addr)} {l : Nat} (h : valV (kvsOf es) (Sum.inl (l : Int)) = none) : l ∉ es.map (·.1) := by
  intro hm
  obtain ⟨e, he, rfl⟩ := List.mem_map.mp hm
  unfold valV at h
  have h' := Option.map_eq_none_iff.mp h
  exact List.find?_eq_none.mp h' (Sum.inl (e.1 : Int), V.ref e.2) (List.mem_map.mpr ⟨e, he, rfl⟩) (by simp)
theorem fst_inj {α β : Type} : ∀ {es : List (α × β)}, (es.map (·.1)).Nodup → ∀ {e f : α × β}, e ∈ es → f ∈ es → e.1 = f.1 → e = f
  | [], _, e, f, h, _, _ => by simp at h
  | x :: es, nd, e, f, he, hf, h => by
    obtain ⟨n1, n2⟩ := List.nodup_cons.mp nd
    rcases List.mem_cons.mp he with z | z
    · rcases List.mem_cons.mp hf with y | y
      · rw [z, y]
      · exact absurd (List.mem_map.mpr ⟨f, y, by rw [← h, z]⟩) n1
    · rcases List.mem_cons.mp hf with y | y
      · exact absurd (List.mem_map.mpr ⟨e, z, by rw [h, y]⟩) n1
      · exact fst_inj n2 z y h
theorem snd_inj {α β : Type} : ∀ {es : List (α × β)}, (es.map (·.2)).Nodup → ∀ {e f : α × β}, e ∈ es → f ∈ es → e.2 = f.2 → e = f
  | [], _, e, f, h, _, _ => by simp at h
  | x :: es, nd, e, f, he, hf, h => by
    obtain ⟨n1, n2⟩ := List.nodup_cons.mp nd
    rcases List.mem_cons.mp he with z | z
    · rcases List.mem_cons.mp hf with y | y
      · rw [z, y]
      · exact absurd (List.mem_map.mpr ⟨f, y, by rw [← h, z]⟩) n1
    · rcases List.mem_cons.mp hf with y | y
      · exact absurd (List.mem_map.mpr ⟨e, z, by rw [h, y]⟩) n1
      · exact snd_inj n2 z y h
theorem kvs_at {es : List (Nat × Addr)} (nd : (es.map (·.1)).Nodup) {e : Nat × Addr} (he : e ∈ es) : valV (kvsOf es) (Sum.inl (e.1 : Int)) = some (.ref e.2) := by
  cases h : valV (kvsOf es) (Sum.inl (e.1 : Int)) with
  | none => exact absurd (List.mem_map.mpr ⟨e, he, rfl⟩) (kvs_none h)
  | some v =>
    obtain ⟨f, hf, h1, rfl⟩ := kvs_some h
    rw [fst_inj nd hf he h1]
theorem fil_pos {rs : List (List Int)} {r : List Int} {l : Nat} (h : r.length = l) : fil (rs ++ [r]) l = fil rs l ++ [r] := by
  unfold fil
  rw [List.filter_append, List.filter_cons_of_pos (by simpa using h), List.filter_nil]
theorem fil_neg {rs : List (List Int)} {r : List Int} {l : Nat} (h : r.length ≠ l) : fil (rs ++ [r]) l = fil rs l := by
  unfold fil
  rw [List.filter_append, List.filter_cons_of_neg (by simpa using h), List.filter_nil, List.append_nil]
theorem fil_none {rs : List (List Int)} {l : Nat} (h : ∀ r ∈ rs, r.length ≠ l) : fil rs l = [] := by
  unfold fil
  exact List.filter_eq_nil_iff.mpr fun r hr => by simpa using h r hr
structure ByLenR (H0 H : Hp) (d : Addr) (es : List (Nat × Addr)) (rs : List (List Int)) : Prop where
  nk : (es.map (·.1)).Nodup
  na : (es.map (·.2)).Nodup
  row : ∀ e ∈ es, ∃ cs : List Addr, H e.2 = some (.lst (cs.map V.ref)) ∧ RowsH H0 cs (fil rs e.1)
  key : ∀ k ∈ es.map (·.1), ∃ r ∈ rs, r.length = k
  all : ∀ r ∈ rs, r.length ∈ es.map (·.1)
  nd : ∀ e ∈ es, e.2 ≠ d
def spSortR : Sp := fun vs H Q _ => ∃ (a : Addr) (as : List Addr) (rs : List (List Int)), vs = [.ref a] ∧ H a = some (.lst (as.map V.ref)) ∧ RowsH H as rs ∧ rs.length ≤ 40 ∧
  ∀ (d : Addr) (es : List (Nat × Addr)) (H' : Hp), H d = none → Same H H' → H' d = some (.dK (kvsOf es)) → ByLenR H H' d es rs → es.length ≤ 40 → (∀ e ∈ es, H e.2 = none) → Q (.ref d) H'
theorem scSort : FnScope ["rings", "by_length", "ring"] ["rings"] (defScope s_sort_by_length) := ⟨rfl, rfl, rfl, by decide +kernel, rfl, by decide +kernel, by decide +kernel⟩
theorem ok_sortR {f : Addr} {fd : FuncData} (F : Fun K "sort_by_length" "sort_by_length" s_sort_by_length f fd) (B : Bl mg) : FnOk P w K mg base CX0 1 f fd ["rings"] spSortR := by
  refine F.ok scSort (fun vs H Q E h => ?_) (fun cdv A outer s H vs Q E hr h => ?_)
  · obtain ⟨a, as, rs, rfl, _⟩ := h
    rfl
  · obtain ⟨a, as, rs, rfl, ha, rows, lrs, q⟩ := h
    refine ⟨_, pss_cons (ps_set (i := 1) scSort.nd rfl (Or.inl rfl) pe_dnewK)
      (pss_cons (ps_for PassesOwn.never rfl (pi_list (pv 0)) (pg_name (i := 2) scSort.nd rfl (Or.inl rfl))
        (pss_one (ps_expr (pe_append (pe_setdef (pv 1) (pa_cons (pe_lenL B.len (pa_cons (pv 2) pa_nil)) (pa_cons (pe_lst pa_nil) pa_nil))) (pa_cons (pv 2) pa_nil)))))
      (pss_one (ps_ret (pv 1)))), ?_⟩
    refine fun d hd => ?_
    have s1 : Same H (upd H d (.dK [])) := Same.upd_new hd
    have h1d : (upd H d (.dK [])) d = some (.dK (kvsOf [])) := upd_same
    generalize (upd H d (.dK [])) = H1 at s1 h1d ⊢
    refine ⟨_, rfl, a, rfl, ⟨_, SqL.of (s1 a _ ha)⟩, for_list (K := K) (a := a) (xs := as.map V.ref) (fun i σ H2 => ∃ (es : List (Nat × Addr)) (v2 : Option V), σ = [some (.ref a), some (.ref d), v2] ∧ H2 d = some (.dK (kvsOf es)) ∧ ByLenR H H2 d es (rs.take i) ∧ es.length ≤ i ∧ (∀ e ∈ es, H e.2 = none) ∧ Same H H2)
      ⟨[], none, rfl, h1d, ⟨List.nodup_nil, List.nodup_nil, fun e h => by simp at h, fun k h => by simp at h, fun r h => by simp at h, fun e h => by simp at h⟩, Nat.le_refl _, fun e h => by simp at h, s1⟩ (fun i σ H2 _ ⟨_, _, _, _, _, _, _, s⟩ => SqL.of (s a _ ha)) ?_ ?_⟩
    · rintro i y σ H2 hi ⟨es, v2, rfl, h2d, bl, les, fr, s2⟩
      rw [List.getElem?_map] at hi
      cases hA : as[i]? with
      | none => rw [hA] at hi; cases hi
      | some b =>
        rw [hA] at hi
        cases hi
        have hil : i < as.length := (List.getElem?_eq_some_iff.mp hA).1
        have hri : rs[i]? = some (rs[i]'(by rw [← rows.1]; exact hil)) := List.getElem?_eq_getElem _
        generalize (rs[i]'(by rw [← rows.1]; exact hil)) = r at hri
        have hb0 := rows.2 i b r hA hri
        have hb := s2 b _ hb0
        have hi40 : i < 40 := by have := rows.1; omega
        have et : rs.take (i + 1) = rs.take i ++ [r] := take_succ_of hri
        refine ⟨_, rfl, .inr (.inr (.inl ⟨rfl, .inl ⟨_, h2d⟩⟩)), _, rfl, b, _, rfl, .inl (SqL.of hb), Nat.zero_le _, fun e he => ?_⟩
        rw [List.length_map]
        have nde : d ≠ e := ne_of_none h2d he
        have s23 : Same H2 (upd H2 e (.lst [])) := Same.upd_new he
        have h3e : (upd H2 e (.lst [])) e = some (.lst []) := upd_same
        have kp : ∀ c, c ≠ e → (upd H2 e (.lst [])) c = H2 c := fun c hc => upd_ne hc
        generalize (upd H2 e (.lst [])) = H3 at s23 h3e kp ⊢
        refine ⟨d, kvsOf es, Sum.inl (r.length : Int), .ref e, rfl, rfl, s23 d _ h2d, ?_, fun v hv => ?_, fun hn => ?_⟩
        · unfold kvsOf
          rw [List.length_map, sizeLine_eq]; omega
        · obtain ⟨e0, he0, hl0, rfl⟩ := kvs_some hv
          obtain ⟨cs, hcs, rcs⟩ := bl.row e0 he0
          have h3x := s23 e0.2 _ hcs
          have lx : (cs.map V.ref).length ≤ 1000 := by
            rw [List.length_map, rcs.1]
            have := List.length_filter_le (fun r => decide (r.length = e0.1)) (rs.take i)
            rw [List.length_take] at this
            unfold fil
            omega
          refine ⟨.inl ⟨rfl, _, SqL.of h3x⟩, _, rfl, e0.2, _, _, rfl, rfl, h3x, small1000 lx, ?_⟩
          refine ⟨es, _, rfl, by rw [upd_ne (bl.nd e0 he0).symm]; exact s23 d _ h2d, ⟨bl.nk, bl.na, fun e1 he1 => ?_, fun k hk => ?_, fun r' hr' => ?_, bl.nd⟩, by omega, fr, fun c o hc => by rw [upd_ne (ne_of_none hc (fr e0 he0))]; exact s23 c o (s2 c o hc)⟩
          · by_cases h12 : e1.2 = e0.2
            · have : e1 = e0 := snd_inj bl.na he1 he0 h12
              subst this
              refine ⟨cs ++ [b], by rw [upd_same, List.map_append]; rfl, ?_⟩
              rw [et, fil_pos hl0.symm]
              exact rows_snoc rcs hb0
            · obtain ⟨ys, hys, rys⟩ := bl.row e1 he1
              refine ⟨ys, by rw [upd_ne h12]; exact s23 _ _ hys, ?_⟩
              rw [et, fil_neg (fun z => h12 (by rw [fst_inj bl.nk he1 he0 (by omega)]))]
              exact rys
          · obtain ⟨r', hr', e⟩ := bl.key k hk
            exact ⟨r', by rw [et]; exact List.mem_append_left _ hr', e⟩
          · rw [et] at hr'
            rcases List.mem_append.mp hr' with z | z
            · exact bl.all r' z
            · have : r' = r := by simpa using z
              rw [this]
              exact List.mem_map.mpr ⟨e0, he0, hl0⟩
        · have hnk := kvs_none hn
          have ekv : kvsOf es ++ [(Sum.inl (r.length : Int), V.ref e)] = kvsOf (es ++ [(r.length, e)]) := by unfold kvsOf; rw [List.map_append]; rfl
          rw [ekv]
          have h4e : (upd H3 d (.dK (kvsOf (es ++ [(r.length, e)])))) e = some (.lst []) := by rw [upd_ne nde.symm]; exact h3e
          refine ⟨.inl ⟨rfl, _, SqL.of h4e⟩, _, rfl, e, _, _, rfl, rfl, h4e, small1000 (Nat.zero_le _), ?_⟩
          have hne : ∀ e1 ∈ es, e1.2 ≠ e := fun e1 he1 z => by
            obtain ⟨ys, hys, _⟩ := bl.row e1 he1
            rw [z, he] at hys; cases hys
          refine ⟨es ++ [(r.length, e)], _, rfl, by rw [upd_ne nde, upd_same], ⟨?_, ?_, fun e1 he1 => ?_, fun k hk => ?_, fun r' hr' => ?_, fun e1 he1 => ?_⟩, by rw [List.length_append]; show es.length + 1 ≤ i + 1; omega, fun e1 he1 => ?_, fun c o hc => ?_⟩
          · rw [List.map_append, List.nodup_append]
            refine ⟨bl.nk, by simp, fun x hx y hy => ?_⟩
            have : y = r.length := by simpa using hy
            rw [this]
            exact fun z => hnk (by rw [← z]; exact hx)
          · rw [List.map_append, List.nodup_append]
            refine ⟨bl.na, by simp, fun x hx y hy => ?_⟩
            have : y = e := by simpa using hy
            rw [this]
            obtain ⟨e1, he1, rfl⟩ := List.mem_map.mp hx
            exact hne e1 he1
          · rcases List.mem_append.mp he1 with z | z
            · obtain ⟨ys, hys, rys⟩ := bl.row e1 z
              refine ⟨ys, by rw [upd_ne (hne e1 z), upd_ne (bl.nd e1 z), kp _ (hne e1 z)]; exact hys, ?_⟩
              rw [et, fil_neg (fun y => hnk (by rw [y]; exact List.mem_map.mpr ⟨e1, z, rfl⟩))]
              exact rys
            · have : e1 = (r.length, e) := by simpa using z
              subst this
              refine ⟨[b], upd_same, ?_⟩
              show RowsH H [b] (fil (rs.take (i + 1)) r.length)
              rw [et, fil_pos rfl, fil_none (fun r' hr' y => hnk (by rw [← y]; exact bl.all r' hr'))]
              exact rows_snoc (as := []) (rs := []) ⟨rfl, fun j a r h => by simp at h⟩ hb0
          · rw [List.map_append] at hk
            rcases List.mem_append.mp hk with z | z
            · obtain ⟨r', hr', e⟩ := bl.key k z
              exact ⟨r', by rw [et]; exact List.mem_append_left _ hr', e⟩
            · have : k = r.length := by simpa using z
              exact ⟨r, by rw [et]; exact List.mem_append_right _ (by simp), this.symm⟩
          · rw [et] at hr'
            rw [List.map_append]
            rcases List.mem_append.mp hr' with z | z
            · exact List.mem_append_left _ (bl.all r' z)
            · have : r' = r := by simpa using z
              rw [this]
              exact List.mem_append_right _ (by simp)
          · rcases List.mem_append.mp he1 with z | z
            · exact bl.nd e1 z
            · have : e1 = (r.length, e) := by simpa using z
              subst this
              exact nde.symm
          · rcases List.mem_append.mp he1 with z | z
            · exact fr e1 z
            · have : e1 = (r.length, e) := by simpa using z
              subst this
              exact s2.free he
          · have h2c := s2 c o hc
            rw [upd_ne (ne_of_none h2c he), upd_ne (ne_of_none hc hd), kp _ (ne_of_none h2c he)]
            exact h2c
    · rintro σ H2 ⟨es, v2, rfl, h2d, bl, les, fr, s2⟩
      rw [List.length_map, rows.1, List.take_length] at bl
      rw [List.length_map, rows.1] at les
      exact ⟨_, rfl, q d es H2 hd s2 h2d bl (by omega) fr⟩
end
end My
namespace My
open PySem L2 Mth
section
variable {P : Program} {w : World} {K : PySem.W.Frag} {mg : Str → Option Value} {base : Heap}
section
variable {X : Cx}
theorem pe_pop {o : Expr} {to : TE} {apos pos : Pos} (ho : PE X o to) (hbase : attributeBase o "pop" X.env (eval o X.env) = eval o X.env := by rfl) (hline : (apos.endLine == pos.line) = true := by rfl) :
    PE X (.Call (.Attribute o "pop" apos) [] [] pos) (tBM0 X.K "list" rPop to) := pe_bm0 PySem.F.plainAttrs_list PySem.F.slot_list_pop PySem.F.type_list_pop mt_pop ho hbase hline
theorem pe_popAtK (K : PySem.W.Frag) {o e : Expr} {to : TE} {t : TA} {apos pos : Pos} (ho : PE X o to) (ha : PA X [e] t) (hK : X.K = K := by rfl)
    (hbase : attributeBase o "pop" X.env (eval o X.env) = eval o X.env := by rfl)
    (hfew : ((backTo pos (starEach [e] X.env)).all (fun x => !x.1) && (backToKw pos (keywordEach [] X.env)).all (fun x => x.1.isSome)
      && decide ([e].length + ([] : List Keyword).length + (if ([] : List Keyword).isEmpty then 0 else 1) < 30)) = true := by rfl)
    (hline : (apos.endLine == pos.line) = true := by rfl) (hs : starEach [e] X.env = (false, eval e X.env) :: starEach [] X.env := by rfl) (hplain : (backTo pos (starEach [] X.env)).any (·.1) = false := by rfl) :
    PE X (.Call (.Attribute o "pop" apos) [e] [] pos) (tBM K "list" rPopAt to t) := by
  subst hK
  exact pe_bm PySem.F.plainAttrs_list PySem.F.slot_list_pop PySem.F.type_list_pop mt_popAt ho ha hbase hfew hline hs hplain
end
def spCell (K : PySem.W.Frag) : Sp := fun vs H Q _ => ∃ (a : Addr) (ns : List Int) (k : Int), vs = [.ref a, .int k] ∧ SqL K H a (ns.map V.int) ∧ 0 ≤ k ∧ ∀ z, Q (.int z) H
theorem scCell : FnScope ["script", "k"] ["script", "k"] (defScope s_law_cell_at) := ⟨rfl, rfl, rfl, by decide +kernel, rfl, by decide +kernel, by decide +kernel⟩
theorem ok_cell {f : Addr} {fd : FuncData} (F : Fun K "_law_cell_at" "_law_cell_at" s_law_cell_at f fd) (B : Bl mg) : FnOk P w K mg base CX0 1 f fd ["script", "k"] (spCell K) := by
  refine F.ok scCell (fun vs H Q E h => ?_) (fun cdv A outer s H vs Q E hr h => ?_)
  · obtain ⟨a, ns, k, rfl, _⟩ := h
    rfl
  · obtain ⟨a, ns, k, rfl, ha, k0, q⟩ := h
    refine ⟨_, pss_cons (ps_if (pt_cmpR op_lt (pv 1) (pe_lenL B.len (pa_cons (pv 0) pa_nil)) (nomark _)) (pss_one (ps_ret (pe_ix ix_list (pv 0) (pv 1) (fun _ _ => rfl)))) pss_nil) (pss_one (ps_ret pe_int)), ?_⟩
    refine ⟨_, rfl, _, rfl, a, _, rfl, .inl ha, _, _, rfl, rfl, _, rfl, ?_⟩
    rw [List.length_map]
    refine ite2 (fun h => ?_) (fun h => q 0)
    have h : k < (ns.length : Int) := of_decide_eq_true h
    exact ⟨_, rfl, _, rfl, a, _, k, _, rfl, rfl, ha, atI_map k0 h, q _⟩
def spStir : Sp := fun vs H Q _ => ∃ (z k : Int), vs = [.int z, .int k] ∧ 0 ≤ k ∧ k ≤ 1000 ∧ ∀ r : Int, 0 ≤ r → Q (.int r) H
theorem scStir : FnScope ["cell", "k", "one"] ["cell", "k"] (defScope s_law_stir) := ⟨rfl, rfl, rfl, by decide +kernel, rfl, by decide +kernel, by decide +kernel⟩
theorem ok_stir {f : Addr} {fd : FuncData} (F : Fun K "_law_stir" "_law_stir" s_law_stir f fd) : FnOk P w K mg base CX0 1 f fd ["cell", "k"] spStir := by
  refine F.ok scStir (fun vs H Q E h => ?_) (fun cdv A outer s H vs Q E hr h => ?_)
  · obtain ⟨z, k, rfl, _⟩ := h
    rfl
  · obtain ⟨z, k, rfl, k0, k1, q⟩ := h
    refine ⟨_, pss_cons (ps_set (i := 2) scStir.nd rfl (Or.inl rfl) (pe_op op_mod (pe_op op_mul (pe_op op_add (pe_op op_add (pe_op op_mod (pv 0) pe_int) (pe_op op_mul pe_int (pv 1))) pe_int) pe_int) pe_int))
      (pss_cons (ps_set (i := 2) scStir.nd rfl (Or.inl rfl) (pe_op op_mod (pe_op op_mul (pv 2) (pv 2)) pe_int))
      (pss_one (ps_ret (pe_op op_fdiv (pe_op op_mod (pe_op op_mul (pe_op op_add (pv 2) (pe_op op_mul pe_int (pv 1))) pe_int) pe_int) pe_int)))), ?_⟩
    have e64 : (2 : Int) ^ 64 = 18446744073709551616 := by decide
    refine ⟨_, rfl, _, _, rfl, rfl, (by show (0 : Int) < 2147483629; decide), _, rfl, _, _, rfl, rfl, .inl ⟨by decide, by decide⟩, _, _, rfl, rfl, _, _, rfl, rfl, _, _, rfl, rfl, .inr ⟨by decide, by decide⟩, _, _, rfl, rfl, (by show (0 : Int) < 2147483647; decide), ?_⟩
    refine ⟨_, rfl, _, rfl, _, _, rfl, rfl, .inl ⟨by rw [e64]; omega, by rw [e64]; omega⟩, _, _, rfl, rfl, (by show (0 : Int) < 2147483587; decide), ?_⟩
    refine ⟨_, rfl, _, rfl, _, _, rfl, rfl, .inl ⟨by decide, by decide⟩, _, _, rfl, rfl, _, _, rfl, rfl, .inr ⟨by decide, by decide⟩, _, _, rfl, rfl, (by show (0 : Int) < 2147483563; decide), _, _, rfl, rfl, ⟨by decide, by decide⟩, ?_⟩
    exact q _ (Int.ediv_nonneg (Int.emod_nonneg _ (by decide)) (by decide))
def DeckAt (H : Hp) (a : Addr) : Prop := ∃ ds : List Int, H a = some (.lst (ds.map V.int)) ∧ (∀ x ∈ ds, 0 ≤ x) ∧ ds.length ≤ 1000
def spDeck : Sp := fun vs H Q _ => ∃ (z : Int) (n : Nat), vs = [.int z, .int (n : Int)] ∧ n ≤ 900 ∧ ∀ (l : Addr) (H' : Hp), H l = none → Same H H' → DeckAt H' l → Q (.ref l) H'
theorem scDeck : FnScope ["cell", "many", "found", "digits", "k", "number"] ["cell", "many"] (defScope s_law_deck) := ⟨rfl, rfl, rfl, by decide +kernel, rfl, by decide +kernel, by decide +kernel⟩
theorem ok_deck {f : Addr} {fd : FuncData} (F : Fun K "_law_deck" "_law_deck" s_law_deck f fd) (B : Bl mg) (cS : Cal P w K mg base "_law_stir" 1 ["cell", "k"] spStir) : FnOk P w K mg base CX0 2 f fd ["cell", "many"] spDeck := by
  refine F.ok scDeck (fun vs H Q E h => ?_) (fun cdv A outer s H vs Q E hr h => ?_)
  · obtain ⟨z, n, rfl, _⟩ := h
    rfl
  · obtain ⟨z, n, rfl, n9, q⟩ := h
    refine ⟨_, pss_cons (ps_set (i := 2) scDeck.nd rfl (Or.inl rfl) (pe_lst pa_nil))
      (pss_cons (ps_set (i := 3) scDeck.nd rfl (Or.inl rfl) (pv 0))
      (pss_cons (ps_for PassesOwn.never rfl (pi_range1 (by rfl) B.range (pa_cons (pv 1) pa_nil)) (pg_name (i := 4) scDeck.nd rfl (Or.inl rfl))
        (pss_cons (ps_set (i := 5) scDeck.nd rfl (Or.inl rfl) (pe_cal cS hr (pa_cons (pv 0) (pa_cons (pv 4) pa_nil))))
        (pss_cons (ps_if (pt_cmpR op_ge (pv 0) (pe_op op_pow pe_int pe_int) (nomark _)) (pss_one (ps_set (i := 5) scDeck.nd rfl (Or.inl rfl) (pe_op op_mod (pv 3) pe_int))) pss_nil)
        (pss_cons (ps_set (i := 3) scDeck.nd rfl (Or.inl rfl) (pe_op op_fdiv (pv 3) pe_int))
        (pss_one (ps_expr (pe_append (pv 2) (pa_cons (pv 5) pa_nil))))))))
      (pss_one (ps_ret (pe_rev (pv 2) (po_some (pe_un un_neg pe_int))))))), ?_⟩
    refine ⟨Nat.zero_le _, fun l hl => ?_⟩
    have s1 : Same H (upd H l (.lst [])) := Same.upd_new hl
    have h1l : (upd H l (.lst [])) l = some (.lst []) := upd_same
    generalize (upd H l (.lst [])) = H1 at s1 h1l ⊢
    refine ⟨_, rfl, ?_⟩
    refine ⟨_, rfl, (n : Int), rfl, by omega, by omega, for_range (lo := 0) (n := ((n : Nat) : Int).toNat) (fun i σ H2 => ∃ (ds : List Int) (dg : Int) (v4 v5 : Option V), σ = [some (.int z), some (.int (n : Int)), some (.ref l), some (.int dg), v4, v5] ∧ H2 l = some (.lst (ds.map V.int)) ∧ ds.length = i ∧ (∀ x ∈ ds, 0 ≤ x) ∧ Same H H2)
      ⟨[], z, none, none, rfl, h1l, rfl, fun x hx => by simp at hx, s1⟩ ?_ ?_⟩
    · rintro i σ H2 hi ⟨ds, dg, v4, v5, rfl, h2l, lds, pos, s2⟩
      refine ⟨_, rfl, _, rfl, z, _, rfl, by omega, by omega, fun r r0 => ?_⟩
      have cp : CPow 10 18 := ⟨by decide, by decide, by decide⟩
      refine ⟨_, rfl, _, _, rfl, rfl, cp, _, _, rfl, rfl, _, rfl, ?_⟩
      have fin : ∀ w : Int, 0 ≤ w → ∃ (ds' : List Int) (dg' : Int) (v4 v5 : Option V), [some (V.int z), some (V.int (n : Int)), some (.ref l), some (V.int (dg / 720720)), some (V.int ((0 : Int) + (i : Int))), some (V.int w)] = [some (V.int z), some (V.int (n : Int)), some (.ref l), some (V.int dg'), v4, v5] ∧ (upd H2 l (.lst (ds.map V.int ++ [.int w]))) l = some (.lst (ds'.map V.int)) ∧ ds'.length = i + 1 ∧ (∀ x ∈ ds', 0 ≤ x) ∧ Same H (upd H2 l (.lst (ds.map V.int ++ [.int w]))) := fun w w0 => by
        refine ⟨ds ++ [w], dg / 720720, _, _, rfl, by rw [upd_same, List.map_append]; rfl, by rw [List.length_append, lds]; rfl, fun x hx => ?_, fun b o hb => by rw [upd_ne (ne_of_none hb hl)]; exact s2 b o hb⟩
        rcases List.mem_append.mp hx with y | y
        · exact pos x y
        · have : x = w := by simpa using y
          rw [this]; exact w0
      refine ite2 (fun _ => ?_) (fun _ => ?_)
      · refine ⟨_, rfl, _, _, rfl, rfl, (by show (0 : Int) < 720720; decide), ?_⟩
        refine ⟨_, rfl, _, _, rfl, rfl, ⟨by decide, by decide⟩, ?_⟩
        refine ⟨_, rfl, .inl ⟨rfl, _, SqL.of h2l⟩, _, rfl, l, _, _, rfl, rfl, h2l, small1000 (by rw [List.length_map]; omega), ?_⟩
        exact fin (dg % 720720) (Int.emod_nonneg _ (by decide))
      · refine ⟨_, rfl, _, _, rfl, rfl, ⟨by decide, by decide⟩, ?_⟩
        refine ⟨_, rfl, .inl ⟨rfl, _, SqL.of h2l⟩, _, rfl, l, _, _, rfl, rfl, h2l, small1000 (by rw [List.length_map]; omega), ?_⟩
        exact fin r r0
    · rintro σ H2 ⟨ds, dg, v4, v5, rfl, h2l, lds, pos, s2⟩
      refine ⟨_, rfl, _, rfl, _, rfl, rfl, l, _, rfl, SqL.of h2l, fun o ho => ?_⟩
      refine q o _ (s2.free ho) (s2.upd_r (s2.free ho)) ⟨ds.reverse, by rw [upd_same, List.map_reverse], fun x hx => pos x (List.mem_reverse.mp hx), by rw [List.length_reverse]; omega⟩
def spNext : Sp := fun vs H Q _ => ∃ (a : Addr), vs = [.ref a] ∧ DeckAt H a ∧ ∀ (r : Int) (H' : Hp), 0 ≤ r → DeckAt H' a → KeepBut a H H' → Q (.int r) H'
theorem scNext : FnScope ["deck"] ["deck"] (defScope s_law_next) := ⟨rfl, rfl, rfl, by decide +kernel, rfl, by decide +kernel, by decide +kernel⟩
theorem ok_next {f : Addr} {fd : FuncData} (F : Fun K "_law_next" "_law_next" s_law_next f fd) : FnOk P w K mg base CX0 1 f fd ["deck"] spNext := by
  refine F.ok scNext (fun vs H Q E h => ?_) (fun cdv A outer s H vs Q E hr h => ?_)
  · obtain ⟨a, rfl, _⟩ := h
    rfl
  · obtain ⟨a, rfl, ⟨ds, ha, pos, len⟩, q⟩ := h
    have hu := hu_of hr
    refine ⟨_, pss_cons (ps_if (pt_cmpR (op_eqL 0 hu) (pv 0) (pe_lst pa_nil) (nomark _)) (pss_one (ps_ret pe_int)) pss_nil) (pss_one (ps_ret (pe_pop (pv 0)))), ?_⟩
    refine ⟨_, rfl, Nat.zero_le _, fun e he => ?_⟩
    have nae : a ≠ e := ne_of_none ha he
    have h1a : (upd H e (.lst [])) a = some (.lst (ds.map V.int)) := by rw [upd_ne nae]; exact ha
    have kb : KeepBut a H (upd H e (.lst [])) := fun b o hb _ => by rw [upd_ne (ne_of_none hb he)]; exact hb
    refine ⟨a, e, ds.map V.int, [], _, rfl, rfl, SqL.of h1a, SqL.of upd_same, leq_nil _ _ _ _, _, rfl, ?_⟩
    generalize (upd H e (.lst [])) = H1 at h1a kb ⊢
    cases ds with
    | nil => exact iteT (q 0 H1 (by decide) ⟨[], h1a, pos, len⟩ kb)
    | cons x xs =>
      refine iteF ?_
      have hl : (x :: xs).length - 1 < (x :: xs).length := by simp
      have hg : ((x :: xs).map V.int)[((x :: xs).map V.int).length - 1]? = some (.int (x :: xs)[(x :: xs).length - 1]) := by
        rw [List.length_map, List.getElem?_map, List.getElem?_eq_getElem hl]; rfl
      refine ⟨_, rfl, .inl ⟨rfl, _, SqL.of h1a⟩, a, _, _, rfl, rfl, h1a, hg, ?_⟩
      refine q _ _ (pos _ (List.getElem_mem hl)) ⟨(x :: xs).dropLast, by rw [upd_same, List.map_dropLast], fun y hy => pos y ((List.dropLast_sublist _).mem hy), by rw [List.length_dropLast]; omega⟩ fun b o hb hn => by rw [upd_ne hn]; exact kb b o hb hn
end
end My
namespace My
open PySem L2 Mth
section
variable {P : Program} {w : World} {K : PySem.W.Frag} {mg : Str → Option Value} {base : Heap}
def spTurnD : Sp := fun vs H Q _ => ∃ (g : Addr) (n : Nat), vs = [.ref g, .int (n : Int)] ∧ DeckAt H g ∧ n ≤ 40 ∧
  ∀ (l : Addr) (p : List Int) (H' : Hp), H l = none → IsT p → p.length = n → H' l = some (.lst (p.map V.int)) → DeckAt H' g → KeepBut g H H' → Q (.ref l) H'
theorem scTurnD : FnScope ["deck", "many", "left", "order", "few", "found", "at", "l", "k"] ["deck", "many"] (defScope s_law_turn) := ⟨rfl, rfl, rfl, by decide +kernel, rfl, by decide +kernel, by decide +kernel⟩
theorem ndKDL : (["k", "deck", "left"] : List Str).Nodup := by decide +kernel
theorem DeckAt.some {H : Hp} {a : Addr} (h : DeckAt H a) : ∃ o, H a = some o := let ⟨_, e, _⟩ := h; ⟨_, e⟩
theorem DeckAt.same {H H' : Hp} {a : Addr} (h : DeckAt H a) (s : Same H H') : DeckAt H' a := let ⟨ds, e, r⟩ := h; ⟨ds, s _ _ e, r⟩
theorem DeckAt.upd {H : Hp} {a b : Addr} {o : HO} (h : DeckAt H a) (n : a ≠ b) : DeckAt (L2.upd H b o) a := let ⟨ds, e, r⟩ := h; ⟨ds, by rw [upd_ne n]; exact e, r⟩
theorem ok_turnD {f : Addr} {fd : FuncData} (F : Fun K "_law_turn" "_law_turn" s_law_turn f fd) (B : Bl mg) (cN : Cal P w K mg base "_law_next" 1 ["deck"] spNext) : FnOk P w K mg base CX0 2 f fd ["deck", "many"] spTurnD := by
  refine F.ok scTurnD (fun vs H Q E h => ?_) (fun cdv A outer s H vs Q E hr h => ?_)
  · obtain ⟨g, n, rfl, _⟩ := h
    rfl
  · obtain ⟨g, n, rfl, hD, n4, q⟩ := h
    refine ⟨_, pss_cons (ps_set (i := 2) scTurnD.nd rfl (Or.inr rfl) (pe_listRng rfl B.list B.range (pa_cons (pv 1) pa_nil)))
      (pss_cons (ps_setC (i := 3) (N := ["k", "deck", "left"]) (nl := 1) (fr := [0, 2]) scTurnD.nd rfl (Or.inl rfl) rfl .of (pi_range1 (by rfl) B.range (pa_cons (pv 1) pa_nil)) (fun _ _ _ _ _ => pg_name (i := 0) ndKDL rfl (Or.inl rfl))
        (fun _ _ _ _ _ => pifs_nil) (fun _ _ _ _ _ => pe_popAtK K (pv 2) (pa_cons (pe_op op_mod (pe_cal cN hr (pa_cons (pv 1) pa_nil)) (pe_lenLK K B.len (pa_cons (pv 2) pa_nil))) pa_nil)))
      (pss_cons (ps_if (pt_cmpR op_eq (pe_op op_mod (pe_cal cN hr (pa_cons (pv 0) pa_nil)) pe_int) pe_int (nomark _)) (pss_one (ps_ret (pv 3))) pss_nil)
      (pss_cons (ps_set (i := 4) scTurnD.nd rfl (Or.inl rfl) (pe_lst (pa_cons (pe_op op_add pe_int (pe_op op_mod (pe_cal cN hr (pa_cons (pv 0) pa_nil)) pe_int)) (pa_cons (pe_op op_add pe_int (pe_op op_mod (pe_cal cN hr (pa_cons (pv 0) pa_nil)) pe_int)) pa_nil))))
      (pss_cons (ps_set (i := 5) scTurnD.nd rfl (Or.inl rfl) (pe_op op_rep (pe_lst (pa_cons pe_int pa_nil)) (pv 1)))
      (pss_cons (ps_set (i := 6) scTurnD.nd rfl (Or.inl rfl) pe_int)
      (pss_cons (ps_while PassesOwn.never (pt_cmpR op_lt (pv 6) (pv 1) (nomark _))
        (pss_cons (ps_set (i := 7) scTurnD.nd rfl (Or.inl rfl) (pe_min2 rfl B.min (pa_cons (pe_ix ix_list (pv 4) (pe_op op_mod (pe_cal cN hr (pa_cons (pv 0) pa_nil)) pe_int) (fun _ _ => rfl)) (pa_cons (pe_op op_sub (pv 1) (pv 6)) pa_nil))))
        (pss_cons (ps_for PassesOwn.never rfl (pi_range1 (by rfl) B.range (pa_cons (pv 7) pa_nil)) (pg_name (i := 8) scTurnD.nd rfl (Or.inl rfl))
          (pss_one (ps_asg (pe_ix ix_list (pv 3) (pe_op op_add (pv 6) (pe_op op_mod (pe_op op_add (pv 8) pe_int) (pv 7))) (fun _ _ => rfl)) (pg_sub (pv 5) (pe_ix ix_list (pv 3) (pe_op op_add (pv 6) (pv 8)) (fun _ _ => rfl)) set_list))))
        (pss_one (ps_set (i := 6) scTurnD.nd rfl (Or.inl rfl) (pe_op op_add (pv 6) (pv 7)))))))
      (pss_one (ps_ret (pv 5))))))))), ?_⟩
    refine ⟨_, rfl, _, rfl, fun r hr' => ⟨r, 0, (n : Int), rfl, upd_same, ⟨by decide, by decide, by omega, by omega⟩, by omega, fun l hl => ?_⟩⟩
    have hlr : l ≠ r := fun z => by rw [z, upd_same] at hl; cases hl
    have hl0 : H l = none := by rw [upd_ne hlr] at hl; exact hl
    have e0 : ((n : Int) - 0).toNat = n := by omega
    rw [e0]
    have s1 : Same H (upd (upd H r (.rng 0 (n : Int))) l (.lst ((upTo 0 n).map V.int))) := (Same.upd_new hr').upd_r hl0
    have h1l : (upd (upd H r (.rng 0 (n : Int))) l (.lst ((upTo 0 n).map V.int))) l = some (.lst ((upTo 0 n).map V.int)) := upd_same
    generalize (upd (upd H r (.rng 0 (n : Int))) l (.lst ((upTo 0 n).map V.int))) = H1 at s1 h1l ⊢
    have ngl : g ≠ l := by obtain ⟨o, e⟩ := hD.some; exact ne_of_none e hl0
    refine ⟨_, rfl, (n : Int), rfl, by omega, by omega, comp_range (lo := 0) (n := ((n : Nat) : Int).toNat) (fun i ys σ H2 => ∃ (v : Option V) (ls : List V), σ = [v, some (.ref g), some (.ref l)] ∧ H2 l = some (.lst ls) ∧ (ys ++ ls).Perm ((upTo 0 n).map V.int) ∧ ys.length = i ∧ DeckAt H2 g ∧ KeepBut g H H2)
      ⟨none, _, rfl, h1l, List.Perm.refl _, rfl, hD.same s1, fun b o hb _ => s1 b o hb⟩ ?_ ?_⟩
    · rintro i ys σ H2 hi ⟨v, ls, rfl, h2l, pm, ly, D2, kb2⟩
      have hlen : ys.length + ls.length = n := by
        have := pm.length_eq
        rw [List.length_append, List.length_map, length_upTo] at this
        exact this
      have hlp : 0 < ls.length := by omega
      refine ⟨_, rfl, .inl ⟨rfl, _, SqL.of h2l⟩, _, rfl, g, rfl, D2, fun x H3 x0 D3 kb3 => ?_⟩
      have h3l := kb3 l _ h2l ngl.symm
      refine ⟨_, rfl, l, _, rfl, .inl (SqL.of h3l), _, _, rfl, rfl, (by show (0 : Int) < (ls.length : Int); omega), ?_⟩
      have hm0 : 0 ≤ x % (ls.length : Int) := Int.emod_nonneg _ (by omega)
      have hm1 : x % (ls.length : Int) < (ls.length : Int) := Int.emod_lt_of_pos _ (by omega)
      dsimp only
      generalize x % (ls.length : Int) = jx at hm0 hm1 ⊢
      obtain ⟨jn, rfl⟩ := Int.eq_ofNat_of_zero_le hm0
      have hjl : jn < ls.length := by omega
      refine ⟨l, _, _, jn, ls[jn], rfl, rfl, h3l, by omega, by omega, ?_, List.getElem?_eq_getElem hjl, ?_, ?_⟩
      · have : ixN ls.length (jn : Int) = some jn := by
          unfold ixN
          rw [if_pos (by omega), if_pos (by omega)]
          simp
        exact (ixN_seq this).1
      · exact small1000 (by omega)
      · refine ⟨_, _, rfl, upd_same, ?_, by rw [List.length_append, ly]; rfl, D3.upd ngl, fun b o hb hn => by rw [upd_ne (ne_of_none hb hl0)]; exact kb3 b o (kb2 b o hb hn) hn⟩
        have pe := perm_erase (l := ls) (k := jn) (List.getElem?_eq_getElem hjl)
        refine List.Perm.trans ?_ pm
        rw [List.append_assoc]
        exact List.Perm.append_left ys pe
    · rintro ys σ H2 ⟨v, ls, rfl, h2l, pm, ly, D2, kb2⟩ m hm
      have hlen : ys.length + ls.length = n := by
        have := pm.length_eq
        rw [List.length_append, List.length_map, length_upTo] at this
        exact this
      have : ls = [] := List.length_eq_zero_iff.mp (by omega)
      subst this
      rw [List.append_nil] at pm
      obtain ⟨ts, rfl, hts⟩ := perm_ints pm
      obtain ⟨hT, hTl⟩ := isT_of_perm hts
      have ngm : g ≠ m := by obtain ⟨o, e⟩ := D2.some; exact ne_of_none e hm
      have hm0 : H m = none := kb2.free hm ngm.symm
      have D3 : DeckAt (upd H2 m (.lst (ts.map V.int))) g := D2.upd ngm
      have kb3 : KeepBut g H (upd H2 m (.lst (ts.map V.int))) := kb2.upd_r hm0
      have h3m : (upd H2 m (.lst (ts.map V.int))) m = some (.lst (ts.map V.int)) := upd_same
      generalize (upd H2 m (.lst (ts.map V.int))) = H3 at D3 kb3 h3m ⊢
      refine ⟨_, rfl, g, rfl, D3, fun x1 H4 x10 D4 kb34 => ?_⟩
      have h4m := kb34 m _ h3m ngm.symm
      have kb4 := kb3.trans kb34
      refine ⟨_, _, rfl, rfl, (by show (0 : Int) < 4; decide), rfl, _, rfl, ?_⟩
      refine ite2 (fun _ => ⟨_, rfl, q m ts H4 hm0 hT hTl h4m D4 kb4⟩) (fun _ => ?_)
      refine ⟨_, rfl, g, rfl, D4, fun x2 H5 x20 D5 kb45 => ⟨_, _, rfl, rfl, (by show (0 : Int) < 4; decide), _, _, rfl, rfl, ?_⟩⟩
      refine ⟨_, rfl, g, rfl, D5, fun x3 H6 x30 D6 kb56 => ⟨_, _, rfl, rfl, (by show (0 : Int) < 6; decide), _, _, rfl, rfl, (by show 2 ≤ sizeLine; decide), fun fw hfw => ?_⟩⟩
      have ngf : g ≠ fw := by obtain ⟨o, e⟩ := D6.some; exact ne_of_none e hfw
      have f1 : 1 ≤ 1 + x2 % 4 ∧ 1 + x2 % 4 ≤ 4 := by omega
      have f2 : 1 ≤ 1 + x3 % 6 ∧ 1 + x3 % 6 ≤ 6 := by omega
      have kb6 := (kb4.trans kb45).trans kb56
      have hfw0 : H fw = none := kb6.free hfw ngf.symm
      have h6m := kb56 m _ (kb45 m _ h4m ngm.symm) ngm.symm
      have nmf : m ≠ fw := ne_of_none h6m hfw
      dsimp only
      generalize 1 + x2 % 4 = a1 at f1 ⊢
      generalize 1 + x3 % 6 = a2 at f2 ⊢
      have h7f : (upd H6 fw (.lst [.int a1, .int a2])) fw = some (.lst [.int a1, .int a2]) := upd_same
      have h7m : (upd H6 fw (.lst [.int a1, .int a2])) m = some (.lst (ts.map V.int)) := by rw [upd_ne nmf]; exact h6m
      have D7 : DeckAt (upd H6 fw (.lst [.int a1, .int a2])) g := D6.upd ngf
      have kb7 : KeepBut g H (upd H6 fw (.lst [.int a1, .int a2])) := kb6.upd_r hfw0
      generalize (upd H6 fw (.lst [.int a1, .int a2])) = H7 at h7f h7m D7 kb7 ⊢
      refine ⟨(by show 1 ≤ sizeLine; decide), fun e he => ?_⟩
      have nge : g ≠ e := by obtain ⟨o, e'⟩ := D7.some; exact ne_of_none e' he
      have he0 : H e = none := kb7.free he nge.symm
      refine ⟨_, rfl, e, _, _, rfl, rfl, upd_same, by omega, by omega, by show 1 * _ ≤ sizeLine; rw [sizeLine_eq]; omega, fun fo hfo => ?_⟩
      rw [show ((n : Nat) : Int).toNat = n by omega, rep_zero]
      have hfe : fo ≠ e := fun z => by rw [z, upd_same] at hfo; cases hfo
      have hfo7 : H7 fo = none := by rw [upd_ne hfe] at hfo; exact hfo
      have ngo : g ≠ fo := by obtain ⟨o, e'⟩ := D7.some; exact ne_of_none e' hfo7
      have hfo0 : H fo = none := kb7.free hfo7 ngo.symm
      have nmo : m ≠ fo := ne_of_none h7m hfo7
      have nfo : fw ≠ fo := ne_of_none h7f hfo7
      have s78 : Same H7 (upd (upd H7 e (.lst [.int 0])) fo (.lst ((List.replicate n (0 : Int)).map V.int))) := (Same.upd_new he).upd_r hfo7
      have h8o : (upd (upd H7 e (.lst [.int 0])) fo (.lst ((List.replicate n (0 : Int)).map V.int))) fo = some (.lst ((List.replicate n (0 : Int)).map V.int)) := upd_same
      generalize (upd (upd H7 e (.lst [.int 0])) fo (.lst ((List.replicate n (0 : Int)).map V.int))) = H8 at s78 h8o ⊢
      refine ⟨fun mm σ H9 => ∃ (fs qs : List Int) (k : Nat) (v7 v8 : Option V), σ = [some (.ref g), some (.int (n : Int)), some (.ref l), some (.ref m), some (.ref fw), some (.ref fo), some (.int (k : Int)), v7, v8] ∧ k ≤ n ∧ H9 fo = some (.lst (fs.map V.int)) ∧ H9 m = some (.lst (ts.map V.int)) ∧ H9 fw = some (.lst [.int a1, .int a2]) ∧ fs.length = ts.length ∧ qs.Perm (ts.take k) ∧ (ts.take k).map (at0 fs) = qs.map some ∧ DeckAt H9 g ∧ KeepBut g H H9 ∧ mm = n - k,
        ⟨n, _, [], 0, none, none, rfl, Nat.zero_le _, h8o, s78 m _ h7m, s78 fw _ h7f, by rw [List.length_replicate, hTl], List.Perm.refl _, rfl, D7.same s78, fun b o hb hn => s78 b o (kb7 b o hb hn), by omega⟩, ?_⟩
      rintro mm σ H9 ⟨fs, qs, k, v7, v8, rfl, hk, h9o, h9m, h9f, hfl, hq, hmap, D9, kb9, rfl⟩
      refine ⟨_, rfl, _, rfl, _, _, rfl, rfl, _, rfl, ?_⟩
      refine ite2 (fun hlt => ?_) (fun hge => ?_)
      · have hlt : (k : Int) < (n : Int) := of_decide_eq_true hlt
        refine ⟨fun σ' H' => ∃ m', m' < n - k ∧ _, fun _ _ h => h, ?_⟩
        refine ⟨_, rfl, _, rfl, g, rfl, D9, fun x4 H10 x40 D10 kb910 => ⟨_, _, rfl, rfl, (by show (0 : Int) < 2; decide), ?_⟩⟩
        have h10f := kb910 fw _ h9f ngf.symm
        have key : ∃ av, atI [V.int a1, V.int a2] (x4 % 2) = some (.int av) ∧ 1 ≤ av := by
          have : x4 % 2 = 0 ∨ x4 % 2 = 1 := by omega
          rcases this with e | e
          · rw [e]; exact ⟨a1, atI_nat (j := 0) rfl, f1.1⟩
          · rw [e]; exact ⟨a2, atI_nat (j := 1) rfl, f2.1⟩
        obtain ⟨av, hat, av1⟩ := key
        refine ⟨fw, _, _, _, rfl, rfl, SqL.of h10f, hat, ?_⟩
        refine ⟨_, rfl, _, rfl, _, _, rfl, rfl, av, _, rfl, ?_⟩
        have hL : ∃ L : Nat, (if ((n : Int) - (k : Int)) < av then ((n : Int) - (k : Int)) else av) = (L : Int) ∧ 1 ≤ L ∧ k + L ≤ n := by
          split
          · exact ⟨n - k, by omega, by omega, by omega⟩
          · exact ⟨av.toNat, by omega, by omega, by omega⟩
        obtain ⟨L, eL, L1, kL⟩ := hL
        dsimp only
        rw [eL]
        have h10m := kb910 m _ h9m ngm.symm
        have h10o := kb910 fo _ h9o ngo.symm
        have kb10 := kb9.trans kb910
        have hLn : ((L : Nat) : Int).toNat = L := by omega
        refine ⟨_, rfl, (L : Int), rfl, by omega, by omega, for_range (lo := 0) (n := ((L : Nat) : Int).toNat) (fun j σ H11 => ∃ (fs' : List Int) (v8' : Option V), σ = [some (.ref g), some (.int (n : Int)), some (.ref l), some (.ref m), some (.ref fw), some (.ref fo), some (.int (k : Int)), some (.int (L : Int)), v8'] ∧ H11 fo = some (.lst (fs'.map V.int)) ∧ H11 m = some (.lst (ts.map V.int)) ∧ H11 fw = some (.lst [.int a1, .int a2]) ∧ fs'.length = ts.length ∧ (ts.take k).map (at0 fs') = qs.map some ∧ (∀ u, u < j → at0 fs' (ts.getD (k + u) 0) = some (ts.getD (k + (u + 1) % L) 0)) ∧ DeckAt H11 g ∧ KeepBut g H H11)
          ⟨fs, v8, rfl, h10o, h10m, h10f, hfl, hmap, fun u hu => by omega, D10, kb10⟩ ?_ ?_⟩
        · rintro j σ H11 hj ⟨fs', v8', rfl, h11o, h11m, h11f, hfl', hmap', hu', D11, kb11⟩
          have hjL : j < L := by omega
          have hjm : (j + 1) % L < L := Nat.mod_lt _ (by omega)
          have hi1 : k + j < ts.length := by omega
          have hi2 : k + (j + 1) % L < ts.length := by omega
          have ej : (k : Int) + ((0 : Int) + (j : Int) + 1) % (L : Int) = ((k + (j + 1) % L : Nat) : Int) := by
            have e1 : (0 : Int) + (j : Int) + 1 = ((j + 1 : Nat) : Int) := by omega
            rw [e1, ← Int.natCast_emod]
            omega
          have hat1 : atI (ts.map V.int) ((k : Int) + ((0 : Int) + (j : Int) + 1) % (L : Int)) = some (.int (ts.getD (k + (j + 1) % L) 0)) := by
            rw [ej]
            have := atI_map (p := ts) (i := ((k + (j + 1) % L : Nat) : Int)) (by omega) (by omega)
            rw [Int.toNat_natCast] at this
            exact this
          have hat2 : atI (ts.map V.int) ((k : Int) + ((0 : Int) + (j : Int))) = some (.int (ts.getD (k + j) 0)) := by
            have e : (k : Int) + ((0 : Int) + (j : Int)) = ((k + j : Nat) : Int) := by omega
            rw [e]
            have := atI_map (p := ts) (i := ((k + j : Nat) : Int)) (by omega) (by omega)
            rw [Int.toNat_natCast] at this
            exact this
          refine ⟨_, rfl, _, rfl, _, rfl, _, _, rfl, rfl, _, rfl, _, _, rfl, rfl, (by show (0 : Int) < (L : Int); omega), _, _, rfl, rfl, m, _, _, _, rfl, rfl, SqL.of h11m, hat1, ?_⟩
          refine ⟨_, rfl, _, rfl, _, rfl, _, rfl, _, _, rfl, rfl, m, _, _, _, rfl, rfl, SqL.of h11m, hat2, ?_⟩
          have htv : ts.getD (k + j) 0 ∈ ts := by rw [getD_eq hi1]; exact List.getElem_mem hi1
          have t0 := hT.lo _ htv
          have t1 := hT.hi _ htv
          refine ⟨fo, _, _, (ts.getD (k + j) 0).toNat, rfl, rfl, h11o, ?_, ?_⟩
          · unfold ixN
            rw [List.length_map, if_pos t0, if_pos (by omega)]
          have es : (fs'.map V.int).set (ts.getD (k + j) 0).toNat (.int (ts.getD (k + (j + 1) % L) 0)) = (fs'.set (ts.getD (k + j) 0).toNat (ts.getD (k + (j + 1) % L) 0)).map V.int := by rw [List.map_set]
          rw [es]
          refine ⟨_, _, rfl, upd_same, by rw [upd_ne nmo]; exact h11m, by rw [upd_ne nfo]; exact h11f, by rw [List.length_set]; exact hfl', ?_, ?_, D11.upd ngo, fun b o hb hnn => by rw [upd_ne (ne_of_none hb hfo0)]; exact kb11 b o hb hnn⟩
          · rw [← hmap']
            refine List.map_congr_left fun u hu => ?_
            have hut := List.mem_of_mem_take hu
            refine at0_ne (hT.lo u hut) t0 fun z => ?_
            obtain ⟨jj, hjj⟩ := List.mem_iff_getElem?.mp hu
            have hjk : jj < k := by
              have := (List.getElem?_eq_some_iff.mp hjj).1
              rw [List.length_take] at this
              omega
            rw [List.getElem?_take_of_lt hjk] at hjj
            have := (List.getElem?_eq_some_iff.mp hjj).2
            exact nodup_getD hT.nd (i := jj) (j := k + j) (by omega) hi1 (by omega) (by rw [getD_eq (show jj < ts.length by omega), this]; exact z)
          · intro u hu
            by_cases huj : u = j
            · subst huj
              exact at0_same (by omega)
            · have huj' : u < j := by omega
              rw [at0_ne (hT.lo _ (by rw [getD_eq (show k + u < ts.length by omega)]; exact List.getElem_mem _)) t0 (nodup_getD hT.nd (by omega) hi1 (by omega))]
              exact hu' u huj'
        · rintro σ H11 ⟨fs', v8', rfl, h11o, h11m, h11f, hfl', hmap', hu', D11, kb11⟩
          rw [hLn] at hu'
          obtain ⟨qs', hq', hmap''⟩ := seg_done L1 (by omega) hmap' hq hu'
          refine ⟨_, rfl, _, rfl, _, _, rfl, rfl, n - (k + L), by omega, fs', qs', k + L, some (.int (L : Int)), v8', ?_, kL, h11o, h11m, h11f, hfl', hq', hmap'', D11, kb11, rfl⟩
          rw [show ((k + L : Nat) : Int) = (k : Int) + (L : Int) by omega]; rfl
      · have hge : ¬ (k : Int) < (n : Int) := fun z => hge (decide_eq_true z)
        have hkl : k = ts.length := by omega
        rw [hkl, List.take_length] at hq hmap
        have pf := (perm_along hT hfl hmap).trans (hq.trans hts)
        obtain ⟨hF, hFl⟩ := isT_of_perm pf
        exact ⟨_, rfl, q fo fs H9 hfo0 hF hFl h9o D9 kb9⟩
def spM : Sp := fun vs H Q _ => ∃ (g : Addr), vs = [.ref g] ∧ DeckAt H g ∧ ∀ (m : Nat) (H' : Hp), 1 ≤ m → m ≤ 1000000000000000000000000000000 → DeckAt H' g → KeepBut g H H' → Q (.int (m : Int)) H'
theorem scM : FnScope ["deck", "way", "rest", "k", "found", "prime"] ["deck"] (defScope s_law_m) := ⟨rfl, rfl, rfl, by decide +kernel, rfl, by decide +kernel, by decide +kernel⟩
theorem for_tupT {K : PySem.W.Frag} {a : Addr} {xs : List V} {g : TG} {tb : TS} {D : Ends} {σ : St} {H : Hp} (Pv : Nat → St → Hp → Prop) (h0 : Pv 0 σ H) (hl : ∀ i σ H, i ≤ xs.length → Pv i σ H → SqT K H a xs)
    (hs : ∀ i x σ H, xs[i]? = some x → Pv i σ H → g x σ H fun σ2 H2 => tb { D with nx := Pv (i + 1), ct := Pv (i + 1), bk := D.nx } σ2 H2) (hd : ∀ σ H, Pv xs.length σ H → D.nx σ H) :
    ∃ W : Nat → Nat → St → Hp → Prop, (∃ m, W 0 m σ H) ∧ ∀ i m σ H, W i m σ H →
      ((Itt K a).stop i H ∧ D.nx σ H) ∨ ((Itt K a).go i H ∧ ∃ N : St → Hp → Prop, (∀ σ' H', N σ' H' → ∃ m', m' < m ∧ W (i + 1) m' σ' H') ∧ ∀ x H', (Itt K a).yld i H x H' → g x σ H' fun σ2 H2 => tb { D with nx := N, ct := N, bk := D.nx } σ2 H2) := by
  refine ⟨fun i m σ H => m = xs.length - i ∧ i ≤ xs.length ∧ Pv i σ H, ⟨xs.length, by simp, Nat.zero_le _, h0⟩, ?_⟩
  rintro i m σ H ⟨rfl, hi, p⟩
  have q := hl i σ H hi p
  by_cases hlt : i < xs.length
  · refine .inr ⟨⟨xs, xs[i], q, by simp [hlt]⟩, Pv (i + 1), fun σ' H' p' => ⟨xs.length - (i + 1), by omega, rfl, hlt, p'⟩, fun x H' y => ?_⟩
    obtain ⟨e, y⟩ := y
    subst e
    exact hs i x σ _ (y xs q) p
  · have e : i = xs.length := by omega
    subst e
    exact .inl ⟨⟨xs, q, Nat.le_refl _⟩, hd σ H p⟩
theorem ok_m {f : Addr} {fd : FuncData} (F : Fun K "_law_m" "_law_m" s_law_m f fd) (B : Bl mg) (cN : Cal P w K mg base "_law_next" 1 ["deck"] spNext) : FnOk P w K mg base CX0 2 f fd ["deck"] spM := by
  refine F.ok scM (fun vs H Q E h => ?_) (fun cdv A outer s H vs Q E hr h => ?_)
  · obtain ⟨g, rfl, _⟩ := h
    rfl
  · obtain ⟨g, rfl, hD, q⟩ := h
    refine ⟨_, pss_cons (ps_set (i := 1) scM.nd rfl (Or.inl rfl) (pe_op op_mod (pe_cal cN hr (pa_cons (pv 0) pa_nil)) pe_int))
      (pss_cons (ps_if (pt_cmpR op_lt (pv 1) pe_int (nomark _)) (pss_one (ps_ret (pe_op op_add pe_int (pe_op op_mod (pe_cal cN hr (pa_cons (pv 0) pa_nil)) (pe_ix ix_list (pe_lst (pa_cons pe_int (pa_cons pe_int pa_nil))) (pv 1) (fun _ _ => rfl)))))) pss_nil)
      (pss_cons (ps_if (pt_cmpR op_eq (pv 1) pe_int (nomark _)) (pss_cons (ps_set (i := 2) scM.nd rfl (Or.inl rfl) pe_int) (pss_cons (ps_for PassesOwn.never rfl (pi_range1 (by rfl) B.range (pa_cons pe_int pa_nil)) (pg_name (i := 3) scM.nd rfl (Or.inl rfl)) (pss_one (ps_set (i := 2) scM.nd rfl (Or.inl rfl) (pe_op op_add (pe_op op_mul (pv 2) pe_int) (pe_cal cN hr (pa_cons (pv 0) pa_nil))))))
          (pss_one (ps_ret (pe_op op_add pe_int (pe_op op_mod (pv 2) (pe_op op_sub (pe_op op_pow pe_int pe_int) pe_int))))))) pss_nil)
      (pss_cons (ps_set (i := 4) scM.nd rfl (Or.inl rfl) pe_int)
      (pss_cons (ps_for PassesOwn.never rfl (pi_tup (pe_tup (pa_litsO _ [2, 2, 2, 3, 3, 5, 7] (by decide +kernel)))) (pg_name (i := 5) scM.nd rfl (Or.inl rfl)) (pss_one (ps_set (i := 4) scM.nd rfl (Or.inl rfl) (pe_op op_mul (pv 4) (pe_ix ix_list (pe_lst (pa_cons pe_int (pa_cons (pv 5) pa_nil))) (pe_op op_mod (pe_cal cN hr (pa_cons (pv 0) pa_nil)) pe_int) (fun _ _ => rfl))))))
      (pss_cons (ps_if (pt_cmpR op_eq (pv 1) pe_int (nomark _)) (pss_one (ps_for PassesOwn.never rfl (pi_range1 (by rfl) B.range (pa_cons pe_int pa_nil)) (pg_name (i := 3) scM.nd rfl (Or.inl rfl)) (pss_one (ps_set (i := 4) scM.nd rfl (Or.inl rfl) (pe_op op_mul (pv 4) (pe_op op_add pe_int (pe_op op_mod (pe_cal cN hr (pa_cons (pv 0) pa_nil)) pe_int))))))) pss_nil)
      (pss_one (ps_ret (pv 4)))))))), ?_⟩
    refine ⟨_, rfl, g, rfl, hD, fun x1 H1 x10 D1 kb1 => ⟨_, _, rfl, rfl, (by show (0 : Int) < 5; decide), ?_⟩⟩
    dsimp only
    obtain ⟨wy, hwy⟩ : ∃ wy, wy = x1 % 5 := ⟨_, rfl⟩
    have w5 : 0 ≤ wy ∧ wy < 5 := by omega
    refine ⟨_, rfl, _, _, rfl, rfl, _, rfl, ?_⟩
    refine ite2 (fun hw => ?_) (fun hw => ?_)
    · have hw : x1 % 5 < 2 := of_decide_eq_true hw
      refine ⟨_, rfl, g, rfl, D1, fun x2 H2 x20 D2 kb2 => ?_⟩
      refine ⟨(by show 2 ≤ sizeLine; decide), fun e he => ?_⟩
      have nge : g ≠ e := by obtain ⟨o, e'⟩ := D2.some; exact ne_of_none e' he
      have kb12 := kb1.trans kb2
      have key : ∃ av, atI [V.int 12, V.int 60] (x1 % 5) = some (.int av) ∧ 1 ≤ av ∧ av ≤ 60 := by
        have : x1 % 5 = 0 ∨ x1 % 5 = 1 := by omega
        rcases this with e | e
        · rw [e]; exact ⟨12, atI_nat (j := 0) rfl, by decide, by decide⟩
        · rw [e]; exact ⟨60, atI_nat (j := 1) rfl, by decide, by decide⟩
      obtain ⟨av, hat, av1, av2⟩ := key
      refine ⟨_, rfl, e, _, _, _, rfl, rfl, SqL.of upd_same, hat, _, _, rfl, rfl, (by show (0 : Int) < av; omega), _, _, rfl, rfl, ?_⟩
      have b1 := Int.emod_nonneg x2 (show av ≠ 0 by omega)
      have b2 := Int.emod_lt_of_pos x2 (show 0 < av by omega)
      have em : (1 : Int) + x2 % av = (((1 + x2 % av).toNat : Nat) : Int) := by omega
      dsimp only
      rw [em]
      exact q _ _ (by omega) (by omega) (D2.upd nge) (kb12.upd_r (kb12.free he nge.symm))
    · refine ⟨_, rfl, rfl, _, rfl, ?_⟩
      refine ite2 (fun hw4 => ?_) (fun hw4 => ?_)
      · refine ⟨6, rfl, by decide, by decide, for_range (lo := 0) (n := 6) (fun i σ H2 => ∃ (rest : Int) (v3 v4 v5 : Option V), σ = [some (.ref g), some (.int (x1 % 5)), some (.int rest), v3, v4, v5] ∧ 0 ≤ rest ∧ DeckAt H2 g ∧ KeepBut g H H2)
          ⟨0, none, none, none, rfl, by decide, D1, kb1⟩ ?_ ?_⟩
        · rintro i σ H2 hi ⟨rest, v3, v4, v5, rfl, r0, D2, kb2⟩
          refine ⟨_, rfl, _, _, rfl, rfl, .inr ⟨by decide, by decide⟩, _, rfl, g, rfl, D2, fun x2 H3 x20 D3 kb3 => ⟨_, _, rfl, rfl, ?_⟩⟩
          exact ⟨rest * 720720 + x2, _, _, _, rfl, by omega, D3, kb2.trans kb3⟩
        · rintro σ H2 ⟨rest, v3, v4, v5, rfl, r0, D2, kb2⟩
          refine ⟨_, rfl, _, _, rfl, rfl, ⟨by decide, by decide, by decide⟩, _, _, rfl, rfl, _, _, rfl, rfl, (by show (0 : Int) < 10 ^ (30 : Int).toNat - 1; decide), _, _, rfl, rfl, ?_⟩
          have e30 : (10 : Int) ^ (30 : Int).toNat = 1000000000000000000000000000000 := by decide
          dsimp only
          rw [e30]
          have b1 := Int.emod_nonneg rest (show (1000000000000000000000000000000 - 1 : Int) ≠ 0 by decide)
          have b2 := Int.emod_lt_of_pos rest (show (0 : Int) < 1000000000000000000000000000000 - 1 by decide)
          generalize rest % (1000000000000000000000000000000 - 1) = z at b1 b2 ⊢
          have em : (1 : Int) + z = (((1 + z).toNat : Nat) : Int) := by omega
          rw [em]
          exact q _ _ (by omega) (by omega) D2 kb2
      · refine ⟨(by show 7 ≤ sizeLine; decide), fun tu htu => ?_⟩
        have ngt : g ≠ tu := by obtain ⟨o, e'⟩ := D1.some; exact ne_of_none e' htu
        have htu0 : H tu = none := kb1.free htu ngt.symm
        have h2t : (upd H1 tu (.tup (([2, 2, 2, 3, 3, 5, 7] : List Int).map V.int))) tu = some (.tup (([2, 2, 2, 3, 3, 5, 7] : List Int).map V.int)) := upd_same
        have D2 : DeckAt (upd H1 tu (.tup (([2, 2, 2, 3, 3, 5, 7] : List Int).map V.int))) g := D1.upd ngt
        have kb2 : KeepBut g H (upd H1 tu (.tup (([2, 2, 2, 3, 3, 5, 7] : List Int).map V.int))) := kb1.upd_r htu0
        generalize (upd H1 tu (.tup (([2, 2, 2, 3, 3, 5, 7] : List Int).map V.int))) = H2 at h2t D2 kb2 ⊢
        refine ⟨tu, rfl, ⟨_, SqT.of h2t⟩, for_tupT (K := K) (a := tu) (xs := ([2, 2, 2, 3, 3, 5, 7] : List Int).map V.int) (fun i σ H3 => ∃ (fn : Nat) (v2 v3 v5 : Option V), σ = [some (.ref g), some (.int (x1 % 5)), v2, v3, some (.int (fn : Int)), v5] ∧ 1 ≤ fn ∧ fn ≤ 7 ^ i ∧ DeckAt H3 g ∧ KeepBut g H H3 ∧ H3 tu = some (.tup (([2, 2, 2, 3, 3, 5, 7] : List Int).map V.int)))
          ⟨1, none, none, none, rfl, by decide, by decide, D2, kb2, h2t⟩ (fun i σ H3 _ ⟨_, _, _, _, _, _, _, _, _, e⟩ => SqT.of e) ?_ ?_⟩
        · rintro i y σ H3 hi ⟨fn, v2, v3, v5, rfl, f1, f7, D3, kb3, h3t⟩
          obtain ⟨pz, hpz, rfl⟩ := getElem_int hi
          have pz7 : 1 ≤ pz ∧ pz ≤ 7 := by
            have : ∀ z ∈ ([2, 2, 2, 3, 3, 5, 7] : List Int), 1 ≤ z ∧ z ≤ 7 := by decide
            exact this pz (List.mem_of_getElem? hpz)
          refine ⟨_, rfl, _, rfl, (by show 2 ≤ sizeLine; decide), fun e he => ?_⟩
          have nge : g ≠ e := by obtain ⟨o, e'⟩ := D3.some; exact ne_of_none e' he
          have nte : tu ≠ e := ne_of_none h3t he
          refine ⟨_, rfl, g, rfl, D3.upd nge, fun x2 H4 x20 D4 kb4 => ⟨_, _, rfl, rfl, (by show (0 : Int) < 2; decide), ?_⟩⟩
          have h4e := kb4 e _ upd_same nge.symm
          have key : ∃ av : Nat, atI [V.int 1, V.int pz] (x2 % 2) = some (.int (av : Int)) ∧ 1 ≤ av ∧ av ≤ 7 := by
            have : x2 % 2 = 0 ∨ x2 % 2 = 1 := by omega
            rcases this with e | e
            · rw [e]; exact ⟨1, atI_nat (j := 0) rfl, by decide, by decide⟩
            · rw [e]
              refine ⟨pz.toNat, ?_, by omega, by omega⟩
              have : ((pz.toNat : Nat) : Int) = pz := by omega
              rw [this]
              exact atI_nat (j := 1) rfl
          obtain ⟨av, hat, av1, av7⟩ := key
          refine ⟨e, _, _, _, rfl, rfl, SqL.of h4e, hat, _, _, rfl, rfl, .inr ⟨by omega, by omega⟩, ?_⟩
          refine ⟨fn * av, v2, v3, some (.int pz), ?_, Nat.mul_pos f1 av1, ?_, D4, fun b o hb hn => kb4 b o ((kb3.upd_r (kb3.free he nge.symm)) b o hb hn) hn, kb4 tu _ (by rw [upd_ne nte]; exact h3t) ngt.symm⟩
          · rw [Int.natCast_mul]; rfl
          · rw [Nat.pow_succ]; exact Nat.mul_le_mul f7 av7
        · rintro σ H3 ⟨fn, v2, v3, v5, rfl, f1, f7, D3, kb3, h3t⟩
          have f7 : fn ≤ 823543 := f7
          refine ⟨_, rfl, rfl, _, rfl, ?_⟩
          refine ite2 (fun _ => ?_) (fun _ => ⟨_, rfl, q fn H3 f1 (by omega) D3 kb3⟩)
          refine ⟨4, rfl, by decide, by decide, for_range (lo := 0) (n := 4) (fun i σ H4 => ∃ (fm : Nat) (v3 : Option V), σ = [some (.ref g), some (.int (x1 % 5)), v2, v3, some (.int (fm : Int)), v5] ∧ 1 ≤ fm ∧ fm ≤ 823543 * 720720 ^ i ∧ DeckAt H4 g ∧ KeepBut g H H4)
            ⟨fn, v3, rfl, f1, by rw [Nat.pow_zero, Nat.mul_one]; exact f7, D3, kb3⟩ ?_ ?_⟩
          · rintro i σ H4 hi ⟨fm, v3, rfl, m1, mb, D4, kb4⟩
            refine ⟨_, rfl, _, rfl, g, rfl, D4, fun x2 H5 x20 D5 kb5 => ⟨_, _, rfl, rfl, (by show (0 : Int) < 720720; decide), _, _, rfl, rfl, _, _, rfl, rfl, .inr ⟨by omega, by omega⟩, ?_⟩⟩
            refine ⟨fm * (1 + x2 % 720720).toNat, some (.int ((0 : Int) + (i : Int))), ?_, Nat.mul_pos m1 (by omega), ?_, D5, kb4.trans kb5⟩
            · have e1 : (((1 + x2 % 720720).toNat : Nat) : Int) = 1 + x2 % 720720 := by omega
              rw [Int.natCast_mul, e1]; rfl
            · rw [Nat.pow_succ, ← Nat.mul_assoc]
              exact Nat.mul_le_mul mb (by omega)
          · rintro σ H4 ⟨fm, v3, rfl, m1, mb, D4, kb4⟩
            have e4 : 823543 * 720720 ^ 4 ≤ 1000000000000000000000000000000 := by decide
            exact ⟨_, rfl, q fm H4 m1 (Nat.le_trans mb e4) D4 kb4⟩
end
end My
namespace My
open PySem L2 Mth
section
variable {P : Program} {w : World} {K : PySem.W.Frag} {mg : Str → Option Value} {base : Heap}
theorem sc_law_rounds : FnScope ["p", "met", "found", "thing", "one"] ["p"] (defScope s_law_rounds) := ⟨rfl, rfl, rfl, by decide +kernel, rfl, by decide +kernel, by decide +kernel⟩
theorem ok_law_rounds {f : Addr} {fd : FuncData} (F : Fun K "_law_rounds" "_law_rounds" s_law_rounds f fd) (B : Bl mg) : FnOk P w K mg base CX0 1 f fd ["p"] spRings := by
  refine F.ok sc_law_rounds (fun vs H Q E h => ?_) (fun cdv A outer s H vs Q E hr h => ?_)
  · obtain ⟨a, p, rfl, ⟨ha, tp, lp⟩, q⟩ := h
    rfl
  · obtain ⟨a, p, rfl, ⟨ha, tp, lp⟩, q⟩ := h
    have hu := hu_of hr
    refine ⟨_, @pss_cons _ _ _ _ _ (@ps_set _ _ (1) _ _ _ _ sc_law_rounds.nd rfl (Or.inl rfl) (@pe_dnewK _ _) (by rfl) (by first | exact .inl rfl | exact .inr rfl | assumption)) (@pss_cons _ _ _ _ _ (@ps_set _ _ (2) _ _ _ _ sc_law_rounds.nd rfl (Or.inl rfl) (@pe_lst _ _ _ _ (@pa_nil _)) (by rfl) (by first | exact .inl rfl | exact .inr rfl | assumption)) (@pss_cons _ _ _ _ _ (@ps_for _ _ _ _ _ _ _ _ PassesOwn.never rfl (@pi_range1 _ _ _ _ _ _ (by rfl) B.range (@pa_cons _ _ _ _ _ (@pe_lenL _ _ _ _ _ B.len (@pa_cons _ _ _ _ _ (pv 0) (@pa_nil _) (by rfl)) (by rfl) (by rfl)) (@pa_nil _) (by rfl)) (by rfl)) (@pg_name _ _ (3) _ sc_law_rounds.nd rfl (Or.inl rfl) (by first | exact .inl rfl | exact .inr rfl | assumption)) (@pss_one _ _ _ (@ps_if _ _ _ _ _ _ _ _ (@pt_cmp _ _ _ _ _ _ (@pc_dnotin _ _ _ _ _ hu (pv 3) (pv 1)) (by first | exact nobehind _ (by decide) (by decide) | rfl)) (@pss_cons _ _ _ _ _ (@ps_set _ _ (4) _ _ _ _ sc_law_rounds.nd rfl (Or.inl rfl) (@pe_lst _ _ _ _ (@pa_nil _)) (by rfl) (by first | exact .inl rfl | exact .inr rfl | assumption)) (@pss_cons _ _ _ _ _ (@ps_while _ _ _ _ _ _ PassesOwn.never (@pt_cmp _ _ _ _ _ _ (@pc_dnotin _ _ _ _ _ hu (pv 3) (pv 1)) (by first | exact nobehind _ (by decide) (by decide) | rfl)) (@pss_cons _ _ _ _ _ (@ps_dput _ _ _ _ _ _ _ _ _ hu (pv 1) (pv 3) (@pe_bl _ _ _ _) rfl) (@pss_cons _ _ _ _ _ (@ps_expr _ _ _ _ (@pe_append _ _ _ _ _ _ _ (pv 4) (@pa_cons _ _ _ _ _ (pv 3) (@pa_nil _) (by rfl)) (by rfl) (by rfl) (by rfl) (by rfl) (by rfl)) (by rfl)) (@pss_one _ _ _ (@ps_set _ _ (3) _ _ _ _ sc_law_rounds.nd rfl (Or.inl rfl) (@pe_ix _ _ _ _ _ _ _ ix_list (pv 0) (pv 3) (fun _ _ => rfl)) (by rfl) (by first | exact .inl rfl | exact .inr rfl | assumption)))))) (@pss_one _ _ _ (@ps_expr _ _ _ _ (@pe_append _ _ _ _ _ _ _ (pv 2) (@pa_cons _ _ _ _ _ (pv 4) (@pa_nil _) (by rfl)) (by rfl) (by rfl) (by rfl) (by rfl) (by rfl)) (by rfl))))) (@pss_nil _))) (by intro _; rfl)) (@pss_one _ _ _ (@ps_ret _ _ _ _ (pv 2))))), ?_⟩
    intro d hd
    have nad : a ≠ d := ne_of_none ha hd
    have s1 : Same H (upd H d (.dK [])) := Same.upd_new hd
    have h1d : (upd H d (.dK [])) d = some (.dK []) := upd_same
    generalize (upd H d (.dK [])) = H1 at s1 h1d ⊢
    refine ⟨Nat.zero_le _, fun l hl => ?_⟩
    have ndl : d ≠ l := ne_of_none h1d hl
    have hl0 : H l = none := s1.free hl
    have s2 : Same H (upd H1 l (.lst [])) := s1.upd_r hl0
    have h2l : (upd H1 l (.lst [])) l = some (.lst []) := upd_same
    have h2d : (upd H1 l (.lst [])) d = some (.dK []) := by rw [upd_ne ndl]; exact h1d
    generalize (upd H1 l (.lst [])) = H2 at s2 h2l h2d ⊢
    refine ⟨_, rfl, a, _, rfl, .inl (SqL.of (s2 a _ ha)), (p.length : Int), ?_, by omega, by omega, ?_⟩
    · rw [List.length_map]
    rw [show ((p.length : Int)).toNat = p.length by omega]
    refine for_range (lo := 0) (n := p.length) (fun i σ H3 => ∃ (as : List Addr) (rs : List (List Int)) (v3 v4 : Option V), σ = [some (.ref a), some (.ref d), some (.ref l), v3, v4] ∧ H3 l = some (.lst (as.map V.ref)) ∧ H3 d = some (.dK (seenK rs.flatten)) ∧ RowsH H3 as rs ∧ RingsUp p i rs ∧ Same H H3 ∧ (∀ b ∈ as, H b = none) ∧ as.Nodup ∧ l ∉ as)
      ⟨[], [], none, none, rfl, h2l, h2d, ⟨rfl, fun j b r h => by simp at h⟩, rings_none p, s2, fun b hb => by simp at hb, List.nodup_nil, by simp⟩ ?_ ?_
    · rintro i σ H3 hi ⟨as, rs, v3, v4, rfl, h3l, h3d, rows, up, s3, fa, nda, nla⟩
      have hx : In p (i : Int) := ⟨by omega, by omega⟩
      have e0 : (0 : Int) + (i : Int) = (i : Int) := by omega
      rw [e0]
      refine ⟨_, rfl, _, rfl, d, _, rfl, DGet.k (k := Sum.inl (i : Int)) h3d, _, rfl, ?_⟩
      by_cases hm : (i : Int) ∈ rs.flatten
      · rw [seenK_in hm]
        refine iteF ?_
        exact ⟨as, rs, _, _, rfl, h3l, h3d, rows, rings_skip up hm, s3, fa, nda, nla⟩
      · rw [seenK_no hm]
        refine iteT ?_
        obtain ⟨L, pr⟩ := per_ex tp hx
        have fr := rings_fresh up pr hm
        have fl := up_len tp up
        have cl := up_count up
        have lenas := rows.1
        have lL := ring_bound tp hx (m := L) fun j j0 j1 => pr.least j j0 j1
        refine ⟨Nat.zero_le _, fun e he => ?_⟩
        have nle : l ≠ e := ne_of_none h3l he
        have nde : d ≠ e := ne_of_none h3d he
        have he0 : H e = none := s3.free he
        have h4e : (upd H3 e (.lst [])) e = some (.lst ((ringL p i 0).map V.int)) := upd_same
        have h4d : (upd H3 e (.lst [])) d = some (.dK (seenK (rs.flatten ++ ringL p i 0))) := by rw [upd_ne nde, h3d]; unfold ringL; rw [List.range_zero, List.map_nil, List.append_nil]
        have k4 : ∀ b o, H3 b = some o → b ≠ d → (upd H3 e (.lst [])) b = some o := fun b o hb _ => by rw [upd_ne (ne_of_none hb he)]; exact hb
        generalize (upd H3 e (.lst [])) = H4 at h4e h4d k4 ⊢
        refine while_by (fun σ H5 => ∃ j : Nat, j ≤ L ∧ σ = [some (.ref a), some (.ref d), some (.ref l), some (.int (it p j i)), some (.ref e)] ∧ H5 e = some (.lst ((ringL p i j).map V.int)) ∧ H5 d = some (.dK (seenK (rs.flatten ++ ringL p i j))) ∧ (∀ b o, H3 b = some o → b ≠ d → H5 b = some o)) (fun _ H5 => L - lenAt H5 e)
          ⟨0, Nat.zero_le _, rfl, h4e, h4d, k4⟩ ?_ ?_
        · rintro σ H5 ⟨j, jL, rfl, h5e, h5d, k5⟩
          refine ⟨_, rfl, _, rfl, d, _, rfl, DGet.k (k := Sum.inl (it p j i)) h5d, _, rfl, ?_⟩
          by_cases hj : j = L
          · subst hj
            rw [seenK_in (show it p j i ∈ rs.flatten ++ ringL p i j by rw [pr.back]; exact List.mem_append_right _ (mem_ringL.mpr ⟨0, pr.pos, rfl⟩))]
            refine iteF ?_
            have h5l := k5 l _ h3l ndl.symm
            refine ⟨_, rfl, .inl ⟨rfl, _, SqL.of h5l⟩, _, rfl, l, _, _, rfl, rfl, h5l, small1000 (by rw [List.length_map, lenas]; omega), ?_⟩
            have es : as.map V.ref ++ [V.ref e] = (as ++ [e]).map V.ref := by rw [List.map_append]; rfl
            rw [es]
            have nad : ∀ b ∈ as, b ≠ d ∧ b ≠ l := fun b hb => by
              obtain ⟨r, hr'⟩ := rows_mem rows hb
              exact ⟨ne_of hr' h3d (by intro z; cases z), fun z => nla (z ▸ hb)⟩
            refine ⟨as ++ [e], rs ++ [ringL p i j], _, _, rfl, upd_same, ?_, ?_, rings_step tp up hx pr hm, ?_, ?_, ?_, ?_⟩
            · rw [upd_ne ndl, h5d, List.flatten_append, List.flatten_singleton]
            · refine rows_snoc (rows_keep rows fun b hb o ho => ?_) ?_
              · rw [upd_ne (nad b hb).2]; exact k5 b o ho (nad b hb).1
              · rw [upd_ne nle.symm]; exact h5e
            · intro b o hb
              rw [upd_ne (ne_of_none hb hl0)]
              exact k5 b o (s3 b o hb) (ne_of_none hb hd)
            · intro b hb
              rcases List.mem_append.mp hb with g | g
              · exact fa b g
              · have : b = e := by simpa using g
                rw [this]; exact he0
            · refine nd_snoc nda fun g => ?_
              obtain ⟨r, hr'⟩ := rows_mem rows g
              rw [he] at hr'; cases hr'
            · intro g
              rcases List.mem_append.mp g with g | g
              · exact nla g
              · exact nle (by simpa using g)
          · have hjL : j < L := by omega
            have nm : it p j i ∉ rs.flatten ++ ringL p i j := fun g => by
              rcases List.mem_append.mp g with g | g
              · exact fr _ (mem_ringL.mpr ⟨j, hjL, rfl⟩) g
              · obtain ⟨b, hb, e1⟩ := mem_ringL.mp g
                have e2 : j = (j - b) + b := by omega
                rw [e2, it_add] at e1
                have := it_inj tp (it_in tp hx (j - b)) hx b (by rw [← it_add, Nat.add_comm, it_add]; exact e1)
                exact pr.least (j - b) (by omega) (by omega) this
            rw [seenK_no nm]
            refine iteT ?_
            refine ⟨_, rfl, _, rfl, d, _, rfl, DPut.k (k := Sum.inl (it p j i)) h5d (small1000 (by unfold seenK; rw [List.length_map, List.length_append, ringL_len]; omega)), ?_⟩
            rw [seenK_put nm]
            have h6d : (upd H5 d (.dK (seenK (rs.flatten ++ ringL p i j ++ [it p j i])))) d = some (.dK (seenK (rs.flatten ++ ringL p i (j + 1)))) := by rw [upd_same, ringL_succ, List.append_assoc]
            have h6e : (upd H5 d (.dK (seenK (rs.flatten ++ ringL p i j ++ [it p j i])))) e = some (.lst ((ringL p i j).map V.int)) := by rw [upd_ne nde.symm]; exact h5e
            have k6 : ∀ b o, H3 b = some o → b ≠ d → (upd H5 d (.dK (seenK (rs.flatten ++ ringL p i j ++ [it p j i])))) b = some o := fun b o hb hn => by rw [upd_ne hn]; exact k5 b o hb hn
            generalize (upd H5 d (.dK (seenK (rs.flatten ++ ringL p i j ++ [it p j i])))) = H6 at h6d h6e k6 ⊢
            refine ⟨_, rfl, .inl ⟨rfl, _, SqL.of h6e⟩, _, rfl, e, _, _, rfl, rfl, h6e, small1000 (by rw [List.length_map, ringL_len]; omega), ?_⟩
            have hin := it_in tp hx j
            have nae : a ≠ e := ne_of_none (s3 a _ ha) he
            refine ⟨_, rfl, _, rfl, a, _, _, _, rfl, rfl, SqL.of (by rw [upd_ne nae]; exact k6 a _ (s3 a _ ha) nad), atI_map hin.1 hin.2, ?_⟩
            have h7e : (upd H6 e (.lst ((ringL p i j).map V.int ++ [.int (it p j i)]))) e = some (.lst ((ringL p i (j + 1)).map V.int)) := by
              rw [upd_same, ringL_succ, List.map_append]; rfl
            refine ⟨⟨j + 1, by omega, rfl, h7e, by rw [upd_ne nde]; exact h6d, fun b o hb hn => ?_⟩, ?_⟩
            · rw [upd_ne (ne_of_none hb he)]; exact k6 b o hb hn
            · rw [lenAt_of h7e, lenAt_of h5e, List.length_map, List.length_map, ringL_len, ringL_len]
              omega
        · rintro σ H5 Q Q' hq ⟨v, hv, u, hu', dd, rr, e1, g, c, e2, e3⟩
          exact ⟨v, hv, u, hu', dd, rr, e1, g, c, e2, hq _ _ e3⟩
    · rintro σ H3 ⟨as, rs, v3, v4, rfl, h3l, h3d, rows, up, s3, fa, nda, nla⟩
      exact ⟨_, rfl, q l as rs H3 hl0 s3 h3l rows up fa nda nla⟩
end
end My
namespace My
open PySem L2 Mth
section
variable {P : Program} {w : World} {K : PySem.W.Frag} {mg : Str → Option Value} {base : Heap}
theorem sc_law_power : FnScope ["p", "m", "found", "one", "k"] ["p", "m"] (defScope s_law_power) := ⟨rfl, rfl, rfl, by decide +kernel, rfl, by decide +kernel, by decide +kernel⟩
theorem ok_law_power {f : Addr} {fd : FuncData} (F : Fun K "_law_power" "_law_power" s_law_power f fd) (B : Bl mg) (c_law_rounds : Cal P w K mg base "_law_rounds" 1 ["p"] spRings) : FnOk P w K mg base CX0 2 f fd ["p", "m"] spPower := by
  refine F.ok sc_law_power (fun vs H Q E h => ?_) (fun cdv A outer s H vs Q E hr h => ?_)
  · obtain ⟨a, p, k, rfl, ⟨ha, tp, lp⟩, q⟩ := h
    rfl
  · obtain ⟨a, p, k, rfl, ⟨ha, tp, lp⟩, q⟩ := h
    have hr_law_rounds : Room 1 _ := hr.mono (by decide)
    refine ⟨_, @pss_cons _ _ _ _ _ (@ps_set _ _ (2) _ _ _ _ sc_law_power.nd rfl (Or.inl rfl) (@pe_op _ _ _ _ _ _ _ _ op_rep (@pe_lst _ _ _ _ (@pa_cons _ _ _ _ _ (@pe_int _ _ _ _) (@pa_nil _) (by rfl))) (@pe_lenL _ _ _ _ _ B.len (@pa_cons _ _ _ _ _ (pv 0) (@pa_nil _) (by rfl)) (by rfl) (by rfl))) (by rfl) (by first | exact .inl rfl | exact .inr rfl | assumption)) (@pss_cons _ _ _ _ _ (@ps_for _ _ _ _ _ _ _ _ PassesOwn.never rfl (@pi_list _ _ _ _ (@pe_cal _ _ _ _ _ _ _ _ _ _ c_law_rounds hr_law_rounds (@pa_cons _ _ _ _ _ (pv 0) (@pa_nil _) (by rfl)) (by rfl) (by decide) (by rfl) (by rfl))) (@pg_name _ _ (3) _ sc_law_power.nd rfl (Or.inl rfl) (by first | exact .inl rfl | exact .inr rfl | assumption)) (@pss_one _ _ _ (@ps_for _ _ _ _ _ _ _ _ PassesOwn.never rfl (@pi_range1 _ _ _ _ _ _ (by rfl) B.range (@pa_cons _ _ _ _ _ (@pe_lenL _ _ _ _ _ B.len (@pa_cons _ _ _ _ _ (pv 3) (@pa_nil _) (by rfl)) (by rfl) (by rfl)) (@pa_nil _) (by rfl)) (by rfl)) (@pg_name _ _ (4) _ sc_law_power.nd rfl (Or.inl rfl) (by first | exact .inl rfl | exact .inr rfl | assumption)) (@pss_one _ _ _ (@ps_asg _ _ _ _ _ _ (@pe_ix _ _ _ _ _ _ _ ix_list (pv 3) (@pe_op _ _ _ _ _ _ _ _ op_mod (@pe_op _ _ _ _ _ _ _ _ op_add (pv 4) (pv 1)) (@pe_lenL _ _ _ _ _ B.len (@pa_cons _ _ _ _ _ (pv 3) (@pa_nil _) (by rfl)) (by rfl) (by rfl))) (fun _ _ => rfl)) (@pg_sub _ _ _ _ _ _ _ (pv 2) (@pe_ix _ _ _ _ _ _ _ ix_list (pv 3) (pv 4) (fun _ _ => rfl)) set_list (by intro _; rfl)) (by rfl) (by rfl) (by rfl))) (by intro _; rfl))) (by intro _; rfl)) (@pss_one _ _ _ (@ps_ret _ _ _ _ (pv 2)))), ?_⟩
    refine ⟨(by show 1 ≤ sizeLine; decide), fun z0 hz0 => ?_⟩
    have s1 : Same H (upd H z0 (.lst [.int 0])) := Same.upd_new hz0
    have h1z : (upd H z0 (.lst [.int 0])) z0 = some (.lst [.int 0]) := upd_same
    generalize (upd H z0 (.lst [.int 0])) = H1 at s1 h1z ⊢
    refine ⟨_, rfl, a, _, rfl, .inl (SqL.of (s1 a _ ha)), z0, _, _, rfl, rfl, h1z, by rw [List.length_map]; omega, by rw [List.length_map]; omega, by rw [List.length_map]; show 1 * _ ≤ _; rw [sizeLine_eq]; omega, fun l hl => ?_⟩
    have hl0 : H l = none := s1.free hl
    have erep : (List.replicate ((((p.map V.int).length : Nat) : Int)).toNat [V.int 0]).flatten = (List.replicate p.length (0 : Int)).map V.int := by
      rw [List.length_map, show ((p.length : Int)).toNat = p.length by omega]; exact rep_zero _
    rw [erep]
    have s2 : Same H (upd H1 l (.lst ((List.replicate p.length (0 : Int)).map V.int))) := s1.upd_r hl0
    have h2l : (upd H1 l (.lst ((List.replicate p.length (0 : Int)).map V.int))) l = some (.lst ((List.replicate p.length (0 : Int)).map V.int)) := upd_same
    generalize (upd H1 l (.lst ((List.replicate p.length (0 : Int)).map V.int))) = H2 at s2 h2l ⊢
    refine ⟨_, rfl, a, p, rfl, ⟨s2 a _ ha, tp, lp⟩, fun g as rs H3 hg s23 h3g rows up fa nda nga => ?_⟩
    have h3l := s23 l _ h2l
    have ngl : g ≠ l := fun z => by rw [z, h2l] at hg; cases hg
    refine ⟨g, rfl, ⟨_, SqL.of h3g⟩, for_list (K := K) (a := g) (xs := as.map V.ref) (fun i σ H4 => ∃ (ts : List Int) (v3 v4 : Option V), σ = [some (.ref a), some (.int k), some (.ref l), v3, v4] ∧ H4 l = some (.lst (ts.map V.int)) ∧ ts.length = p.length ∧ (∀ x ∈ (rs.take i).flatten, ∃ L, Per p x L ∧ at0 ts x = some (it p (k % (L : Int)).toNat x)) ∧ KeepBut l H3 H4)
      ⟨_, none, none, rfl, h3l, List.length_replicate, fun x hx => by simp at hx, KeepBut.refl l H3⟩ (fun i σ H4 _ ⟨_, _, _, _, _, _, _, kb⟩ => SqL.of (kb g _ h3g ngl)) ?_ ?_⟩
    · rintro i y σ H4 hi ⟨ts, v3, v4, rfl, h4l, hl4, hx4, kb⟩
      rw [List.getElem?_map] at hi
      cases hai : as[i]? with
      | none => rw [hai] at hi; cases hi
      | some e =>
        rw [hai] at hi
        cases hi
        have hil : i < as.length := (List.getElem?_eq_some_iff.mp hai).1
        have hri : rs[i]? = some (rs[i]'(by rw [← rows.1]; exact hil)) := List.getElem?_eq_getElem _
        generalize hR : rs[i]'(by rw [← rows.1]; exact hil) = R at hri
        have h3e := rows.2 i e R hai hri
        have hRm : R ∈ rs := List.mem_of_getElem? hri
        obtain ⟨x, L, hx, pr, eR, _⟩ := up.ring R hRm
        have nle : l ≠ e := fun z => by have := fa e (List.mem_of_getElem? hai); rw [← z, h2l] at this; cases this
        have h4e := kb e _ h3e nle.symm
        have lR : R.length = L := by rw [eR, ringL_len]
        have Lp := pr.pos
        have lL := ring_bound tp hx (m := L) fun j j0 j1 => pr.least j j0 j1
        have ndR : R.Nodup := by rw [eR]; exact ringL_nodup tp hx fun j j0 j1 => pr.least j j0 j1
        have bdR : ∀ y ∈ R, 0 ≤ y ∧ y < p.length := fun y hy => by rw [eR] at hy; exact ringL_in tp hx y hy
        refine ⟨_, rfl, e, _, rfl, .inl (SqL.of h4e), (L : Int), by rw [List.length_map, lR], by omega, by omega, ?_⟩
        rw [show ((L : Int)).toNat = L by omega]
        refine for_range (lo := 0) (n := L) (fun j σ H5 => ∃ (ts' : List Int) (v4 : Option V), σ = [some (.ref a), some (.int k), some (.ref l), some (.ref e), v4] ∧ H5 l = some (.lst (ts'.map V.int)) ∧ ts'.length = p.length ∧ (∀ c, c < j → at0 ts' (R.getD c 0) = some (R.getD (((c : Int) + k) % (R.length : Int)).toNat 0)) ∧ (∀ u, 0 ≤ u → u ∉ R → at0 ts' u = at0 ts u) ∧ KeepBut l H4 H5)
          ⟨ts, v4, rfl, h4l, hl4, fun j hj => by omega, fun u _ _ => rfl, KeepBut.refl l H4⟩ ?_ ?_
        · rintro j σ H5 hj ⟨ts', v4, rfl, h5l, hl5, hc, hu', kb5⟩
          have h5e := kb5 e _ h4e nle.symm
          have e0 : (0 : Int) + (j : Int) = (j : Int) := by omega
          rw [e0]
          have m0 := Int.emod_nonneg ((j : Int) + k) (show (R.length : Int) ≠ 0 by omega)
          have m1 := Int.emod_lt_of_pos ((j : Int) + k) (show (0 : Int) < (R.length : Int) by omega)
          refine ⟨_, rfl, _, rfl, _, rfl, _, _, rfl, rfl, _, rfl, e, _, rfl, .inl (SqL.of h5e), ?_⟩
          rw [List.length_map]
          refine ⟨_, _, rfl, rfl, (by show (0 : Int) < (R.length : Int); omega), e, _, _, _, rfl, rfl, SqL.of h5e, atI_map m0 m1, ?_⟩
          have hzi : R.getD j 0 ∈ R := by rw [getD_eq (show j < R.length by omega)]; exact List.getElem_mem _
          obtain ⟨z0, z1⟩ := bdR _ hzi
          refine ⟨_, rfl, _, rfl, _, rfl, e, _, _, _, rfl, rfl, SqL.of h5e, atI_map (by omega) (by omega), l, _, _, (R.getD j 0).toNat, rfl, rfl, h5l, ?_, ?_⟩
          · unfold ixN
            rw [List.length_map, show ((j : Int)).toNat = j by omega, if_pos z0, if_pos (by omega)]
          have es : (ts'.map V.int).set (R.getD j 0).toNat (.int (R.getD (((j : Int) + k) % (R.length : Int)).toNat 0)) = (ts'.set (R.getD j 0).toNat (R.getD (((j : Int) + k) % (R.length : Int)).toNat 0)).map V.int := by rw [List.map_set]
          rw [es]
          refine ⟨_, _, rfl, upd_same, by rw [List.length_set]; exact hl5, fun c hcj => ?_, fun u u0 un => ?_, fun b o hb hn => ?_⟩
          · by_cases e : c = j
            · subst e
              rw [at0_same (by omega)]
            · have : R.getD c 0 ≠ R.getD j 0 := nodup_getD ndR (by omega) (by omega) e
              rw [at0_ne (bdR _ (by rw [getD_eq (show c < R.length by omega)]; exact List.getElem_mem _)).1 z0 this]
              exact hc c (by omega)
          · rw [at0_ne u0 z0 (fun e => un (e ▸ hzi))]
            exact hu' u u0 un
          · rw [upd_ne hn]
            exact kb5 b o hb hn
        · rintro σ H5 ⟨ts', v4, rfl, h5l, hl5, hj, hu', kb5⟩
          refine ⟨ts', _, _, rfl, h5l, hl5, fun y hy => ?_, kb.trans kb5⟩
          rw [take_succ_of hri, List.flatten_append, List.flatten_singleton] at hy
          by_cases hyR : y ∈ R
          · rw [eR] at hyR
            obtain ⟨j, hjL, rfl⟩ := mem_ringL.mp hyR
            refine ⟨L, pr.shift tp hx j, ?_⟩
            have := hj j hjL
            rw [lR] at this
            have b0 := Int.emod_nonneg ((j : Int) + k) (show (L : Int) ≠ 0 by omega)
            have b1 := Int.emod_lt_of_pos ((j : Int) + k) (show (0 : Int) < (L : Int) by omega)
            rw [eR, ringL_getD hjL, ringL_getD (by omega), step_along pr] at this
            exact this
          · rcases List.mem_append.mp hy with g' | g'
            · obtain ⟨M, pm, em⟩ := hx4 y g'
              refine ⟨M, pm, ?_⟩
              have y0 : 0 ≤ y := by
                obtain ⟨r, hr', hyr⟩ := List.mem_flatten.mp g'
                obtain ⟨x', L', hx', _, er, _⟩ := up.ring r (List.mem_of_mem_take hr')
                rw [er] at hyr
                exact (ringL_in tp hx' y hyr).1
              rw [hu' y y0 hyR]
              exact em
            · exact absurd g' hyR
    · rintro σ H4 ⟨ts, v3, v4, rfl, h4l, hl4, hx4, kb⟩
      rw [List.length_map, rows.1, List.take_length] at hx4
      refine ⟨_, rfl, q l ts H4 hl0 (fun b o hb => kb b o (s23 b o (s2 b o hb)) (ne_of_none hb hl0)) ⟨hl4, fun x hx => hx4 x (up.all x hx.1 hx.2)⟩ h4l⟩
end
end My
namespace My
open PySem L2 Mth
section
variable {P : Program} {w : World} {K : PySem.W.Frag} {mg : Str → Option Value} {base : Heap}
structure CntAt (H : Hp) (d : Addr) (rs : List (List Int)) (kvs : List (Key × V)) (ns : List Int) : Prop where
  at_ : H d = some (.dK kvs)
  keys : KI kvs ns
  nd : ns.Nodup
  val : ∀ l : Nat, (l : Int) ∈ ns → valV kvs (Sum.inl (l : Int) : Key) = some (.int ((cntL rs l : Nat) : Int))
  all : ∀ z : Int, z ∈ ns ↔ ∃ r ∈ rs, z = (r.length : Int)
theorem rs_bound {p : List Int} (tp : IsT p) {i : Nat} {rs : List (List Int)} (up : RingsUp p i rs) : ∀ r ∈ rs, 1 ≤ r.length ∧ r.length ≤ p.length := fun r hr => by
  obtain ⟨y, L, hy, pr, er, _⟩ := up.ring r hr
  have b := ring_bound tp hy (m := L) fun i i0 i1 => pr.least i i0 i1
  have := pr.pos
  rw [er, ringL_len]
  omega
def spCounts : Sp := fun vs H Q _ => ∃ (a : Addr) (p : List Int), vs = [.ref a] ∧ TurnAt H a p ∧ ∀ (d : Addr) (kvs : List (Key × V)) (ns : List Int) (H' : Hp), H d = none → Same H H' → CntAt H' d (ringsF p p.length) kvs ns → (∀ z ∈ ns, 1 ≤ z ∧ z ≤ 40) → ns.length ≤ 40 → Q (.ref d) H'
theorem sc_law_counts : FnScope ["p", "found", "one"] ["p"] (defScope s_law_counts) := ⟨rfl, rfl, rfl, by decide +kernel, rfl, by decide +kernel, by decide +kernel⟩
theorem ok_law_counts {f : Addr} {fd : FuncData} (F : Fun K "_law_counts" "_law_counts" s_law_counts f fd) (B : Bl mg) (c_law_rounds : Cal P w K mg base "_law_rounds" 1 ["p"] spRings) : FnOk P w K mg base CX0 2 f fd ["p"] spCounts := by
  refine F.ok sc_law_counts (fun vs H Q E h => ?_) (fun cdv A outer s H vs Q E hr h => ?_)
  · obtain ⟨a, p, rfl, ⟨ha, tp, lp⟩, q⟩ := h
    rfl
  · obtain ⟨a, p, rfl, ⟨ha, tp, lp⟩, q⟩ := h
    have hr_law_rounds : Room 1 _ := hr.mono (by decide)
    have hu := hu_of hr
    refine ⟨_, @pss_cons _ _ _ _ _ (@ps_set _ _ (1) _ _ _ _ sc_law_counts.nd rfl (Or.inl rfl) (@pe_dnewK _ _) (by rfl) (by first | exact .inl rfl | exact .inr rfl | assumption)) (@pss_cons _ _ _ _ _ (@ps_for _ _ _ _ _ _ _ _ PassesOwn.never rfl (@pi_list _ _ _ _ (@pe_cal _ _ _ _ _ _ _ _ _ _ c_law_rounds hr_law_rounds (@pa_cons _ _ _ _ _ (pv 0) (@pa_nil _) (by rfl)) (by rfl) (by decide) (by rfl) (by rfl))) (@pg_name _ _ (2) _ sc_law_counts.nd rfl (Or.inl rfl) (by first | exact .inl rfl | exact .inr rfl | assumption)) (@pss_one _ _ _ (@ps_dput _ _ _ _ _ _ _ _ _ hu (pv 1) (@pe_lenL _ _ _ _ _ B.len (@pa_cons _ _ _ _ _ (pv 2) (@pa_nil _) (by rfl)) (by rfl) (by rfl)) (@pe_op _ _ _ _ _ _ _ _ op_add (@pe_dget2 _ _ _ _ _ _ _ _ _ hu (pv 1) (@pe_lenL _ _ _ _ _ B.len (@pa_cons _ _ _ _ _ (pv 2) (@pa_nil _) (by rfl)) (by rfl) (by rfl)) (@pe_int _ _ _ _) ⟨by rfl, by rfl, by rfl, by rfl⟩) (@pe_int _ _ _ _)) rfl)) (by intro _; rfl)) (@pss_one _ _ _ (@ps_ret _ _ _ _ (pv 1)))), ?_⟩
    intro d hd
    have s1 : Same H (upd H d (.dK [])) := Same.upd_new hd
    have h1d : (upd H d (.dK [])) d = some (.dK []) := upd_same
    generalize (upd H d (.dK [])) = H1 at s1 h1d ⊢
    refine ⟨_, rfl, a, p, rfl, ⟨s1 a _ ha, tp, lp⟩, fun g as rs H3 hg s13 h3g rows up fa nda nga => ?_⟩
    have h3d := s13 d _ h1d
    have ngd : g ≠ d := fun z => by rw [z, h1d] at hg; cases hg
    have lrs := rows.1
    have cl := up_count up
    have fl := up_len tp up
    refine ⟨g, rfl, ⟨_, SqL.of h3g⟩, for_list (K := K) (a := g) (xs := as.map V.ref) (fun i σ H4 => ∃ (kvs : List (Key × V)) (ns : List Int) (v2 : Option V), σ = [some (.ref a), some (.ref d), v2] ∧ CntAt H4 d (rs.take i) kvs ns ∧ ns.length ≤ i ∧ kvs.length ≤ i ∧ KeepBut d H3 H4)
      ⟨[], [], none, rfl, ⟨h3d, rfl, List.nodup_nil, fun l hl => by simp at hl, fun z => ⟨fun h => by simp at h, fun ⟨r, h, _⟩ => by simp at h⟩⟩, Nat.le_refl _, Nat.le_refl _, KeepBut.refl d H3⟩ (fun i σ H4 _ ⟨_, _, _, _, _, _, _, kb⟩ => SqL.of (kb g _ h3g ngd)) ?_ ?_⟩
    · rintro i y σ H4 hi ⟨kvs, ns, v2, rfl, ca, lns, lkv, kb⟩
      rw [List.getElem?_map] at hi
      cases hai : as[i]? with
      | none => rw [hai] at hi; cases hi
      | some e =>
        rw [hai] at hi
        cases hi
        have hil : i < as.length := (List.getElem?_eq_some_iff.mp hai).1
        have hri : rs[i]? = some (rs[i]'(by rw [← rows.1]; exact hil)) := List.getElem?_eq_getElem _
        generalize hR : rs[i]'(by rw [← rows.1]; exact hil) = R at hri
        have h3e := rows.2 i e R hai hri
        have nde : e ≠ d := fun z => by have := fa e (List.mem_of_getElem? hai); rw [z, h1d] at this; cases this
        have h4e := kb e _ h3e nde
        refine ⟨_, rfl, d, rfl, .inl ⟨_, .inl ca.at_⟩, _, rfl, e, _, rfl, .inl (SqL.of h4e), ?_⟩
        rw [List.length_map]
        refine ⟨_, DGet.k (k := Sum.inl ((R.length : Nat) : Int)) ca.at_, ?_⟩
        have key : ((valV kvs (Sum.inl ((R.length : Nat) : Int) : Key)).getD (.int 0)) = .int ((cntL (rs.take i) R.length : Nat) : Int) := by
          by_cases hm : ((R.length : Nat) : Int) ∈ ns
          · rw [ca.val R.length hm]; rfl
          · rw [ki_none ca.keys hm]
            have : cntL (rs.take i) R.length = 0 := by
              by_cases z : cntL (rs.take i) R.length = 0
              · exact z
              · obtain ⟨r, hr', e'⟩ := cnt_pos z
                exact absurd ((ca.all _).mpr ⟨r, hr', by rw [e']⟩) hm
            rw [this]; rfl
        rw [key]
        refine ⟨_, _, rfl, rfl, ?_⟩
        refine ⟨_, rfl, _, rfl, e, _, rfl, .inl (SqL.of h4e), ?_⟩
        rw [List.length_map]
        refine ⟨d, _, rfl, DPut.k (k := Sum.inl ((R.length : Nat) : Int)) ca.at_ (small1000 (by omega)), ?_⟩
        have ec : (((cntL (rs.take i) R.length : Nat) : Int) + 1) = ((cntL (rs.take (i + 1)) R.length : Nat) : Int) := by
          rw [take_succ_of hri, cntL_snoc, if_pos rfl]; omega
        dsimp only
        rw [ec]
        have hval : ∀ l : Nat, l ≠ R.length → cntL (rs.take (i + 1)) l = cntL (rs.take i) l := fun l hl => by
          rw [take_succ_of hri, cntL_snoc, if_neg (fun z => hl z.symm)]; omega
        have hall : ∀ z : Int, (∃ r ∈ rs.take (i + 1), z = (r.length : Int)) ↔ (∃ r ∈ rs.take i, z = (r.length : Int)) ∨ z = (R.length : Int) := fun z => by
          rw [take_succ_of hri]
          constructor
          · rintro ⟨r, hr', e'⟩
            rcases List.mem_append.mp hr' with y | y
            · exact .inl ⟨r, y, e'⟩
            · have : r = R := by simpa using y
              rw [this] at e'; exact .inr e'
          · rintro (⟨r, hr', e'⟩ | e')
            · exact ⟨r, List.mem_append_left _ hr', e'⟩
            · exact ⟨R, List.mem_append_right _ (by simp), e'⟩
        have lput := length_putK kvs (Sum.inl ((R.length : Nat) : Int) : Key) (V.int ((cntL (rs.take (i + 1)) R.length : Nat) : Int))
        by_cases hm : ((R.length : Nat) : Int) ∈ ns
        · refine ⟨_, ns, _, rfl, ⟨upd_same, ki_old ca.keys hm _, ca.nd, fun l hl => ?_, fun z => ?_⟩, by omega, by omega, kb.upd_a⟩
          · rw [valV_put]
            by_cases e' : l = R.length
            · subst e'; rw [if_pos rfl]
            · rw [if_neg (fun z => e' (by have := Sum.inl.inj z; omega)), ca.val l hl, hval l e']
          · rw [hall, ca.all]
            constructor
            · exact fun h => .inl h
            · rintro (h | h)
              · exact h
              · rw [h]; exact (ca.all _).mp hm
        · refine ⟨_, ns ++ [((R.length : Nat) : Int)], _, rfl, ⟨upd_same, ki_new ca.keys hm _, nd_snoc ca.nd hm, fun l hl => ?_, fun z => ?_⟩, by rw [List.length_append]; show ns.length + 1 ≤ i + 1; omega, by omega, kb.upd_a⟩
          · rw [valV_put]
            by_cases e' : l = R.length
            · subst e'; rw [if_pos rfl]
            · rw [if_neg (fun z => e' (by have := Sum.inl.inj z; omega))]
              rcases List.mem_append.mp hl with y | y
              · rw [ca.val l y, hval l e']
              · have : (l : Int) = ((R.length : Nat) : Int) := by simpa using y
                exact absurd (by omega) e'
          · rw [hall, List.mem_append, ca.all]
            constructor
            · rintro (h | h)
              · exact .inl h
              · exact .inr (by simpa using h)
            · rintro (h | h)
              · exact .inl h
              · exact .inr (by rw [h]; simp)
    · rintro σ H4 ⟨kvs, ns, v2, rfl, ca, lns, lkv, kb⟩
      rw [List.length_map] at lns ca
      rw [lrs, List.take_length, up.eq] at ca
      refine ⟨_, rfl, q d kvs ns H4 hd (fun b o hb => kb b o (s13 b o (s1 b o hb)) (ne_of_none hb hd)) ca (fun z hz => ?_) (by omega)⟩
      obtain ⟨r, hr', rfl⟩ := (ca.all z).mp hz
      have := rs_bound tp (rings_up tp) r hr'
      omega
end
end My
namespace My
open PySem L2 Mth
section
variable {P : Program} {w : World} {K : PySem.W.Frag} {mg : Str → Option Value} {base : Heap}
def toI (xs : List Nat) : List Int := xs.map fun (d : Nat) => (d : Int)
def rightsN (l m j : Nat) : List Nat := ((List.range j).map (· + 1)).filter fun d => decide (Nat.gcd (d * l) m = d)
theorem rightsN_succ (l m j : Nat) : rightsN l m (j + 1) = if Nat.gcd ((j + 1) * l) m = j + 1 then rightsN l m j ++ [j + 1] else rightsN l m j := by
  unfold rightsN
  rw [List.range_succ, List.map_append, List.filter_append]
  show _ ++ List.filter _ [j + 1] = _
  split
  · rename_i h
    rw [List.filter_cons_of_pos (p := fun d => decide (Nat.gcd (d * l) m = d)) (decide_eq_true h)]; rfl
  · rename_i h
    rw [List.filter_cons_of_neg (p := fun d => decide (Nat.gcd (d * l) m = d)) (by simpa using h), List.filter_nil, List.append_nil]
theorem rightsN_len (l m j : Nat) : (rightsN l m j).length ≤ j := by
  unfold rightsN
  refine Nat.le_trans (List.length_filter_le _ _) ?_
  rw [List.length_map, List.length_range]; exact Nat.le_refl _
theorem rightsN_pos {l m j d : Nat} (h : d ∈ rightsN l m j) : 1 ≤ d ∧ d ≤ j := by
  unfold rightsN at h
  obtain ⟨i, hi, e⟩ := List.mem_map.mp (List.mem_filter.mp h).1
  have := List.mem_range.mp hi
  omega
def spRights : Sp := fun vs H Q _ => ∃ (l m j : Nat), vs = [.int (l : Int), .int (m : Int), .int (j : Int)] ∧ l ≤ 1000 ∧ j ≤ 1000 ∧ ∀ (a : Addr) (H' : Hp), H a = none → Same H H' → H' a = some (.lst ((toI (rightsN l m j)).map V.int)) → Q (.ref a) H'
theorem sc_right_numbers : FnScope ["length", "m", "most"] ["length", "m", "most"] (defScope s_right_numbers) := ⟨rfl, rfl, rfl, by decide +kernel, rfl, by decide +kernel, by decide +kernel⟩
theorem nd_d_m_length_right_numbers : (["d", "m", "length"] : List Str).Nodup := by decide +kernel
theorem ok_right_numbers {f : Addr} {fd : FuncData} (F : Fun K "right_numbers" "right_numbers" s_right_numbers f fd) (B : Bl mg) (c_greatest_part : Cal P w K mg base "greatest_part" 1 ["a", "b"] spGcd) : FnOk P w K mg base CX0 2 f fd ["length", "m", "most"] spRights := by
  refine F.ok sc_right_numbers (fun vs H Q E h => ?_) (fun cdv A outer s H vs Q E hr h => ?_)
  · obtain ⟨l, m, j, rfl, hl, hj, q⟩ := h
    rfl
  · obtain ⟨l, m, j, rfl, hl, hj, q⟩ := h
    have hr_greatest_part : Room 1 _ := hr.mono (by decide)
    refine ⟨_, @pss_one _ _ _ (@ps_ret _ _ _ _ (@pe_comp _ _ _ _ _ _ _ _ _ _ _ (["d", "m", "length"]) (1) ([1, 0]) rfl .of (@pi_range2 _ _ _ _ _ _ _ (by rfl) B.range (@pa_cons _ _ _ _ _ (@pe_int _ _ _ _) (@pa_cons _ _ _ _ _ (@pe_op _ _ _ _ _ _ _ _ op_add (pv 2) (@pe_int _ _ _ _)) (@pa_nil _) (by rfl)) (by rfl)) (by rfl) (by rfl)) (fun _ _ _ _ _ => @pg_name _ _ (0) _ nd_d_m_length_right_numbers rfl (Or.inl rfl) (by first | exact .inl rfl | exact .inr rfl | assumption)) (fun _ _ _ _ _ => @pifs_one _ _ _ (@pt_cmpR _ _ _ _ _ _ _ _ op_eq (@pe_cal _ _ _ _ _ _ _ _ _ _ c_greatest_part hr_greatest_part (@pa_cons _ _ _ _ _ (@pe_op _ _ _ _ _ _ _ _ op_mul (pv 0) (pv 2)) (@pa_cons _ _ _ _ _ (pv 1) (@pa_nil _) (by rfl)) (by rfl)) (by rfl) (by decide) (by rfl) (by rfl)) (pv 0) (nomark _))) (fun _ _ _ _ _ => (pv 0)) (by intro _; rfl))), ?_⟩
    refine ⟨_, rfl, _, _, rfl, rfl, 1, (j : Int) + 1, rfl, ⟨by decide, by decide, by omega, by omega⟩, ?_⟩
    have en : ((j : Int) + 1 - 1).toNat = j := by omega
    rw [en]
    refine comp_range (lo := 1) (n := j) (fun i ys σ H2 => ∃ v : Option V, σ = [v, some (.int (m : Int)), some (.int (l : Int))] ∧ H2 = H ∧ ys = (toI (rightsN l m i)).map V.int) ⟨none, rfl, rfl, by simp [rightsN, toI]⟩ ?_ ?_
    · rintro i ys σ H2 hi ⟨v, rfl, rfl, rfl⟩
      have li := rightsN_len l m i
      have es := rightsN_succ l m i
      have e1 : (1 : Int) + (i : Int) = ((i + 1 : Nat) : Int) := by omega
      refine ⟨_, rfl, _, rfl, _, _, rfl, rfl, .inr ⟨by omega, by omega⟩, _, rfl, (i + 1) * l, m, ?_, ?_⟩
      · show [V.int ((1 + (i : Int)) * (l : Int)), V.int (m : Int)] ++ [] = _
        rw [e1, ← Int.natCast_mul]
        rfl
      refine ⟨_, rfl, rfl, _, rfl, ite2 (fun h1 => ?_) (fun h1 => ?_)⟩
      · have d1 : Nat.gcd ((i + 1) * l) m = i + 1 := by
          have := V.int.inj (of_decide_eq_true h1)
          omega
        refine ⟨_, rfl, small1000 (by unfold toI; rw [List.length_map, List.length_map]; omega), _, rfl, rfl, ?_⟩
        rw [es, if_pos d1]
        unfold toI
        rw [List.map_append, List.map_append, e1]
        rfl
      · have d1 : ¬ Nat.gcd ((i + 1) * l) m = i + 1 := fun e => h1 (decide_eq_true (congrArg V.int (by rw [e]; omega)))
        refine ⟨_, rfl, rfl, ?_⟩
        rw [es, if_neg d1]
    · rintro ys σ H2 ⟨v, rfl, rfl, rfl⟩ D hD
      exact q D _ hD (Same.upd_new hD) upd_same
def followN (n l : Nat) : Nat → Nat
  | 0 => 1
  | k + 1 => followN n l k * (n - (k + 1)) * l
def spFollow : Sp := fun vs H Q _ => ∃ (n d l : Nat), vs = [.int (n : Int), .int (d : Int), .int (l : Int)] ∧ 1 ≤ d ∧ d ≤ n ∧ n ≤ 1000 ∧ l ≤ 1000 ∧ Q (.int ((followN n l (d - 1) : Nat) : Int)) H
theorem sc_ways_to_follow : FnScope ["left", "part", "length", "ways", "taken"] ["left", "part", "length"] (defScope s_ways_to_follow) := ⟨rfl, rfl, rfl, by decide +kernel, rfl, by decide +kernel, by decide +kernel⟩
theorem ok_ways_to_follow {f : Addr} {fd : FuncData} (F : Fun K "ways_to_follow" "ways_to_follow" s_ways_to_follow f fd) (B : Bl mg) : FnOk P w K mg base CX0 1 f fd ["left", "part", "length"] spFollow := by
  refine F.ok sc_ways_to_follow (fun vs H Q E h => ?_) (fun cdv A outer s H vs Q E hr h => ?_)
  · obtain ⟨n, d, l, rfl, d1, dn, hn, hl, q⟩ := h
    rfl
  · obtain ⟨n, d, l, rfl, d1, dn, hn, hl, q⟩ := h
    refine ⟨_, @pss_cons _ _ _ _ _ (@ps_set _ _ (3) _ _ _ _ sc_ways_to_follow.nd rfl (Or.inl rfl) (@pe_int _ _ _ _) (by rfl) (by first | exact .inl rfl | exact .inr rfl | assumption)) (@pss_cons _ _ _ _ _ (@ps_for _ _ _ _ _ _ _ _ PassesOwn.never rfl (@pi_range2 _ _ _ _ _ _ _ (by rfl) B.range (@pa_cons _ _ _ _ _ (@pe_int _ _ _ _) (@pa_cons _ _ _ _ _ (pv 1) (@pa_nil _) (by rfl)) (by rfl)) (by rfl) (by rfl)) (@pg_name _ _ (4) _ sc_ways_to_follow.nd rfl (Or.inl rfl) (by first | exact .inl rfl | exact .inr rfl | assumption)) (@pss_one _ _ _ (@ps_set _ _ (3) _ _ _ _ sc_ways_to_follow.nd rfl (Or.inl rfl) (@pe_op _ _ _ _ _ _ _ _ op_mul (@pe_op _ _ _ _ _ _ _ _ op_mul (pv 3) (@pe_op _ _ _ _ _ _ _ _ op_sub (pv 0) (pv 4))) (pv 2)) (by rfl) (by first | exact .inl rfl | exact .inr rfl | assumption))) (by intro _; rfl)) (@pss_one _ _ _ (@ps_ret _ _ _ _ (pv 3)))), ?_⟩
    refine ⟨_, rfl, 1, (d : Int), rfl, ⟨by decide, by decide, by omega, by omega⟩, ?_⟩
    have en : ((d : Int) - 1).toNat = d - 1 := by omega
    rw [en]
    refine for_range (lo := 1) (n := d - 1) (fun i σ H2 => ∃ v : Option V, σ = [some (.int (n : Int)), some (.int (d : Int)), some (.int (l : Int)), some (.int ((followN n l i : Nat) : Int)), v] ∧ H2 = H) ⟨none, rfl, rfl⟩ ?_ ?_
    · rintro i σ H2 hi ⟨v, rfl, rfl⟩
      have e64 : (2 : Int) ^ 64 = 18446744073709551616 := by decide
      refine ⟨_, rfl, _, rfl, _, rfl, _, _, rfl, rfl, _, _, rfl, rfl, .inr ⟨by rw [e64]; omega, by rw [e64]; omega⟩, _, rfl, _, _, rfl, rfl, .inr ⟨by rw [e64]; omega, by rw [e64]; omega⟩, some (.int (1 + (i : Int))), ?_, rfl⟩
      have e : ((followN n l i : Nat) : Int) * ((n : Int) - (1 + (i : Int))) * (l : Int) = ((followN n l (i + 1) : Nat) : Int) := by
        show _ = ((followN n l i * (n - (i + 1)) * l : Nat) : Int)
        rw [Int.natCast_mul, Int.natCast_mul]
        congr 2
        omega
      rw [← e]; rfl
    · rintro σ H2 ⟨v, rfl, rfl⟩
      exact ⟨_, rfl, q⟩
def stepJ (l : Nat) (rs cs : List Nat) (n : Nat) : Nat := ((rs.filter fun d => decide (d ≤ n)).map fun d => followN n l (d - 1) * cs.getD (n - d) 0).sum
def joinsL (l : Nat) (rs : List Nat) : Nat → List Nat
  | 0 => [1]
  | k + 1 => joinsL l rs k ++ [stepJ l rs (joinsL l rs k) (k + 1)]
def joinsN (l m n : Nat) : Nat := (joinsL l (rightsN l m n) n).getD n 0
theorem joinsL_len (l : Nat) (rs : List Nat) : ∀ k, (joinsL l rs k).length = k + 1
  | 0 => rfl
  | k + 1 => by
    show (joinsL l rs k ++ [_]).length = _
    rw [List.length_append, joinsL_len l rs k]; rfl
theorem follow_le {n l : Nat} (h : n * l ≤ 1600) : ∀ k, followN n l k ≤ 1600 ^ k
  | 0 => Nat.le_refl _
  | k + 1 => by
    show followN n l k * (n - (k + 1)) * l ≤ _
    rw [Nat.mul_assoc, Nat.pow_succ]
    refine Nat.mul_le_mul (follow_le h k) (Nat.le_trans (Nat.mul_le_mul_right _ (Nat.sub_le _ _)) h)
theorem sum_le_mul {c : Nat} : ∀ {xs : List Nat}, (∀ x ∈ xs, x ≤ c) → xs.sum ≤ xs.length * c
  | [], _ => Nat.zero_le _
  | x :: xs, h => by
    have := sum_le_mul fun y hy => h y (List.mem_cons_of_mem _ hy)
    have := h x List.mem_cons_self
    rw [List.sum_cons, List.length_cons, Nat.add_mul, Nat.one_mul]
    omega
theorem joins_le {l : Nat} {rs : List Nat} (hl : l ≤ 40) (hr : rs.length ≤ 40) (h1 : ∀ d ∈ rs, 1 ≤ d) : ∀ k, k ≤ 40 → ∀ i, (joinsL l rs k).getD i 0 ≤ 1600 ^ i
  | 0, _, 0 => Nat.le_refl _
  | 0, _, i + 1 => Nat.zero_le _
  | k + 1, hk, i => by
    have ih := joins_le hl hr h1 k (by omega)
    show (joinsL l rs k ++ [_]).getD i 0 ≤ _
    have ln := joinsL_len l rs k
    rw [List.getD_eq_getElem?_getD]
    by_cases z : i < k + 1
    · rw [List.getElem?_append_left (by omega), ← List.getD_eq_getElem?_getD]
      exact ih i
    · rw [List.getElem?_append_right (by omega), ln]
      by_cases y : i = k + 1
      · subst y
        rw [Nat.sub_self]
        show stepJ l rs (joinsL l rs k) (k + 1) ≤ _
        unfold stepJ
        refine Nat.le_trans (sum_le_mul (c := 1600 ^ k) fun x hx => ?_) ?_
        · obtain ⟨d, hd, rfl⟩ := List.mem_map.mp hx
          obtain ⟨hd1, hd2⟩ := List.mem_filter.mp hd
          have d1 := h1 d hd1
          have d2 : d ≤ k + 1 := of_decide_eq_true hd2
          have a := follow_le (n := k + 1) (l := l) (Nat.le_trans (Nat.mul_le_mul hk hl) (by decide)) (d - 1)
          have b := ih (k + 1 - d)
          refine Nat.le_trans (Nat.mul_le_mul a b) ?_
          rw [← Nat.pow_add, show d - 1 + (k + 1 - d) = k by omega]
          exact Nat.le_refl _
        · rw [List.length_map, Nat.pow_succ, Nat.mul_comm (1600 ^ k)]
          refine Nat.mul_le_mul_right _ ?_
          have := List.length_filter_le (fun d => decide (d ≤ k + 1)) rs
          omega
      · rw [List.getElem?_eq_none (by show 1 ≤ i - (k + 1); omega)]
        exact Nat.zero_le _
theorem toI_get {xs : List Nat} {i : Int} (h0 : 0 ≤ i) (h1 : i < xs.length) : atI ((toI xs).map V.int) i = some (.int ((xs.getD i.toNat 0 : Nat) : Int)) := by
  have l : (toI xs).length = xs.length := List.length_map ..
  rw [Mth.atI_map h0 (by rw [l]; exact h1)]
  congr 2
  unfold toI
  rw [List.getD_eq_getElem?_getD, List.getD_eq_getElem?_getD, List.getElem?_map]
  cases xs[i.toNat]? <;> rfl
theorem toI_at {xs : List Nat} {j : Nat} {x : V} (h : ((toI xs).map V.int)[j]? = some x) : ∃ d : Nat, xs[j]? = some d ∧ x = .int (d : Int) := by
  unfold toI at h
  rw [List.getElem?_map, List.getElem?_map] at h
  cases e : xs[j]? with
  | none => rw [e] at h; cases h
  | some d => rw [e] at h; exact ⟨d, rfl, (Option.some.inj h).symm⟩
theorem toI_sum : ∀ xs : List Nat, (toI xs).sum = ((xs.sum : Nat) : Int)
  | [] => rfl
  | x :: xs => by
    show (x : Int) + (toI xs).sum = _
    rw [toI_sum xs, List.sum_cons, Int.natCast_add]
theorem pow_lt (i : Nat) (h : i ≤ 40) {n : Nat} (hn : 440 < n) : 1600 ^ i < 2 ^ n := by
  have a : 1600 ^ i ≤ (2 ^ 11) ^ i := Nat.pow_le_pow_left (by decide) i
  rw [← Nat.pow_mul] at a
  exact Nat.lt_of_le_of_lt a (Nat.pow_lt_pow_right (by decide) (by omega))
def spJoins : Sp := fun vs H Q _ => ∃ (l n m : Nat), vs = [.int (l : Int), .int (n : Int), .int (m : Int)] ∧ l ≤ 40 ∧ n ≤ 40 ∧ ∀ H' : Hp, Same H H' → Q (.int ((joinsN l m n : Nat) : Int)) H'
theorem sc_count_joins : FnScope ["length", "many", "m", "right", "counts", "left", "ways"] ["length", "many", "m"] (defScope s_count_joins) := ⟨rfl, rfl, rfl, by decide +kernel, rfl, by decide +kernel, by decide +kernel⟩
theorem nd_part_left_length_counts_count_joins : (["part", "left", "length", "counts"] : List Str).Nodup := by decide +kernel
theorem ok_count_joins {f : Addr} {fd : FuncData} (F : Fun K "count_joins" "count_joins" s_count_joins f fd) (B : Bl mg) (c_right_numbers : Cal P w K mg base "right_numbers" 2 ["length", "m", "most"] spRights) (c_ways_to_follow : Cal P w K mg base "ways_to_follow" 1 ["left", "part", "length"] spFollow) : FnOk P w K mg base CX0 3 f fd ["length", "many", "m"] spJoins := by
  refine F.ok sc_count_joins (fun vs H Q E h => ?_) (fun cdv A outer s H vs Q E hr h => ?_)
  · obtain ⟨l, n, m, rfl, hl, hn, q⟩ := h
    rfl
  · obtain ⟨l, n, m, rfl, hl, hn, q⟩ := h
    have hr_right_numbers : Room 2 _ := hr.mono (by decide)
    have hr_ways_to_follow : Room 1 _ := hr.mono (by decide)
    refine ⟨_, @pss_cons _ _ _ _ _ (@ps_set _ _ (3) _ _ _ _ sc_count_joins.nd rfl (Or.inl rfl) (@pe_cal _ _ _ _ _ _ _ _ _ _ c_right_numbers hr_right_numbers (@pa_cons _ _ _ _ _ (pv 0) (@pa_cons _ _ _ _ _ (pv 2) (@pa_cons _ _ _ _ _ (pv 1) (@pa_nil _) (by rfl)) (by rfl)) (by rfl)) (by rfl) (by decide) (by rfl) (by rfl)) (by rfl) (by first | exact .inl rfl | exact .inr rfl | assumption)) (@pss_cons _ _ _ _ _ (@ps_set _ _ (4) _ _ _ _ sc_count_joins.nd rfl (Or.inr rfl) (@pe_lst _ _ _ _ (@pa_cons _ _ _ _ _ (@pe_int _ _ _ _) (@pa_nil _) (by rfl))) (by rfl) (by first | exact .inl rfl | exact .inr rfl | assumption)) (@pss_cons _ _ _ _ _ (@ps_for _ _ _ _ _ _ _ _ PassesOwn.never rfl (@pi_range2 _ _ _ _ _ _ _ (by rfl) B.range (@pa_cons _ _ _ _ _ (@pe_int _ _ _ _) (@pa_cons _ _ _ _ _ (@pe_op _ _ _ _ _ _ _ _ op_add (pv 1) (@pe_int _ _ _ _)) (@pa_nil _) (by rfl)) (by rfl)) (by rfl) (by rfl)) (@pg_name _ _ (5) _ sc_count_joins.nd rfl (Or.inr rfl) (by first | exact .inl rfl | exact .inr rfl | assumption)) (@pss_cons _ _ _ _ _ (@ps_setC _ (6) _ _ _ _ _ _ _ _ _ _ _ _ _ (["part", "left", "length", "counts"]) (1) ([5, 0, 4]) sc_count_joins.nd rfl (Or.inl rfl) rfl .of (@pi_list _ _ _ _ (pv 3)) (fun _ _ _ _ _ => @pg_name _ _ (0) _ nd_part_left_length_counts_count_joins rfl (Or.inl rfl) (by first | exact .inl rfl | exact .inr rfl | assumption)) (fun _ _ _ _ _ => @pifs_one _ _ _ (@pt_cmpR _ _ _ _ _ _ _ _ op_le (pv 0) (pv 1) (nomark _))) (fun _ _ _ _ _ => (@pe_op _ _ _ _ _ _ _ _ op_mulH (@pe_cal _ _ _ _ _ _ _ _ _ _ c_ways_to_follow hr_ways_to_follow (@pa_cons _ _ _ _ _ (pv 1) (@pa_cons _ _ _ _ _ (pv 0) (@pa_cons _ _ _ _ _ (pv 2) (@pa_nil _) (by rfl)) (by rfl)) (by rfl)) (by rfl) (by decide) (by rfl) (by rfl)) (@pe_ix _ _ _ _ _ _ (rIxL K) ix_list (pv 3) (@pe_op _ _ _ _ _ _ _ _ op_sub (pv 1) (pv 0)) (fun _ _ => rfl)))) (by rfl) (by intro _; rfl) (by first | exact .inl rfl | exact .inr rfl | assumption)) (@pss_one _ _ _ (@ps_expr _ _ _ _ (@pe_append _ _ _ _ _ _ _ (pv 4) (@pa_cons _ _ _ _ _ (@pe_sum _ _ _ _ _ rfl B.sum (@pa_cons _ _ _ _ _ (pv 6) (@pa_nil _) (by rfl)) (by rfl) (by rfl)) (@pa_nil _) (by rfl)) (by rfl) (by rfl) (by rfl) (by rfl) (by rfl)) (by rfl)))) (by intro _; rfl)) (@pss_one _ _ _ (@ps_ret _ _ _ _ (@pe_ix _ _ _ _ _ _ _ ix_list (pv 4) (pv 1) (fun _ _ => rfl)))))), ?_⟩
    refine ⟨_, rfl, _, rfl, _, rfl, l, m, n, rfl, by omega, by omega, fun ra H1 hra s1 h1 => ?_⟩
    obtain ⟨rs, ers⟩ : ∃ rs, rs = rightsN l m n := ⟨_, rfl⟩
    rw [← ers] at h1
    refine ⟨(show 1 ≤ sizeLine by decide), fun cs hcs => ?_⟩
    have s2 : Same H1 (upd H1 cs (.lst [V.int 1])) := Same.upd_new hcs
    have h2 : (upd H1 cs (.lst [V.int 1])) cs = some (.lst ((toI (joinsL l rs 0)).map V.int)) := upd_same
    have h2r := s2 _ _ h1
    have nrc : ra ≠ cs := ne_of_none h1 hcs
    generalize (upd H1 cs (.lst [V.int 1])) = H2 at s2 h2 h2r ⊢
    refine ⟨_, rfl, _, _, rfl, rfl, 1, (n : Int) + 1, rfl, ⟨by decide, by decide, by omega, by omega⟩, ?_⟩
    have en : ((n : Int) + 1 - 1).toNat = n := by omega
    rw [en]
    refine for_range (lo := 1) (n := n) (fun i σ H3 => ∃ v w : Option V, σ = [some (.int (l : Int)), some (.int (n : Int)), some (.int (m : Int)), some (.ref ra), some (.ref cs), v, w] ∧ H3 cs = some (.lst ((toI (joinsL l rs i)).map V.int)) ∧ KeepBut cs H2 H3) ⟨none, none, rfl, h2, KeepBut.refl cs H2⟩ ?_ ?_
    · rintro i σ H3 hi ⟨v, w, rfl, h3, kb3⟩
      have h3r := kb3 _ _ h2r nrc
      have lrs : rs.length ≤ 40 := by rw [ers]; exact Nat.le_trans (rightsN_len l m n) hn
      have prs : ∀ d ∈ rs, 1 ≤ d := fun d hd => by rw [ers] at hd; exact (rightsN_pos hd).1
      have e1 : (1 : Int) + (i : Int) = ((i + 1 : Nat) : Int) := by omega
      rw [e1]
      refine ⟨_, rfl, ra, rfl, ⟨_, SqL.of h3r⟩, comp_list (K := K) (a := ra) (xs := (toI rs).map V.int) (fun j ys σ H4 => ∃ u : Option V, σ = [u, some (.int ((i + 1 : Nat) : Int)), some (.int (l : Int)), some (.ref cs)] ∧ H4 = H3 ∧ ys = (toI (((rs.take j).filter fun d => decide (d ≤ i + 1)).map fun d => followN (i + 1) l (d - 1) * (joinsL l rs i).getD (i + 1 - d) 0)).map V.int)
        ⟨none, rfl, rfl, by simp [toI]⟩ (fun j ys σ H4 _ ⟨_, _, e, _⟩ => by rw [e]; exact SqL.of h3r) ?_ ?_⟩
      · rintro j x ys σ H4 hj ⟨u, rfl, rfl, rfl⟩
        obtain ⟨d, hd, rfl⟩ := toI_at hj
        have d1 := prs d (List.mem_of_getElem? hd)
        have jl : j < rs.length := (List.getElem?_eq_some_iff.mp hd).1
        refine ⟨_, rfl, _, rfl, _, _, rfl, rfl, _, rfl, ite2 (fun h1 => ?_) (fun h1 => ?_)⟩
        · have dn : d ≤ i + 1 := by
            have := of_decide_eq_true h1
            omega
          refine ⟨_, rfl, _, rfl, _, rfl, i + 1, d, l, rfl, d1, dn, by omega, by omega, _, rfl, _, rfl, _, rfl, _, _, rfl, rfl, cs, _, _, _, rfl, rfl, SqL.of h3, toI_get (xs := joinsL l rs i) (by omega) (by rw [joinsL_len]; omega), _, _, rfl, rfl, ⟨?_, ?_⟩, ?_⟩
          · rw [Int.natAbs_natCast]
            exact Nat.lt_of_le_of_lt (follow_le (Nat.le_trans (Nat.mul_le_mul (show i + 1 ≤ 40 by omega) hl) (by decide)) _) (pow_lt (d - 1) (by omega) (by decide))
          · rw [Int.natAbs_natCast]
            exact Nat.lt_of_le_of_lt (joins_le hl lrs prs i (by omega) _) (pow_lt _ (by omega) (by decide))
          · have lj : ((rs.take j).filter fun d => decide (d ≤ i + 1)).length ≤ 40 := Nat.le_trans (List.length_filter_le _ _) (by rw [List.length_take]; omega)
            refine ⟨small1000 (by unfold toI; rw [List.length_map, List.length_map, List.length_map]; omega), _, rfl, rfl, ?_⟩
            rw [take_succ_of hd, List.filter_append, List.filter_cons_of_pos (p := fun d => decide (d ≤ i + 1)) (decide_eq_true dn), List.filter_nil]
            unfold toI
            rw [List.map_append, List.map_append, List.map_append]
            congr 1
            have ed : ((((i + 1 : Nat) : Int)) - (d : Int)).toNat = i + 1 - d := by omega
            show [V.int (((followN (i + 1) l (d - 1) : Nat) : Int) * (((joinsL l rs i).getD ((((i + 1 : Nat) : Int)) - (d : Int)).toNat 0 : Nat) : Int))] = [V.int ((followN (i + 1) l (d - 1) * (joinsL l rs i).getD (i + 1 - d) 0 : Nat) : Int)]
            rw [ed, Int.natCast_mul]
        · have dn : ¬ d ≤ i + 1 := fun z => h1 (decide_eq_true (by omega))
          refine ⟨_, rfl, rfl, ?_⟩
          rw [take_succ_of hd, List.filter_append, List.filter_cons_of_neg (p := fun d => decide (d ≤ i + 1)) (by simpa using dn), List.filter_nil, List.append_nil]
      · rintro ys σ H4 ⟨u, rfl, rfl, rfl⟩ D hD
        have ll : ((toI rs).map V.int).length = rs.length := by unfold toI; rw [List.length_map, List.length_map]
        rw [ll, List.take_length]
        obtain ⟨ws, ews⟩ : ∃ ws, ws = (rs.filter fun d => decide (d ≤ i + 1)).map fun d => followN (i + 1) l (d - 1) * (joinsL l rs i).getD (i + 1 - d) 0 := ⟨_, rfl⟩
        rw [← ews]
        have s5 : Same H4 (upd H4 D (.lst ((toI ws).map V.int))) := Same.upd_new hD
        have h5 : (upd H4 D (.lst ((toI ws).map V.int))) D = some (.lst ((toI ws).map V.int)) := upd_same
        generalize (upd H4 D (.lst ((toI ws).map V.int))) = H5 at s5 h5 ⊢
        have h5c := s5 _ _ h3
        refine ⟨_, rfl, .inl ⟨rfl, _, SqL.of h5c⟩, _, rfl, D, _, rfl, SqL.of h5, cs, _, _, rfl, rfl, h5c, small1000 (by unfold toI; rw [List.length_map, List.length_map, joinsL_len]; omega), ?_⟩
        refine ⟨_, _, rfl, ?_, fun x o hx hn => by rw [upd_ne hn]; exact s5 x o (kb3 x o hx hn)⟩
        rw [upd_same, toI_sum, ews]
        show some (HO.lst (_ ++ [V.int ((stepJ l rs (joinsL l rs i) (i + 1) : Nat) : Int)])) = some (HO.lst ((toI (joinsL l rs i ++ [stepJ l rs (joinsL l rs i) (i + 1)])).map V.int))
        unfold toI
        rw [List.map_append, List.map_append]
        rfl
    · rintro σ H3 ⟨v, w, rfl, h3, kb3⟩
      have s3 : Same H H3 := (s1.trans s2).kb kb3 (s1.free hcs)
      refine ⟨_, rfl, _, rfl, cs, _, _, _, rfl, rfl, SqL.of h3, toI_get (xs := joinsL l rs n) (by omega) (by rw [joinsL_len]; omega), ?_⟩
      rw [Int.toNat_natCast, ers]
      exact q H3 s3
theorem joinsN_le {l m n : Nat} (hl : l ≤ 40) (hn : n ≤ 40) : joinsN l m n ≤ 1600 ^ 40 :=
  Nat.le_trans (joins_le hl (Nat.le_trans (rightsN_len l m n) hn) (fun _ hd => (rightsN_pos hd).1) n hn n) (Nat.pow_le_pow_right (by decide) hn)
theorem prodF_le {f : Nat → Nat} {c : Nat} : ∀ {ks : List Nat}, (∀ k ∈ ks, f k ≤ c) → prodF f ks ≤ c ^ ks.length
  | [], _ => Nat.le_refl _
  | k :: ks, h => by
    show f k * prodF f ks ≤ c ^ (ks.length + 1)
    rw [Nat.pow_succ, Nat.mul_comm]
    exact Nat.mul_le_mul (prodF_le fun x hx => h x (List.mem_cons_of_mem _ hx)) (h k List.mem_cons_self)
theorem pow_lt2 (i : Nat) (h : i ≤ 40) {n : Nat} (hn : 17600 < n) : (1600 ^ 40) ^ i < 2 ^ n := by
  rw [← Nat.pow_mul]
  have a : 1600 ^ (40 * i) ≤ (2 ^ 11) ^ (40 * i) := Nat.pow_le_pow_left (by decide) _
  rw [← Nat.pow_mul] at a
  exact Nat.lt_of_le_of_lt a (Nat.pow_lt_pow_right (by decide) (by omega))
theorem prod_keys {p : List Int} (t : IsT p) {rs : List (List Int)} (up : RingsUp p p.length rs) {ks : List Nat} (nk : ks.Nodup) (h1 : ∀ k ∈ ks, ∃ r ∈ rs, r.length = k) (h2 : ∀ r ∈ rs, r.length ∈ ks) {f : Nat → Nat} (hf : ∀ u, cntL rs u = 0 → f u = 1) :
    prodF f ks = prodF f ((List.range p.length).map (· + 1)) := by
  refine prodF_sub nk ?_ (fun k hk => ?_) fun u hu hn => ?_
  · exact List.Pairwise.map (fun x : Nat => x + 1) (fun a b h => by omega) (List.nodup_range (n := p.length))
  · obtain ⟨r, hr, rfl⟩ := h1 k hk
    obtain ⟨y, L, hy, pr, er, _⟩ := up.ring r hr
    have b := ring_bound t hy (m := L) fun i i0 i1 => pr.least i i0 i1
    have := pr.pos
    rw [er, ringL_len]
    exact List.mem_map.mpr ⟨L - 1, List.mem_range.mpr (by omega), by omega⟩
  · refine hf u ?_
    by_cases z : cntL rs u = 0
    · exact z
    · obtain ⟨r, hr, rfl⟩ := cnt_pos z
      exact absurd (h2 r hr) hn
noncomputable def howR (p : List Int) (m : Nat) : Nat := prodF (fun l => joinsN l m (cntL (ringsF p p.length) l)) ((List.range p.length).map (· + 1))
def spMany : Sp := fun vs H Q _ => ∃ (a : Addr) (p : List Int) (m : Nat), vs = [.ref a, .int (m : Int)] ∧ TurnAt H a p ∧ 1 ≤ m ∧ ∀ H' : Hp, Same H H' → Q (.int ((howR p m : Nat) : Int)) H'
theorem sc_how_many_roots : FnScope ["p", "m", "by_length", "many", "length"] ["p", "m"] (defScope s_how_many_roots) := ⟨rfl, rfl, rfl, by decide +kernel, rfl, by decide +kernel, by decide +kernel⟩
theorem ok_how_many_roots {f : Addr} {fd : FuncData} (F : Fun K "how_many_roots" "how_many_roots" s_how_many_roots f fd) (B : Bl mg) (c_must_be_turn : Cal P w K mg base "must_be_turn" 3 ["thing"] spMust) (c_must_be_from_one : Cal P w K mg base "must_be_from_one" 2 ["number"] spOne) (c_sort_by_length : Cal P w K mg base "sort_by_length" 1 ["rings"] spSortR) (c_walk_rings : Cal P w K mg base "walk_rings" 2 ["p"] spRings) (c_count_joins : Cal P w K mg base "count_joins" 3 ["length", "many", "m"] spJoins) : FnOk P w K mg base CX0 4 f fd ["p", "m"] spMany := by
  refine F.ok sc_how_many_roots (fun vs H Q E h => ?_) (fun cdv A outer s H vs Q E hr h => ?_)
  · obtain ⟨a, p, m, rfl, ⟨ha, tp, lp⟩, m1, q⟩ := h
    rfl
  · obtain ⟨a, p, m, rfl, ⟨ha, tp, lp⟩, m1, q⟩ := h
    have hr_must_be_turn : Room 3 _ := hr.mono (by decide)
    have hr_must_be_from_one : Room 2 _ := hr.mono (by decide)
    have hr_sort_by_length : Room 1 _ := hr.mono (by decide)
    have hr_walk_rings : Room 2 _ := hr.mono (by decide)
    have hr_count_joins : Room 3 _ := hr.mono (by decide)
    have hu := hu_of hr
    refine ⟨_, @pss_cons _ _ _ _ _ (@ps_expr _ _ _ _ (@pe_cal _ _ _ _ _ _ _ _ _ _ c_must_be_turn hr_must_be_turn (@pa_cons _ _ _ _ _ (pv 0) (@pa_nil _) (by rfl)) (by rfl) (by decide) (by rfl) (by rfl)) (by rfl)) (@pss_cons _ _ _ _ _ (@ps_expr _ _ _ _ (@pe_cal _ _ _ _ _ _ _ _ _ _ c_must_be_from_one hr_must_be_from_one (@pa_cons _ _ _ _ _ (pv 1) (@pa_nil _) (by rfl)) (by rfl) (by decide) (by rfl) (by rfl)) (by rfl)) (@pss_cons _ _ _ _ _ (@ps_set _ _ (2) _ _ _ _ sc_how_many_roots.nd rfl (Or.inl rfl) (@pe_cal _ _ _ _ _ _ _ _ _ _ c_sort_by_length hr_sort_by_length (@pa_cons _ _ _ _ _ (@pe_cal _ _ _ _ _ _ _ _ _ _ c_walk_rings hr_walk_rings (@pa_cons _ _ _ _ _ (pv 0) (@pa_nil _) (by rfl)) (by rfl) (by decide) (by rfl) (by rfl)) (@pa_nil _) (by rfl)) (by rfl) (by decide) (by rfl) (by rfl)) (by rfl) (by first | exact .inl rfl | exact .inr rfl | assumption)) (@pss_cons _ _ _ _ _ (@ps_set _ _ (3) _ _ _ _ sc_how_many_roots.nd rfl (Or.inl rfl) (@pe_int _ _ _ _) (by rfl) (by first | exact .inl rfl | exact .inr rfl | assumption)) (@pss_cons _ _ _ _ _ (@ps_for _ _ _ _ _ _ _ _ PassesOwn.never rfl (@pi_dict _ _ _ _ (pv 2)) (@pg_name _ _ (4) _ sc_how_many_roots.nd rfl (Or.inl rfl) (by first | exact .inl rfl | exact .inr rfl | assumption)) (@pss_one _ _ _ (@ps_set _ _ (3) _ _ _ _ sc_how_many_roots.nd rfl (Or.inl rfl) (@pe_op _ _ _ _ _ _ _ _ op_mulH (pv 3) (@pe_cal _ _ _ _ _ _ _ _ _ _ c_count_joins hr_count_joins (@pa_cons _ _ _ _ _ (pv 4) (@pa_cons _ _ _ _ _ (@pe_lenL _ _ _ _ _ B.len (@pa_cons _ _ _ _ _ (@pe_dget _ _ _ _ _ _ hu (pv 2) (pv 4) (fun _ _ => rfl)) (@pa_nil _) (by rfl)) (by rfl) (by rfl)) (@pa_cons _ _ _ _ _ (pv 1) (@pa_nil _) (by rfl)) (by rfl)) (by rfl)) (by rfl) (by decide) (by rfl) (by rfl))) (by rfl) (by first | exact .inl rfl | exact .inr rfl | assumption))) (by intro _; rfl)) (@pss_one _ _ _ (@ps_ret _ _ _ _ (pv 3))))))), ?_⟩
    refine ⟨_, rfl, a, p, rfl, ⟨ha, tp, lp⟩, fun H1 s1 => ?_⟩
    refine ⟨_, rfl, (m : Int), rfl, by omega, ?_⟩
    refine ⟨_, rfl, a, p, rfl, ⟨s1 a _ ha, tp, lp⟩, fun l as rs H2 hl s12 h2l rows up fa nda nla => ?_⟩
    have cl := up_count up
    have fl := up_len tp up
    refine ⟨l, as, rs, rfl, h2l, rows, by omega, fun d es H3 hd s23 h3d bl les fre => ?_⟩
    have s03 := (s1.trans s12).trans s23
    have hd0 : H d = none := (s1.trans s12).free hd
    refine ⟨_, rfl, d, kvsOf es, rfl, h3d, fun o => ?_⟩
    have s4 : Same H (upd H3 d (.frz o (.dK (kvsOf es)))) := s03.upd_r hd0
    have h4d : (upd H3 d (.frz o (.dK (kvsOf es)))) d = some (.frz o (.dK (kvsOf es))) := upd_same
    have kp : ∀ c, c ≠ d → (upd H3 d (.frz o (.dK (kvsOf es)))) c = H3 c := fun c hc => upd_ne hc
    generalize (upd H3 d (.frz o (.dK (kvsOf es)))) = H4 at s4 h4d kp ⊢
    have lkv : (kvsOf es).length = es.length := by unfold kvsOf; rw [List.length_map]
    have fb : ∀ e ∈ es, e.1 ≤ 40 ∧ cntL rs e.1 ≤ 40 := fun e he => by
      obtain ⟨r, hr', lr⟩ := bl.key e.1 (List.mem_map.mpr ⟨e, he, rfl⟩)
      obtain ⟨y, L, hy, pr, er, _⟩ := up.ring r hr'
      have b := ring_bound tp hy (m := L) fun i i0 i1 => pr.least i i0 i1
      rw [er, ringL_len] at lr
      have : cntL rs e.1 ≤ rs.length := List.countP_le_length
      exact ⟨by omega, by omega⟩
    refine for_dict (fun i σ H5 => ∃ (v : Option V), σ = [some (.ref a), some (.int (m : Int)), some (.ref d), some (.int ((prodF (fun l => joinsN l m (cntL rs l)) ((es.take i).map (·.1)) : Nat) : Int)), v] ∧ Same H4 H5)
      ⟨none, rfl, Same.refl H4⟩ (fun i σ H5 _ ⟨_, _, e⟩ => e _ _ h4d) ?_ ?_
    · rintro i k v σ H5 hi ⟨v4, rfl, s5⟩
      unfold kvsOf at hi
      rw [List.getElem?_map] at hi
      cases hE : es[i]? with
      | none => rw [hE] at hi; cases hi
      | some e =>
        rw [hE] at hi
        cases hi
        have he := List.mem_of_getElem? hE
        have il : i < es.length := (List.getElem?_eq_some_iff.mp hE).1
        obtain ⟨cs, hcs, rcs⟩ := bl.row e he
        obtain ⟨le40, lc40⟩ := fb e he
        have lcs : cs.length = cntL rs e.1 := by
          rw [rcs.1]
          unfold fil cntL
          exact (List.countP_eq_length_filter ..).symm
        have h5x : H5 e.2 = some (.lst (cs.map V.ref)) := s5 _ _ (by rw [kp _ (bl.nd e he)]; exact hcs)
        have pb : prodF (fun l => joinsN l m (cntL rs l)) ((es.take i).map (·.1)) ≤ (1600 ^ 40) ^ i := by
          have := prodF_le (f := fun l => joinsN l m (cntL rs l)) (c := 1600 ^ 40) (ks := (es.take i).map (·.1)) fun k hk => by
            obtain ⟨e1, he1, rfl⟩ := List.mem_map.mp hk
            obtain ⟨b1, b2⟩ := fb e1 (List.mem_of_mem_take he1)
            exact joinsN_le b1 b2
          rw [List.length_map, List.length_take, Nat.min_eq_left (by omega)] at this
          exact this
        obtain ⟨F0, hF0⟩ : ∃ F0, F0 = prodF (fun l => joinsN l m (cntL rs l)) ((es.take i).map (·.1)) := ⟨_, rfl⟩
        rw [← hF0] at pb ⊢
        refine ⟨_, rfl, _, rfl, _, rfl, _, rfl, d, .ref e.2, rfl, .inl ⟨kvsOf es, Sum.inl (e.1 : Int), .inr ⟨o, s5 _ _ h4d⟩, rfl, (kvs_at bl.nk he).symm⟩, e.2, _, rfl, .inl (SqL.of h5x), _, rfl, e.1, cs.length, m, ?_, le40, by omega, fun H6 s6 => ?_⟩
        · show [V.int (e.1 : Int), V.int (((cs.map V.ref).length : Nat) : Int), V.int (m : Int)] ++ [] = _
          rw [List.length_map]
          rfl
        refine ⟨_, _, rfl, rfl, ⟨?_, ?_⟩, some (.int (e.1 : Int)), ?_, s5.trans s6⟩
        · rw [Int.natAbs_natCast]
          exact Nat.lt_of_le_of_lt pb (pow_lt2 i (by omega) (by decide))
        · rw [Int.natAbs_natCast]
          exact Nat.lt_of_le_of_lt (joinsN_le le40 (by omega)) (pow_lt 40 (Nat.le_refl _) (by decide))
        · rw [take_succ_of hE, List.map_append, show ([e].map (·.1) : List Nat) = [e.1] from rfl, prodF_snoc, ← hF0, ← lcs, Int.natCast_mul]
          rfl
    · rintro σ H5 ⟨v, rfl, s5⟩
      rw [lkv, List.take_length, prod_keys tp up bl.nk bl.key bl.all (f := fun l => joinsN l m (cntL rs l)) fun u hu => by show joinsN u m (cntL rs u) = 1; rw [hu]; rfl]
      have er : rs = ringsF p p.length := up.eq
      rw [er]
      exact ⟨_, rfl, q _ (s4.trans s5)⟩
end
end My
namespace My
open PySem L2 Mth
section
variable {P : Program} {w : World} {K : PySem.W.Frag} {mg : Str → Option Value} {base : Heap} {q_TurnError q_NoTurn q_NoFit q_NoRounds q_NoNumber q_NoRoot q_TooMany q_NoKind q_NoText q_NoName q_NoRow : Addr}
def spWord (q_NoTurn q_NoFit q_NoRounds q_NoNumber q_NoRoot q_TooMany q_NoKind q_NoText q_NoName q_NoRow : Addr) : Sp := fun vs H Q _ => ∃ (a : Addr) (n : Str) (C : Addr), vs = [.ref a] ∧ H a = some (ExcO a C) ∧ (n, C) ∈ [(("NoTurn" : Str), q_NoTurn), ("NoFit", q_NoFit), ("NoRounds", q_NoRounds), ("NoNumber", q_NoNumber), ("NoRoot", q_NoRoot), ("TooMany", q_TooMany), ("NoKind", q_NoKind), ("NoText", q_NoText), ("NoName", q_NoName), ("NoRow", q_NoRow)] ∧ ∀ H', Same H H' → Q (.str n) H'
theorem word_at {q_NoTurn q_NoFit q_NoRounds q_NoNumber q_NoRoot q_TooMany q_NoKind q_NoText q_NoName q_NoRow : Addr} {n : Str} {C : Addr} (hn : (n, C) ∈ [(("NoTurn" : Str), q_NoTurn), ("NoFit", q_NoFit), ("NoRounds", q_NoRounds), ("NoNumber", q_NoNumber), ("NoRoot", q_NoRoot), ("TooMany", q_TooMany), ("NoKind", q_NoKind), ("NoText", q_NoText), ("NoName", q_NoName), ("NoRow", q_NoRow)]) {ks : List V}
    (hk : ks = [.bl (decide (n = "NoTurn")), .bl (decide (n = "NoNumber")), .bl (decide (n = "NoFit")), .bl (decide (n = "TooMany")), .bl (decide (n = "NoRoot")), .bl (decide (n = "NoRounds")), .bl (decide (n = "NoKind")), .bl (decide (n = "NoText")), .bl (decide (n = "NoName")), .bl (decide (n = "NoRow"))]) :
    ks.length = 10 ∧ ks.all flatV = true ∧ ks.countP (fun i => eqV i (.bl true)) = 1 ∧ ∃ j : Nat, j < 10 ∧ (["NoTurn", "NoNumber", "NoFit", "TooMany", "NoRoot", "NoRounds", "NoKind", "NoText", "NoName", "NoRow"] : List Str)[j]? = some n ∧ ks[j]? = some (.bl true) ∧ ∀ i, i < j → ks[i]? = some (.bl false) := by
  subst hk
  simp only [List.mem_cons, Prod.mk.injEq, List.not_mem_nil, or_false] at hn
  rcases hn with ⟨rfl, _⟩ | ⟨rfl, _⟩ | ⟨rfl, _⟩ | ⟨rfl, _⟩ | ⟨rfl, _⟩ | ⟨rfl, _⟩ | ⟨rfl, _⟩ | ⟨rfl, _⟩ | ⟨rfl, _⟩ | ⟨rfl, _⟩
  · exact ⟨rfl, by decide +kernel, by decide +kernel, 0, by decide +kernel, by decide +kernel, by decide +kernel, by decide +kernel⟩
  · exact ⟨rfl, by decide +kernel, by decide +kernel, 2, by decide +kernel, by decide +kernel, by decide +kernel, by decide +kernel⟩
  · exact ⟨rfl, by decide +kernel, by decide +kernel, 5, by decide +kernel, by decide +kernel, by decide +kernel, by decide +kernel⟩
  · exact ⟨rfl, by decide +kernel, by decide +kernel, 1, by decide +kernel, by decide +kernel, by decide +kernel, by decide +kernel⟩
  · exact ⟨rfl, by decide +kernel, by decide +kernel, 4, by decide +kernel, by decide +kernel, by decide +kernel, by decide +kernel⟩
  · exact ⟨rfl, by decide +kernel, by decide +kernel, 3, by decide +kernel, by decide +kernel, by decide +kernel, by decide +kernel⟩
  · exact ⟨rfl, by decide +kernel, by decide +kernel, 6, by decide +kernel, by decide +kernel, by decide +kernel, by decide +kernel⟩
  · exact ⟨rfl, by decide +kernel, by decide +kernel, 7, by decide +kernel, by decide +kernel, by decide +kernel, by decide +kernel⟩
  · exact ⟨rfl, by decide +kernel, by decide +kernel, 8, by decide +kernel, by decide +kernel, by decide +kernel, by decide +kernel⟩
  · exact ⟨rfl, by decide +kernel, by decide +kernel, 9, by decide +kernel, by decide +kernel, by decide +kernel, by decide +kernel⟩
theorem sc_law_word : FnScope ["caught", "kinds", "words"] ["caught"] (defScope s_law_word) := ⟨rfl, rfl, rfl, by decide +kernel, rfl, by decide +kernel, by decide +kernel⟩
theorem ok_law_word {f : Addr} {fd : FuncData} (F : Fun K "_law_word" "_law_word" s_law_word f fd) (B : Bl mg) (ER : ErrAll K mg q_TurnError [("NoTurn", q_NoTurn), ("NoFit", q_NoFit), ("NoRounds", q_NoRounds), ("NoNumber", q_NoNumber), ("NoRoot", q_NoRoot), ("TooMany", q_TooMany), ("NoKind", q_NoKind), ("NoText", q_NoText), ("NoName", q_NoName), ("NoRow", q_NoRow)]) : FnOk P w K mg base CX0 1 f fd ["caught"] (spWord q_NoTurn q_NoFit q_NoRounds q_NoNumber q_NoRoot q_TooMany q_NoKind q_NoText q_NoName q_NoRow) := by
  refine F.ok sc_law_word (fun vs H Q E h => ?_) (fun cdv A outer s H vs Q E hr h => ?_)
  · obtain ⟨a, n, C, rfl, hH, hn, q⟩ := h
    rfl
  · obtain ⟨a, n, C, rfl, hH, hn, q⟩ := h
    refine ⟨_, @pss_cons _ _ _ _ _ (@ps_set _ _ (1) _ _ _ _ sc_law_word.nd rfl (Or.inl rfl) (@pe_lst _ _ _ _ (@pa_cons _ _ _ _ _ (@pe_isiX _ _ _ _ _ _ B.isi (@pa_cons _ _ _ _ _ (pv 0) (@pa_cons _ _ _ _ _ (@pe_glob _ _ (.ref q_NoTurn) _ _ (by rfl) (ER.err ("NoTurn" , q_NoTurn) (by simp)).mg rfl (by decide)) (@pa_nil _) (by rfl)) (by rfl)) (by rfl) (by rfl) (by rfl)) (@pa_cons _ _ _ _ _ (@pe_isiX _ _ _ _ _ _ B.isi (@pa_cons _ _ _ _ _ (pv 0) (@pa_cons _ _ _ _ _ (@pe_glob _ _ (.ref q_NoNumber) _ _ (by rfl) (ER.err ("NoNumber" , q_NoNumber) (by simp)).mg rfl (by decide)) (@pa_nil _) (by rfl)) (by rfl)) (by rfl) (by rfl) (by rfl)) (@pa_cons _ _ _ _ _ (@pe_isiX _ _ _ _ _ _ B.isi (@pa_cons _ _ _ _ _ (pv 0) (@pa_cons _ _ _ _ _ (@pe_glob _ _ (.ref q_NoFit) _ _ (by rfl) (ER.err ("NoFit" , q_NoFit) (by simp)).mg rfl (by decide)) (@pa_nil _) (by rfl)) (by rfl)) (by rfl) (by rfl) (by rfl)) (@pa_nil _) (by rfl)) (by rfl)) (by rfl))) (by rfl) (by first | exact .inl rfl | exact .inr rfl | assumption)) (@pss_cons _ _ _ _ _ (@ps_set _ _ (1) _ _ _ _ sc_law_word.nd rfl (Or.inl rfl) (@pe_op _ _ _ _ _ _ _ _ op_cat (pv 1) (@pe_lst _ _ _ _ (@pa_cons _ _ _ _ _ (@pe_isiX _ _ _ _ _ _ B.isi (@pa_cons _ _ _ _ _ (pv 0) (@pa_cons _ _ _ _ _ (@pe_glob _ _ (.ref q_TooMany) _ _ (by rfl) (ER.err ("TooMany" , q_TooMany) (by simp)).mg rfl (by decide)) (@pa_nil _) (by rfl)) (by rfl)) (by rfl) (by rfl) (by rfl)) (@pa_cons _ _ _ _ _ (@pe_isiX _ _ _ _ _ _ B.isi (@pa_cons _ _ _ _ _ (pv 0) (@pa_cons _ _ _ _ _ (@pe_glob _ _ (.ref q_NoRoot) _ _ (by rfl) (ER.err ("NoRoot" , q_NoRoot) (by simp)).mg rfl (by decide)) (@pa_nil _) (by rfl)) (by rfl)) (by rfl) (by rfl) (by rfl)) (@pa_cons _ _ _ _ _ (@pe_isiX _ _ _ _ _ _ B.isi (@pa_cons _ _ _ _ _ (pv 0) (@pa_cons _ _ _ _ _ (@pe_glob _ _ (.ref q_NoRounds) _ _ (by rfl) (ER.err ("NoRounds" , q_NoRounds) (by simp)).mg rfl (by decide)) (@pa_nil _) (by rfl)) (by rfl)) (by rfl) (by rfl) (by rfl)) (@pa_nil _) (by rfl)) (by rfl)) (by rfl)))) (by rfl) (by first | exact .inl rfl | exact .inr rfl | assumption)) (@pss_cons _ _ _ _ _ (@ps_set _ _ (1) _ _ _ _ sc_law_word.nd rfl (Or.inl rfl) (@pe_op _ _ _ _ _ _ _ _ op_cat (pv 1) (@pe_lst _ _ _ _ (@pa_cons _ _ _ _ _ (@pe_isiX _ _ _ _ _ _ B.isi (@pa_cons _ _ _ _ _ (pv 0) (@pa_cons _ _ _ _ _ (@pe_glob _ _ (.ref q_NoKind) _ _ (by rfl) (ER.err ("NoKind" , q_NoKind) (by simp)).mg rfl (by decide)) (@pa_nil _) (by rfl)) (by rfl)) (by rfl) (by rfl) (by rfl)) (@pa_cons _ _ _ _ _ (@pe_isiX _ _ _ _ _ _ B.isi (@pa_cons _ _ _ _ _ (pv 0) (@pa_cons _ _ _ _ _ (@pe_glob _ _ (.ref q_NoText) _ _ (by rfl) (ER.err ("NoText" , q_NoText) (by simp)).mg rfl (by decide)) (@pa_nil _) (by rfl)) (by rfl)) (by rfl) (by rfl) (by rfl)) (@pa_cons _ _ _ _ _ (@pe_isiX _ _ _ _ _ _ B.isi (@pa_cons _ _ _ _ _ (pv 0) (@pa_cons _ _ _ _ _ (@pe_glob _ _ (.ref q_NoName) _ _ (by rfl) (ER.err ("NoName" , q_NoName) (by simp)).mg rfl (by decide)) (@pa_nil _) (by rfl)) (by rfl)) (by rfl) (by rfl) (by rfl)) (@pa_nil _) (by rfl)) (by rfl)) (by rfl)))) (by rfl) (by first | exact .inl rfl | exact .inr rfl | assumption)) (@pss_cons _ _ _ _ _ (@ps_expr _ _ _ _ (@pe_append _ _ _ _ _ _ _ (pv 1) (@pa_cons _ _ _ _ _ (@pe_isiX _ _ _ _ _ _ B.isi (@pa_cons _ _ _ _ _ (pv 0) (@pa_cons _ _ _ _ _ (@pe_glob _ _ (.ref q_NoRow) _ _ (by rfl) (ER.err ("NoRow" , q_NoRow) (by simp)).mg rfl (by decide)) (@pa_nil _) (by rfl)) (by rfl)) (by rfl) (by rfl) (by rfl)) (@pa_nil _) (by rfl)) (by rfl) (by rfl) (by rfl) (by rfl) (by rfl)) (by rfl)) (@xb_pre _ _ _ _ _ (@ps_if _ _ _ _ _ _ _ _ (@pw_or _ _ _ _ _ _ _ (@pt_cmpR _ _ _ _ _ _ _ _ op_ne (@pe_countV _ K _ _ _ _ _ _ (pv 1) (@pa_cons _ _ _ _ _ (@pe_bl _ _ _ _) (@pa_nil _) (by rfl)) (by rfl) (by rfl) (by rfl) (by rfl) (by rfl) (by rfl)) (@pe_int _ _ _ _) (nomark _)) (@pw_or1 _ _ _ _ (@pt_not _ _ _ _ (@pt_val _ _ _ (@pe_isiX _ _ _ _ _ _ B.isi (@pa_cons _ _ _ _ _ (pv 0) (@pa_cons _ _ _ _ _ (@pe_tyVE _ _ B.ve (by rfl)) (@pa_nil _) (by rfl)) (by rfl)) (by rfl) (by rfl) (by rfl)) (by intro _; rfl))))).pt (@pss_one _ _ _ (@ps_ret _ _ _ _ (@pe_str _ _ _ _))) (@pss_nil _)) (@xb_cons _ _ _ _ _ (@xb_setS _ (2) _ _ _ _ _ ["NoTurn", "NoNumber", "NoFit", "TooMany", "NoRoot", "NoRounds", "NoKind", "NoText", "NoName", "NoRow"] (by decide +kernel) sc_law_word.nd rfl (Or.inl rfl) (by rfl) (by first | exact .inl rfl | exact .inr rfl | assumption)) (@pss_one _ _ _ (@ps_ret _ _ _ _ (@pe_ix _ _ _ _ _ _ _ ix_list (pv 2) (@pe_indexV _ K _ _ _ _ _ _ (pv 1) (@pa_cons _ _ _ _ _ (@pe_bl _ _ _ _) (@pa_nil _) (by rfl)) (by rfl) (by rfl) (by rfl) (by rfl) (by rfl) (by rfl)) (fun _ _ => rfl))))))))), ?_⟩
    have IC := ER.inst (n, C) hn
    have p0 := ER.pair (n, C) hn ("NoTurn", q_NoTurn) (by simp)
    have p1 := ER.pair (n, C) hn ("NoNumber", q_NoNumber) (by simp)
    have p2 := ER.pair (n, C) hn ("NoFit", q_NoFit) (by simp)
    have p3 := ER.pair (n, C) hn ("TooMany", q_TooMany) (by simp)
    have p4 := ER.pair (n, C) hn ("NoRoot", q_NoRoot) (by simp)
    have p5 := ER.pair (n, C) hn ("NoRounds", q_NoRounds) (by simp)
    have p6 := ER.pair (n, C) hn ("NoKind", q_NoKind) (by simp)
    have p7 := ER.pair (n, C) hn ("NoText", q_NoText) (by simp)
    have p8 := ER.pair (n, C) hn ("NoName", q_NoName) (by simp)
    have p9 := ER.pair (n, C) hn ("NoRow", q_NoRow) (by simp)
    obtain ⟨k0, hk0⟩ : ∃ b, b = decide (n = "NoTurn") := ⟨_, rfl⟩
    obtain ⟨k1, hk1⟩ : ∃ b, b = decide (n = "NoNumber") := ⟨_, rfl⟩
    obtain ⟨k2, hk2⟩ : ∃ b, b = decide (n = "NoFit") := ⟨_, rfl⟩
    obtain ⟨k3, hk3⟩ : ∃ b, b = decide (n = "TooMany") := ⟨_, rfl⟩
    obtain ⟨k4, hk4⟩ : ∃ b, b = decide (n = "NoRoot") := ⟨_, rfl⟩
    obtain ⟨k5, hk5⟩ : ∃ b, b = decide (n = "NoRounds") := ⟨_, rfl⟩
    obtain ⟨k6, hk6⟩ : ∃ b, b = decide (n = "NoKind") := ⟨_, rfl⟩
    obtain ⟨k7, hk7⟩ : ∃ b, b = decide (n = "NoText") := ⟨_, rfl⟩
    obtain ⟨k8, hk8⟩ : ∃ b, b = decide (n = "NoName") := ⟨_, rfl⟩
    obtain ⟨k9, hk9⟩ : ∃ b, b = decide (n = "NoRow") := ⟨_, rfl⟩
    replace p0 := p0.trans (congrArg some hk0.symm)
    replace p1 := p1.trans (congrArg some hk1.symm)
    replace p2 := p2.trans (congrArg some hk2.symm)
    replace p3 := p3.trans (congrArg some hk3.symm)
    replace p4 := p4.trans (congrArg some hk4.symm)
    replace p5 := p5.trans (congrArg some hk5.symm)
    replace p6 := p6.trans (congrArg some hk6.symm)
    replace p7 := p7.trans (congrArg some hk7.symm)
    replace p8 := p8.trans (congrArg some hk8.symm)
    replace p9 := p9.trans (congrArg some hk9.symm)
    refine ⟨_, rfl, a, C, _, _, _, rfl, .inl ⟨_, rfl, rfl⟩, hH, IC, p0, _, rfl, a, C, _, _, _, rfl, .inl ⟨_, rfl, rfl⟩, hH, IC, p1, _, rfl, a, C, _, _, _, rfl, .inl ⟨_, rfl, rfl⟩, hH, IC, p2, (show 3 ≤ sizeLine by decide), fun l1 h1 => ?_⟩
    obtain ⟨H1, eH1⟩ : ∃ Hn, Hn = upd H l1 (.lst [V.bl (k0), V.bl (k1), V.bl (k2)]) := ⟨_, rfl⟩
    have sH1 : Same H H1 := eH1 ▸ Same.upd_new h1
    have gH1 : H1 l1 = some (.lst [V.bl (k0), V.bl (k1), V.bl (k2)]) := by rw [eH1]; exact upd_same
    refine eH1 ▸ (?_ : tSeq _ _ _ _ H1)
    have a1 := sH1 a _ hH
    refine ⟨_, rfl, _, rfl, a, C, _, _, _, rfl, .inl ⟨_, rfl, rfl⟩, a1, IC, p3, _, rfl, a, C, _, _, _, rfl, .inl ⟨_, rfl, rfl⟩, a1, IC, p4, _, rfl, a, C, _, _, _, rfl, .inl ⟨_, rfl, rfl⟩, a1, IC, p5, (show 3 ≤ sizeLine by decide), fun l2 h2 => ?_⟩
    obtain ⟨H2, eH2⟩ : ∃ Hn, Hn = upd H1 l2 (.lst [V.bl (k3), V.bl (k4), V.bl (k5)]) := ⟨_, rfl⟩
    have sH2 : Same H1 H2 := eH2 ▸ Same.upd_new h2
    have gH2 : H2 l2 = some (.lst [V.bl (k3), V.bl (k4), V.bl (k5)]) := by rw [eH2]; exact upd_same
    refine ⟨l1, l2, [V.bl (k0), V.bl (k1), V.bl (k2)], [V.bl (k3), V.bl (k4), V.bl (k5)], rfl, rfl, Same.upd_new h2 _ _ gH1, upd_same, (show 6 ≤ sizeLine by decide), fun l3 h3 => ?_⟩
    have h3 : H2 l3 = none := eH2 ▸ h3
    obtain ⟨H3, eH3⟩ : ∃ Hn, Hn = upd H2 l3 (.lst [V.bl (k0), V.bl (k1), V.bl (k2), V.bl (k3), V.bl (k4), V.bl (k5)]) := ⟨_, rfl⟩
    have sH3 : Same H2 H3 := eH3 ▸ Same.upd_new h3
    have gH3 : H3 l3 = some (.lst [V.bl (k0), V.bl (k1), V.bl (k2), V.bl (k3), V.bl (k4), V.bl (k5)]) := by rw [eH3]; exact upd_same
    refine (show upd (upd H1 l2 _) l3 _ = H3 by rw [eH3, eH2]) ▸ (?_ : tSeq _ _ _ _ H3)
    have a3 := sH3 a _ (sH2 a _ a1)
    refine ⟨_, rfl, _, rfl, a, C, _, _, _, rfl, .inl ⟨_, rfl, rfl⟩, a3, IC, p6, _, rfl, a, C, _, _, _, rfl, .inl ⟨_, rfl, rfl⟩, a3, IC, p7, _, rfl, a, C, _, _, _, rfl, .inl ⟨_, rfl, rfl⟩, a3, IC, p8, (show 3 ≤ sizeLine by decide), fun l4 h4 => ?_⟩
    obtain ⟨H4, eH4⟩ : ∃ Hn, Hn = upd H3 l4 (.lst [V.bl (k6), V.bl (k7), V.bl (k8)]) := ⟨_, rfl⟩
    have sH4 : Same H3 H4 := eH4 ▸ Same.upd_new h4
    have gH4 : H4 l4 = some (.lst [V.bl (k6), V.bl (k7), V.bl (k8)]) := by rw [eH4]; exact upd_same
    refine ⟨l3, l4, [V.bl (k0), V.bl (k1), V.bl (k2), V.bl (k3), V.bl (k4), V.bl (k5)], [V.bl (k6), V.bl (k7), V.bl (k8)], rfl, rfl, Same.upd_new h4 _ _ gH3, upd_same, (show 9 ≤ sizeLine by decide), fun l5 h5 => ?_⟩
    have h5 : H4 l5 = none := eH4 ▸ h5
    obtain ⟨H5, eH5⟩ : ∃ Hn, Hn = upd H4 l5 (.lst [V.bl (k0), V.bl (k1), V.bl (k2), V.bl (k3), V.bl (k4), V.bl (k5), V.bl (k6), V.bl (k7), V.bl (k8)]) := ⟨_, rfl⟩
    have sH5 : Same H4 H5 := eH5 ▸ Same.upd_new h5
    have gH5 : H5 l5 = some (.lst [V.bl (k0), V.bl (k1), V.bl (k2), V.bl (k3), V.bl (k4), V.bl (k5), V.bl (k6), V.bl (k7), V.bl (k8)]) := by rw [eH5]; exact upd_same
    refine (show upd (upd H3 l4 _) l5 _ = H5 by rw [eH5, eH4]) ▸ (?_ : tSeq _ _ _ _ H5)
    have a5 := sH5 a _ (sH4 a _ a3)
    refine ⟨_, rfl, .inl ⟨rfl, _, SqL.of gH5⟩, _, rfl, a, C, _, _, _, rfl, .inl ⟨_, rfl, rfl⟩, a5, IC, p9, l5, _, _, rfl, rfl, gH5, (show 10 ≤ sizeLine by decide), ?_⟩
    have S5 : Same H H4 := sH1.trans (sH2.trans (sH3.trans sH4))
    obtain ⟨H6, eH6⟩ : ∃ Hn, Hn = upd H5 l5 (.lst [V.bl (k0), V.bl (k1), V.bl (k2), V.bl (k3), V.bl (k4), V.bl (k5), V.bl (k6), V.bl (k7), V.bl (k8), V.bl (k9)]) := ⟨_, rfl⟩
    have gH6 : H6 l5 = some (.lst [V.bl (k0), V.bl (k1), V.bl (k2), V.bl (k3), V.bl (k4), V.bl (k5), V.bl (k6), V.bl (k7), V.bl (k8), V.bl (k9)]) := by rw [eH6]; exact upd_same
    have s6 : Same H H6 := eH6 ▸ (S5.trans sH5).upd_r (S5.free h5)
    have a6 := s6 a _ hH
    refine eH6 ▸ (?_ : tSeq _ _ _ _ H6)
    obtain ⟨kl, fl, cnt, j, hj, wj, kj, kb⟩ := word_at hn (ks := [V.bl (k0), V.bl (k1), V.bl (k2), V.bl (k3), V.bl (k4), V.bl (k5), V.bl (k6), V.bl (k7), V.bl (k8), V.bl (k9)]) (by rw [hk0, hk1, hk2, hk3, hk4, hk5, hk6, hk7, hk8, hk9])
    generalize [V.bl (k0), V.bl (k1), V.bl (k2), V.bl (k3), V.bl (k4), V.bl (k5), V.bl (k6), V.bl (k7), V.bl (k8), V.bl (k9)] = ks at gH6 kl fl cnt kj kb
    refine ⟨_, rfl, .inl ⟨rfl, _, SqL.of gH6⟩, ⟨l5, ks, .bl true, rfl, rfl, rfl, fl, gH6, ?_⟩⟩
    rw [cnt]
    refine ⟨rfl, _, rfl, ?_⟩
    refine iteF ⟨_, rfl, a, C, _, _, _, rfl, .inr ⟨_, rfl, rfl⟩, a6, IC, ER.ve (n, C) hn, _, rfl, ?_⟩
    refine iteF ?_
    refine ⟨(show 10 ≤ sizeLine by decide), fun l7 h7 => ?_⟩
    have hjk : j < ks.length := (List.getElem?_eq_some_iff.mp kj).1
    refine ⟨_, rfl, _, rfl, .inl ⟨rfl, _, SqL.of (Same.upd_new h7 _ _ gH6)⟩, ⟨l5, ks, .bl true, j, rfl, rfl, rfl, fl, Same.upd_new h7 _ _ gH6, ⟨_, kj, rfl⟩, fun i y hi e => ?_, ?_, ?_⟩⟩
    · rw [kb i hi] at e
      cases e
      rfl
    · omega
    · refine ⟨l7, _, _, _, rfl, rfl, SqL.of upd_same, atI_nat (by rw [List.getElem?_map, wj]; rfl), q _ (s6.trans (Same.upd_new h7))⟩
end
end My
namespace My
open PySem L2 Mth
section
variable {P : Program} {w : World} {K : PySem.W.Frag} {mg : Str → Option Value} {base : Heap} {q_TurnError q_NoTurn q_NoFit q_NoRounds q_NoNumber q_NoRoot q_TooMany q_NoKind q_NoText q_NoName q_NoRow : Addr}
def spOneX (q : Addr) : Sp := fun vs H _ E => ∃ (n : Int), vs = [.int n] ∧ n < 1 ∧ E (.ref q) none H
theorem sc_must_be_from_one : FnScope ["number"] ["number"] (defScope s_must_be_from_one) := scOne
theorem okx_must_be_from_one {f : Addr} {fd : FuncData} (F : Fun K "must_be_from_one" "must_be_from_one" s_must_be_from_one f fd) (c_is_whole : Cal P w K mg base "is_whole" 1 ["thing"] (spWhole K)) (e_NoNumber : Err K mg "NoNumber" q_NoNumber) : FnOk P w K mg base (CX1 P w) 2 f fd ["number"] (spOneX q_NoNumber) := by
  refine F.okx sc_must_be_from_one (fun vs H Q E h => ?_) (fun cdv A outer s H vs Q E hr h => ?_)
  · obtain ⟨n, rfl, hn, q⟩ := h
    rfl
  · obtain ⟨n, rfl, hn, q⟩ := h
    have hr_is_whole : Room 1 _ := hr.mono (by decide)
    refine ⟨_, @pss_one _ _ _ (@ps_if _ _ _ _ _ _ _ _ (@pw_or _ _ _ _ _ _ _ (@pt_not _ _ _ _ (@pt_val _ _ _ (@pe_cal _ _ _ _ _ _ _ _ _ _ c_is_whole hr_is_whole (@pa_cons _ _ _ _ _ (pv 0) (@pa_nil _) (by rfl)) (by rfl) (by decide) (by rfl) (by rfl)) (by intro _; rfl))) (@pw_or1 _ _ _ _ (@pt_cmpR _ _ _ _ _ _ _ _ op_lt (pv 0) (@pe_int _ _ _ _) (nomark _)))).pt (@pss_one _ _ _ (@ps_raise _ _ _ _ _ _ _ _ _ raises_cx rfl e_NoNumber (@pe_str _ _ _ _) (by rfl) (by rfl) (by decide))) (@pss_nil _)), ?_⟩
    refine ⟨_, rfl, .int n, _, true, false, rfl, .int n, kit_same K "int", kit_int_bool K, true, rfl, ?_⟩
    refine iteF ⟨_, rfl, _, _, rfl, rfl, _, rfl, ?_⟩
    rw [decide_eq_true hn]
    exact iteT q
end
end My
namespace My
open PySem L2 Mth
section
variable {P : Program} {w : World} {K : PySem.W.Frag} {mg : Str → Option Value} {base : Heap} {q_TurnError q_NoTurn q_NoFit q_NoRounds q_NoNumber q_NoRoot q_TooMany q_NoKind q_NoText q_NoName q_NoRow : Addr}
def OddV (K : PySem.W.Frag) (H : Hp) (x : V) : Prop := ∃ t b1 b2, TyOf K H x t ∧ PySem.W.kitOne K t (.type "int") = some b1 ∧ PySem.W.kitOne K t (.type "bool") = some b2 ∧ (b1 && !b2) = false
def NoTurnV (K : PySem.W.Frag) (H : Hp) (v : V) : Prop := (∃ t, TyOf K H v t ∧ PySem.W.kitOne K t (.type "list") = some false) ∨
  ∃ (a : Addr) (xs : List V), v = .ref a ∧ H a = some (.lst xs) ∧ (∀ x ∈ xs, (∃ i : Int, x = .int i) ∨ OddV K H x) ∧ ∀ p : List Int, xs = p.map V.int → p.length ≤ 40 → ¬ IsT p
theorem tyOf_same {K : PySem.W.Frag} {H H' : Hp} {v : V} {t : Value} (h : TyOf K H v t) (s : Same H H') : TyOf K H' v t := by
  cases h with
  | non => exact .non
  | bl x => exact .bl x
  | int i => exact .int i
  | str x => exact .str x
  | flt x => exact .flt x
  | lst e => exact .lst (s _ _ e)
  | frz e => exact .frz (s _ _ e)
  | tup e => exact .tup (s _ _ e)
  | dK e => exact .dK (s _ _ e)
  | dT e => exact .dT (s _ _ e)
  | ins e a b c d f => exact .ins (s _ _ e) a b c d f
theorem OddV.keep {K : PySem.W.Frag} {H H' : Hp} {x : V} (h : OddV K H x) (s : Same H H') : OddV K H' x := by
  obtain ⟨t, b1, b2, ty, r⟩ := h
  exact ⟨t, b1, b2, tyOf_same ty s, r⟩
theorem NoTurnV.keep {K : PySem.W.Frag} {H H' : Hp} {v : V} (h : NoTurnV K H v) (s : Same H H') : NoTurnV K H' v := by
  rcases h with ⟨t, ty, r⟩ | ⟨a, xs, e, ha, el, no⟩
  · exact .inl ⟨t, tyOf_same ty s, r⟩
  · exact .inr ⟨a, xs, e, s _ _ ha, fun x hx => (el x hx).imp id fun z => z.keep s, no⟩
def spTurnX (K : PySem.W.Frag) : Sp := fun vs H Q _ => ∃ v, vs = [v] ∧ NoTurnV K H v ∧ ∀ H', Same H H' → Q (.bl false) H'
theorem sc_is_turn : FnScope ["thing", "seen", "place"] ["thing"] (defScope s_is_turn) := ⟨rfl, rfl, rfl, by decide +kernel, rfl, by decide +kernel, by decide +kernel⟩
theorem ok_is_turn {f : Addr} {fd : FuncData} (F : Fun K "is_turn" "is_turn" s_is_turn f fd) (B : Bl mg) (g_MOST_THINGS : ∃ t, mg "MOST_THINGS" = some (.int 40 t)) (c_is_whole : Cal P w K mg base "is_whole" 1 ["thing"] (spWhole K)) : FnOk P w K mg base CX0 2 f fd ["thing"] (spTurnX K) := by
  refine F.ok sc_is_turn (fun vs H Q E h => ?_) (fun cdv A outer s H vs Q E hr h => ?_)
  · obtain ⟨v, rfl, no, k⟩ := h
    rfl
  · obtain ⟨v, rfl, no, k⟩ := h
    obtain ⟨_, m_MOST_THINGS⟩ := g_MOST_THINGS
    have hr_is_whole : Room 1 _ := hr.mono (by decide)
    have hu := hu_of hr
    refine ⟨_, @pss_cons _ _ _ _ _ (@ps_if _ _ _ _ _ _ _ _ (@pw_or _ _ _ _ _ _ _ (@pt_not _ _ _ _ (@pt_val _ _ _ (@pe_isi _ _ _ _ _ _ B.isi (@pa_cons _ _ _ _ _ (pv 0) (@pa_cons _ _ _ _ _ (@pe_tyList _ _ B.list (by rfl)) (@pa_nil _) (by rfl)) (by rfl)) (by rfl) (by rfl) (by rfl)) (by intro _; rfl))) (@pw_or1 _ _ _ _ (@pt_cmpR _ _ _ _ _ _ _ _ op_gt (@pe_lenL _ _ _ _ _ B.len (@pa_cons _ _ _ _ _ (pv 0) (@pa_nil _) (by rfl)) (by rfl) (by rfl)) (@pe_glob _ _ (.int 40) _ _ (by rfl) m_MOST_THINGS ⟨_, rfl⟩ (by decide)) (nomark _)))).pt (@pss_one _ _ _ (@ps_ret _ _ _ _ (@pe_bl _ _ _ _))) (@pss_nil _)) (@pss_cons _ _ _ _ _ (@ps_set _ _ (1) _ _ _ _ sc_is_turn.nd rfl (Or.inl rfl) (@pe_dnewK _ _) (by rfl) (by first | exact .inl rfl | exact .inr rfl | assumption)) (@pss_cons _ _ _ _ _ (@ps_for _ _ _ _ _ _ _ _ PassesOwn.never rfl (@pi_list _ _ _ _ (pv 0)) (@pg_name _ _ (2) _ sc_is_turn.nd rfl (Or.inl rfl) (by first | exact .inl rfl | exact .inr rfl | assumption)) (@pss_cons _ _ _ _ _ (@ps_if _ _ _ _ _ _ _ _ (@pw_or _ _ _ _ _ _ _ (@pt_not _ _ _ _ (@pt_val _ _ _ (@pe_cal _ _ _ _ _ _ _ _ _ _ c_is_whole hr_is_whole (@pa_cons _ _ _ _ _ (pv 2) (@pa_nil _) (by rfl)) (by rfl) (by decide) (by rfl) (by rfl)) (by intro _; rfl))) (@pw_or _ _ _ _ _ _ _ (@pt_cmpR _ _ _ _ _ _ _ _ op_lt (pv 2) (@pe_int _ _ _ _) (nomark _)) (@pw_or _ _ _ _ _ _ _ (@pt_cmpR _ _ _ _ _ _ _ _ op_ge (pv 2) (@pe_lenL _ _ _ _ _ B.len (@pa_cons _ _ _ _ _ (pv 0) (@pa_nil _) (by rfl)) (by rfl) (by rfl)) (nomark _)) (@pw_or1 _ _ _ _ (@pt_cmp _ _ _ _ _ _ (@pc_din _ _ _ _ _ hu (pv 2) (pv 1)) (by first | exact nobehind _ (by decide) (by decide) | rfl)))))).pt (@pss_one _ _ _ (@ps_ret _ _ _ _ (@pe_bl _ _ _ _))) (@pss_nil _)) (@pss_one _ _ _ (@ps_dput _ _ _ _ _ _ _ _ _ hu (pv 1) (pv 2) (@pe_bl _ _ _ _) rfl))) (by intro _; rfl)) (@pss_one _ _ _ (@ps_ret _ _ _ _ (@pe_bl _ _ _ _))))), ?_⟩
    rcases no with ⟨t, ty, kt⟩ | ⟨a, xs, rfl, ha, el, no⟩
    · refine ⟨_, rfl, v, "list", t, false, rfl, ty, kt, false, rfl, ?_⟩
      exact iteT (k H (Same.refl H))
    · refine ⟨_, rfl, _, "list", _, true, rfl, .lst ha, kit_same K "list", true, rfl, ?_⟩
      refine iteF ⟨_, rfl, a, _, rfl, .inl (SqL.of ha), _, _, rfl, rfl, _, rfl, ?_⟩
      refine ite2 (fun h40 => k H (Same.refl H)) (fun h40 => ?_)
      have h40 : ¬ (40 : Int) < (xs.length : Int) := fun z => h40 (decide_eq_true z)
      intro d hd
      have nad : a ≠ d := ne_of_none ha hd
      have ha1 : (upd H d (.dK [])) a = some (.lst xs) := by rw [upd_ne nad]; exact ha
      refine ⟨_, rfl, a, rfl, ⟨_, SqL.of ha1⟩, for_list (K := K) (a := a) (xs := xs) (fun i σ H2 => ∃ (v : Option V) (p : List Int), σ = [some (.ref a), some (.ref d), v] ∧ Same H H2 ∧ xs.take i = p.map V.int ∧ H2 d = some (.dK (seenK p)) ∧ p.Nodup ∧ ∀ x ∈ p, 0 ≤ x ∧ x < xs.length)
        ⟨none, [], rfl, Same.upd_new hd, rfl, upd_same, List.nodup_nil, fun x hx => by simp at hx⟩ (fun i σ H2 _ ⟨_, _, _, s2, _⟩ => SqL.of (s2 a _ ha)) ?_ ?_⟩
      · rintro i y σ H2 hi ⟨v, p, rfl, s2, hp, h2, nd, bd⟩
        have ha2 := s2 a _ ha
        have hil : i < xs.length := (List.getElem?_eq_some_iff.mp hi).1
        rcases el y (List.mem_of_getElem? hi) with ⟨z, rfl⟩ | odd
        · refine ⟨_, rfl, .int z, _, true, false, rfl, .int z, kit_same K "int", kit_int_bool K, _, rfl, ?_⟩
          refine iteF ⟨_, rfl, _, _, rfl, rfl, _, rfl, ?_⟩
          refine ite2 (fun hz0 => iteT (k H2 s2)) (fun hz0 => ?_)
          have hz0 : ¬ z < 0 := fun q => hz0 (decide_eq_true q)
          refine ⟨_, rfl, _, rfl, a, _, rfl, .inl (SqL.of ha2), _, _, rfl, rfl, _, rfl, ?_⟩
          refine ite2 (fun hz1 => iteT (k H2 s2)) (fun hz1 => ?_)
          have hz1 : ¬ (xs.length : Int) ≤ z := fun q => hz1 (decide_eq_true q)
          refine ⟨_, rfl, _, rfl, d, _, rfl, DGet.k (k := Sum.inl z) h2, _, rfl, ?_⟩
          have lp : p.length ≤ i := by
            have := congrArg List.length hp
            rw [List.length_take, List.length_map] at this
            omega
          by_cases hm : z ∈ p
          · rw [seenK_in hm]
            exact iteT (k H2 s2)
          · rw [seenK_no hm]
            refine iteF ⟨_, rfl, _, rfl, d, _, rfl, DPut.k (k := Sum.inl z) h2 (small1000 (by unfold seenK; rw [List.length_map]; omega)), ?_⟩
            refine ⟨some (.int z), p ++ [z], rfl, fun b o e => by rw [upd_ne (ne_of_none e hd)]; exact s2 b o e, ?_, ?_, ?_, ?_⟩
            · rw [take_succ_of hi, hp, List.map_append]; rfl
            · rw [seenK_put hm, upd_same]
            · exact nd_snoc nd hm
            · intro x hx
              rcases List.mem_append.mp hx with q | q
              · exact bd x q
              · have : x = z := by simpa using q
                omega
        · obtain ⟨t, b1, b2, ty, e1, e2, e3⟩ := odd.keep s2
          refine ⟨_, rfl, y, t, b1, b2, rfl, ty, e1, e2, _, rfl, ?_⟩
          rw [e3]
          exact iteT (k H2 s2)
      · rintro σ H2 ⟨v, p, rfl, s2, hp, h2, nd, bd⟩
        rw [List.take_length] at hp
        have lp : xs.length = p.length := by rw [hp, List.length_map]
        exact absurd (show IsT p from ⟨nd, fun x hx => (bd x hx).1, fun x hx => by have := (bd x hx).2; omega⟩) (no p hp (by omega))
def spMustX (K : PySem.W.Frag) (q : Addr) : Sp := fun vs H _ E => ∃ v, vs = [v] ∧ NoTurnV K H v ∧ ∀ H', Same H H' → E (.ref q) none H'
theorem sc_must_be_turn : FnScope ["thing"] ["thing"] (defScope s_must_be_turn) := scMust
theorem okx_must_be_turn {f : Addr} {fd : FuncData} (F : Fun K "must_be_turn" "must_be_turn" s_must_be_turn f fd) (c_is_turn : Cal P w K mg base "is_turn" 2 ["thing"] (orSp spIsTurn (spTurnX K))) (e_NoTurn : Err K mg "NoTurn" q_NoTurn) : FnOk P w K mg base (CX1 P w) 3 f fd ["thing"] (spMustX K q_NoTurn) := by
  refine F.okx sc_must_be_turn (fun vs H Q E h => ?_) (fun cdv A outer s H vs Q E hr h => ?_)
  · obtain ⟨v, rfl, no, k⟩ := h
    rfl
  · obtain ⟨v, rfl, no, k⟩ := h
    have hr_is_turn : Room 2 _ := hr.mono (by decide)
    refine ⟨_, @pss_one _ _ _ (@ps_if _ _ _ _ _ _ _ _ (@pt_not _ _ _ _ (@pt_val _ _ _ (@pe_cal _ _ _ _ _ _ _ _ _ _ c_is_turn hr_is_turn (@pa_cons _ _ _ _ _ (pv 0) (@pa_nil _) (by rfl)) (by rfl) (by decide) (by rfl) (by rfl)) (by intro _; rfl))) (@pss_one _ _ _ (@ps_raise _ _ _ _ _ _ _ _ _ raises_cx rfl e_NoTurn (@pe_str _ _ _ _) (by rfl) (by rfl) (by decide))) (@pss_nil _)), ?_⟩
    refine ⟨_, rfl, .inr ⟨v, rfl, no, fun H' s => ⟨false, rfl, ?_⟩⟩⟩
    exact iteT (k H' s)
end
end My
namespace My
open PySem L2 Mth
section
variable {P : Program} {w : World} {K : PySem.W.Frag} {mg : Str → Option Value} {base : Heap} {q_TurnError q_NoTurn q_NoFit q_NoRounds q_NoNumber q_NoRoot q_TooMany q_NoKind q_NoText q_NoName q_NoRow : Addr}
theorem upTo_sorted (n : Nat) : (L2.upTo 0 n).Pairwise (· ≤ ·) := by
  unfold L2.upTo
  rw [List.pairwise_map]
  exact List.Pairwise.imp (fun {a b} h => by omega) List.pairwise_lt_range
theorem sorted_up {ms r : List Int} (h : ms.Perm r) (s : ms.Pairwise (· ≤ ·)) (t : IsT r) : ms = L2.upTo 0 r.length := by
  have h2 : ms.Perm (L2.upTo 0 r.length) := h.trans t.perm
  have := sorted_same (a := ms.reverse) (b := (L2.upTo 0 r.length).reverse) (((List.reverse_perm ms).trans h2).trans (List.reverse_perm _).symm) (by rw [List.pairwise_reverse]; exact s) (by rw [List.pairwise_reverse]; exact upTo_sorted _)
  exact List.reverse_inj.mp this
theorem noT_ints {H : Hp} {a : Addr} {ns : List Int} (h : H a = some (.lst (ns.map V.int))) (no : ns.length ≤ 40 → ¬ IsT ns) : NoTurnV K H (.ref a) :=
  .inr ⟨a, _, rfl, h, fun x hx => by obtain ⟨i, _, rfl⟩ := List.mem_map.mp hx; exact .inl ⟨i, rfl⟩, fun p e l => by rw [map_int_inj e] at no; exact no l⟩
theorem noT_odd {H : Hp} {a : Addr} {xs : List V} {y : V} (h : H a = some (.lst xs)) (el : ∀ x ∈ xs, (∃ i : Int, x = .int i) ∨ OddV K H x) (hy : y ∈ xs) (ny : ∀ i : Int, y = .int i → i < 0 ∨ (xs.length : Int) ≤ i) : NoTurnV K H (.ref a) :=
  .inr ⟨a, xs, rfl, h, el, fun p e l t => by
    rw [e] at hy ny
    obtain ⟨i, hi, rfl⟩ := List.mem_map.mp hy
    have h1 := t.lo i hi
    have h2 := t.hi i hi
    rcases ny i rfl with z | z
    · omega
    · rw [List.length_map] at z; omega⟩
theorem odd_bl {H : Hp} (b : Bool) : OddV K H (.bl b) := ⟨_, true, true, .bl b, kit_bool_int K, kit_same K "bool", rfl⟩
theorem odd_non {H : Hp} : OddV K H .non := ⟨_, false, false, .non, kit_none_int K, kit_none_bool K, rfl⟩
theorem odd_str {H : Hp} (x : Str) : OddV K H (.str x) := ⟨_, false, false, .str x, kit_str_int K, kit_str_bool K, rfl⟩
theorem odd_lst {H : Hp} {a : Addr} {xs : List V} (h : H a = some (.lst xs)) : OddV K H (.ref a) := ⟨_, false, false, .lst h, kit_list_int K, kit_list_bool K, rfl⟩
theorem odd_tup {H : Hp} {a : Addr} {xs : List V} (h : H a = some (.tup xs)) : OddV K H (.ref a) := ⟨_, false, false, .tup h, kit_tuple_int K, kit_tuple_bool K, rfl⟩
def SE (H : Hp) (x : V) : Prop := ∃ d, Sh H x d ∧ d.showable = true ∧ d.shown.length ≤ 2000 ∧ d.depth ≤ 3
theorem SE.keep {H H' : Hp} {x : V} (h : SE H x) (s : Same H H') : SE H' x := let ⟨d, a, r⟩ := h; ⟨d, a.keep s, r⟩
theorem log_ltk {k : Nat} (hk : 200 ≤ k) {i : Int} (h1 : -10000000000000000000000000000000000000000 ≤ i) (h2 : i ≤ 10000000000000000000000000000000000000000) : i.natAbs.log2 < k := by
  by_cases z : i.natAbs = 0
  · rw [z, Nat.log2_zero]; omega
  · refine (Nat.log2_lt z).mpr (Nat.lt_of_lt_of_le (m := 2 ^ 200) ?_ (Nat.pow_le_pow_right (by decide) hk))
    have e : (2 : Nat) ^ 200 = 1606938044258990275541962092341162602522202993782792835301376 := by decide
    rw [e]; omega
theorem log_lt {i : Int} (h1 : -10000000000000000000000000000000000000000 ≤ i) (h2 : i ≤ 10000000000000000000000000000000000000000) : i.natAbs.log2 < 1920 := log_ltk (by decide) h1 h2
theorem se_int {H : Hp} {i : Int} (h1 : -10000000000000000000000000000000000000000 ≤ i) (h2 : i ≤ 10000000000000000000000000000000000000000) : SE H (.int i) := by
  have lg := log_lt h1 h2
  refine ⟨_, .int i, by simp only [PyData.showable]; exact decide_eq_true lg, ?_, by simp only [PyData.depth]; decide⟩
  simp only [PyData.shown]
  have : (Str.ofString (toString i)).length ≤ 1921 := by
    rw [ofString_length]; exact int_text_length_le (k := 1920) (by decide) lg
  exact Nat.le_trans this (by decide)
theorem se_all {H : Hp} : ∀ {xs : List V}, (∀ x ∈ xs, SE H x) → ∃ ds, ShA H xs ds ∧ PyData.showableAll ds = true ∧ (∀ t ∈ PyData.shownAll ds, t.length ≤ 2000) ∧ (PyData.shownAll ds).length = xs.length ∧ PyData.depthAll ds ≤ 3
  | [], _ => ⟨[], .nil, by simp only [PyData.showableAll], (fun t h => by simp only [PyData.shownAll] at h; cases h), by simp only [PyData.shownAll, List.length_nil], by simp only [PyData.depthAll]; decide⟩
  | x :: xs, h => by
    obtain ⟨ds, h1, h2, h3, h4, h5⟩ := se_all fun y hy => h y (List.mem_cons_of_mem _ hy)
    obtain ⟨d, g1, g2, g3, g4⟩ := h x List.mem_cons_self
    refine ⟨d :: ds, .cons g1 h1, by simp only [PyData.showableAll]; rw [g2, h2]; rfl, fun t ht => ?_, by simp only [PyData.shownAll, List.length_cons, h4], by simp only [PyData.depthAll]; omega⟩
    simp only [PyData.shownAll] at ht
    rcases List.mem_cons.mp ht with z | z
    · rw [z]; exact g3
    · exact h3 t z
theorem shd_list {H : Hp} {a : Addr} {xs : List V} (h : H a = some (.lst xs)) (hx : ∀ x ∈ xs, SE H x) (l : xs.length ≤ 1000) : ∃ d, ShD H (.ref a) d := by
  obtain ⟨ds, h1, h2, h3, h4, h5⟩ := se_all hx
  refine ⟨.list ds, .inl (.lst h h1), by simp only [PyData.showable]; exact h2, ?_, by simp only [PyData.depth]; omega⟩
  simp only [PyData.shown]
  refine Nat.le_trans (listText_le h3) ?_
  rw [h4, sizeLine_eq]
  have := Nat.mul_le_mul_right (2000 + 2) l
  omega
def BadsAt (K : PySem.W.Frag) (H : Hp) (vs : List V) : Prop := ∀ v ∈ vs, NoTurnV K H v ∧ ∃ d, ShD H v d
theorem BadsAt.keep {H H' : Hp} {vs : List V} (h : BadsAt K H vs) (s : Same H H') : BadsAt K H' vs := fun v hv => let ⟨a, d, b⟩ := h v hv; ⟨a.keep s, d, b.keep s⟩
theorem BadsAt.app {H : Hp} {vs us : List V} (h : BadsAt K H vs) (g : BadsAt K H us) : BadsAt K H (vs ++ us) := fun v hv => (List.mem_append.mp hv).elim (h v) (g v)
theorem bad_ints {H : Hp} {a : Addr} {ns : List Int} (h : H a = some (.lst (ns.map V.int))) (no : ns.length ≤ 40 → ¬ IsT ns) (l : ns.length ≤ 1000) (b : ∀ x ∈ ns, -10000000000000000000000000000000000000000 ≤ x ∧ x ≤ 10000000000000000000000000000000000000000) : NoTurnV K H (.ref a) ∧ ∃ d, ShD H (.ref a) d :=
  ⟨noT_ints h no, shd_list h (fun x hx => by obtain ⟨i, hi, rfl⟩ := List.mem_map.mp hx; exact se_int (b i hi).1 (b i hi).2) (by rw [List.length_map]; exact l)⟩
def hole (H : Hp) (g l : Addr) : Hp := fun a => if a = g ∨ a = l then none else H a
theorem hole_of {H : Hp} {g l a : Addr} {o : HO} (h : H a = some o) (ng : a ≠ g) (nl : a ≠ l) : hole H g l a = some o := by
  unfold hole
  rw [if_neg (fun z => z.elim ng nl)]; exact h
theorem hole_some {H : Hp} {g l a : Addr} {o : HO} (h : hole H g l a = some o) : H a = some o ∧ a ≠ g ∧ a ≠ l := by
  unfold hole at h
  by_cases z : a = g ∨ a = l
  · rw [if_pos z] at h; cases h
  · rw [if_neg z] at h; exact ⟨h, fun e => z (.inl e), fun e => z (.inr e)⟩
theorem hole_kb {H H' : Hp} {g l : Addr} (k : KeepBut g H H') : Same (hole H g l) (hole H' g l) := fun a o h => let ⟨e, ng, nl⟩ := hole_some h; hole_of (k a o e ng) ng nl
theorem hole_l {H : Hp} {g l : Addr} {o : HO} : Same (hole H g l) (hole (upd H l o) g l) := fun a u h => let ⟨e, ng, nl⟩ := hole_some h; hole_of (by rw [upd_ne nl]; exact e) ng nl
theorem hole_gg {H : Hp} {g l : Addr} : Same (hole H g l) (hole H g g) := fun a o h => let ⟨e, ng, _⟩ := hole_some h; hole_of e ng ng
theorem hole_same (H : Hp) (g l : Addr) : Same (hole H g l) H := fun a o h => (hole_some h).1
theorem hole_to {H H' : Hp} {g l l2 : Addr} (k : KeepBut g H H') (h : H l2 = none) : Same (hole H g l) (hole H' g l2) := fun a o e => let ⟨e1, ng, _⟩ := hole_some e; hole_of (k a o e1 ng) ng (ne_of_none e1 h)
theorem hole_mask {H H' : Hp} {g l : Addr} {o u : HO} (hg : H g = some o) (hl : H l = some u) : Same (mask H H') (hole H' g l) := fun a x e => by
  obtain ⟨e0, e1⟩ := mask_some e
  exact hole_of e1 (fun z => by rw [z, hg] at e0; cases e0) (fun z => by rw [z, hl] at e0; cases e0)
theorem sha_rows {H : Hp} : ∀ {xs : List V} {rs : List (List Int)}, ShA H xs (rs.map fun r => PyData.list (r.map PyData.int)) → ∃ as : List Addr, xs = as.map V.ref ∧ as.length = rs.length ∧ ∀ a ∈ as, ∃ ns ∈ rs, H a = some (.lst (ns.map V.int))
  | xs, [], h => by cases h; exact ⟨[], rfl, rfl, fun a ha => by cases ha⟩
  | xs, r :: rs, h => by
    cases h with
    | cons h hs =>
      obtain ⟨as, rfl, la, hr⟩ := sha_rows hs
      cases h with
      | lst e hx =>
        rename_i a ys
        have : ys = r.map V.int := by
          clear e hr hs
          induction r generalizing ys with
          | nil => cases hx; rfl
          | cons i r ih => cases hx with | cons h1 h2 => cases h1; rw [ih h2]; rfl
        refine ⟨a :: as, rfl, by simp [la], fun b hb => ?_⟩
        rcases List.mem_cons.mp hb with rfl | hb
        · exact ⟨r, List.mem_cons_self, by rw [← this]; exact e⟩
        · obtain ⟨ns, h1, h2⟩ := hr b hb
          exact ⟨ns, List.mem_cons_of_mem _ h1, h2⟩
def RowB (H : Hp) (a : Addr) : Prop := ∃ ns : List Int, H a = some (.lst (ns.map V.int)) ∧ ns.length ≤ 41 ∧ ∀ x ∈ ns, -100 ≤ x ∧ x ≤ 100
theorem RowB.keep {H H' : Hp} {a : Addr} (h : RowB H a) (s : Same H H') : RowB H' a := let ⟨ns, e, r⟩ := h; ⟨ns, s _ _ e, r⟩
def Gath (H H2 : Hp) (g l : Addr) (as : List Addr) : Prop := KeepBut g H H2 ∧ DeckAt H2 g ∧ H2 l = some (.lst (as.map V.ref)) ∧ ∀ a ∈ as, RowB (hole H2 g l) a
theorem Gath.next {H H2 H3 : Hp} {g l : Addr} {as : List Addr} (h : Gath H H2 g l as) (n : l ≠ g) (k : KeepBut g H2 H3) (d : DeckAt H3 g) : Gath H H3 g l as :=
  ⟨h.1.trans k, d, k _ _ h.2.2.1 n, fun a ha => (h.2.2.2 a ha).keep (hole_kb k)⟩
theorem Gath.app {H H2 : Hp} {g l o : Addr} {as : List Addr} (h : Gath H H2 g l as) (n : l ≠ g) (hl : H l = none) (r : RowB (hole H2 g l) o) : Gath H (upd H2 l (.lst (as.map V.ref ++ [.ref o]))) g l (as ++ [o]) :=
  ⟨h.1.upd_r hl, h.2.1.upd n.symm, by rw [upd_same, List.map_append]; rfl, fun a ha => by
    rcases List.mem_append.mp ha with z | z
    · exact (h.2.2.2 a z).keep hole_l
    · rw [List.mem_singleton.mp z]; exact r.keep hole_l⟩
theorem DeckAt.ne {H : Hp} {a b : Addr} (h : DeckAt H a) (n : H b = none) : b ≠ a := fun z => by obtain ⟨o, e⟩ := h.some; rw [← z, n] at e; cases e
def OddItem (K : PySem.W.Frag) (H : Hp) (n : Nat) (y : V) : Prop := ((∃ i : Int, y = .int i) ∨ OddV K H y) ∧ (∀ i : Int, y = .int i → i < 0 ∨ (n : Int) + 1 ≤ i) ∧ SE H y
theorem OddItem.keep {H H' : Hp} {n : Nat} {y : V} (h : OddItem K H n y) (s : Same H H') : OddItem K H' n y := ⟨h.1.imp id fun z => z.keep s, h.2.1, h.2.2.keep s⟩
theorem bad_odd {H : Hp} {a : Addr} {xs : List V} {y : V} {n : Nat} (h : H a = some (.lst xs)) (el : ∀ x ∈ xs, (∃ i : Int, x = .int i ∧ 0 ≤ i ∧ i ≤ 100) ∨ x = y) (hy : y ∈ xs) (l : xs.length ≤ n + 1) (n40 : n ≤ 40) (o : OddItem K H n y) : NoTurnV K H (.ref a) ∧ ∃ d, ShD H (.ref a) d :=
  ⟨noT_odd h (fun x hx => by
      rcases el x hx with ⟨i, e, _⟩ | e
      · exact .inl ⟨i, e⟩
      · rw [e]; exact o.1) hy (fun i e => by have := o.2.1 i e; omega),
   shd_list h (fun x hx => by
      rcases el x hx with ⟨i, e, b1, b2⟩ | e
      · rw [e]; exact se_int (by omega) (by omega)
      · rw [e]; exact o.2.2) (by omega)⟩
theorem odd_of_sh {H : Hp} {x : V} {d : PyData} (h : Sh H x d) : (∃ i : Int, x = .int i) ∨ OddV K H x := by
  cases h with
  | non => exact .inr odd_non
  | bl b => exact .inr (odd_bl b)
  | int i => exact .inl ⟨i, rfl⟩
  | str x => exact .inr (odd_str x)
  | lst e _ => exact .inr (odd_lst e)
  | tup e _ => exact .inr (odd_tup e)
def okOdd (d : PyData) : Bool := d.showable && decide (d.shown.length ≤ 2000) && decide (d.depth ≤ 3) && (match d with
  | .int i => decide (41 ≤ i)
  | _ => true)
theorem odd_data {M : Hp} {y : V} {d : PyData} {n : Nat} (n40 : n ≤ 40) (h : Sh M y d) (o : okOdd d = true) : OddItem K M n y := by
  unfold okOdd at o
  rw [Bool.and_eq_true, Bool.and_eq_true, Bool.and_eq_true] at o
  obtain ⟨⟨⟨a, b⟩, c⟩, e⟩ := o
  refine ⟨odd_of_sh h, fun i hi => ?_, d, h, a, of_decide_eq_true b, of_decide_eq_true c⟩
  subst hi
  cases h
  have := of_decide_eq_true e
  exact .inr (by omega)
theorem odds_data {M : Hp} {n : Nat} (n40 : n ≤ 40) : ∀ {xs : List V} {ds : List PyData}, ShA M xs ds → ds.all okOdd = true → ∀ y ∈ xs, OddItem K M n y
  | _, _, .nil, _, y, hy => by cases hy
  | _, _, .cons h hs, o, y, hy => by
    rw [List.all_cons, Bool.and_eq_true] at o
    rcases List.mem_cons.mp hy with z | z
    · rw [z]; exact odd_data n40 h o.1
    · exact odds_data n40 hs o.2 y z
theorem cutV_from (xs : List V) (k : Nat) : (cutV xs (some (k : Int)) none).length ≤ xs.length - k := by
  unfold cutV
  rw [HT.sIx_nat, HT.sIx_none, List.length_take, List.length_drop]
  omega
theorem cutV_mem {xs : List V} {lo hi : Option Int} {x : V} (h : x ∈ cutV xs lo hi) : x ∈ xs := by
  unfold cutV at h
  exact List.mem_of_mem_drop (List.mem_of_mem_take h)
theorem cut_content {p : List Int} {y : V} {n k : Nat} (hp : ∀ x ∈ p, 0 ≤ x ∧ x ≤ 100) (h : n ≤ k) (h2 : n ≤ p.length) : (∀ x ∈ cutV (p.map V.int) none (some (n : Int)) ++ [y] ++ cutV (p.map V.int) (some (k : Int)) none, (∃ i : Int, x = .int i ∧ 0 ≤ i ∧ i ≤ 100) ∨ x = y) ∧ y ∈ cutV (p.map V.int) none (some (n : Int)) ++ [y] ++ cutV (p.map V.int) (some (k : Int)) none ∧
    (cutV (p.map V.int) none (some (n : Int)) ++ [y] ++ cutV (p.map V.int) (some (k : Int)) none).length ≤ p.length + 1 := by
  have of : ∀ x ∈ p.map V.int, ∃ i : Int, x = .int i ∧ 0 ≤ i ∧ i ≤ 100 := fun x hx => by
    obtain ⟨i, hi, rfl⟩ := List.mem_map.mp hx
    exact ⟨i, rfl, hp i hi⟩
  refine ⟨fun x hx => ?_, by simp, ?_⟩
  · rcases List.mem_append.mp hx with z | z
    · rcases List.mem_append.mp z with z | z
      · exact .inl (of x (cutV_mem z))
      · exact .inr (List.mem_singleton.mp z)
    · exact .inl (of x (cutV_mem z))
  · have a := cutV_from (p.map V.int) k
    have b := cut_to (p.map V.int) n (by rw [List.length_map]; exact h2)
    rw [b, List.length_append, List.length_append, List.length_take, List.length_singleton]
    rw [List.length_map] at a ⊢
    omega
theorem leq_self (K : PySem.W.Frag) (H : Hp) (n : Nat) (xs : List V) (h : xs.all flatV = true) (h2 : ∀ x ∈ xs, eqV x x = true) : LEq K H n xs xs true := by
  refine .inr ⟨fun _ => true, rfl, fun j x y e1 e2 => ?_, by rw [eq_comm, all_range_iff]; exact fun _ _ => rfl⟩
  rw [e1] at e2
  cases e2
  have m := List.mem_of_getElem? e1
  rw [← h2 x m]
  exact .flat (List.all_eq_true.mp h x m) (List.all_eq_true.mp h x m)
def spSpoilt (K : PySem.W.Frag) (most : Nat) : Sp := fun vs H Q _ => ∃ (g pa : Addr) (p : List Int), vs = [.ref g, .ref pa] ∧ DeckAt H g ∧ pa ≠ g ∧ TurnAt H pa p ∧ ∀ (l : Addr) (xs : List V) (H' : Hp), H l = none → KeepBut g H H' → DeckAt H' g → H' l = some (.lst xs) → xs.length ≤ most → BadsAt K (hole H' g g) xs → Q (.ref l) H'
theorem sc_law_spoilt : FnScope ["deck", "p", "found", "many", "one", "k", "at", "other", "odd"] ["deck", "p"] (defScope s_law_spoilt) := ⟨rfl, rfl, rfl, by decide +kernel, rfl, by decide +kernel, by decide +kernel⟩
theorem nd_thing_deck_p_law_spoilt : (["thing", "deck", "p"] : List Str).Nodup := by decide +kernel
theorem nd_k_thing_other_at_law_spoilt : (["k", "thing", "other", "at"] : List Str).Nodup := by decide +kernel
theorem nd_one_law_spoilt : (["one"] : List Str).Nodup := by decide +kernel
theorem ok_law_spoilt {f : Addr} {fd : FuncData} (F : Fun K "_law_spoilt" "_law_spoilt" s_law_spoilt f fd) (B : Bl mg) (c_law_next : Cal P w K mg base "_law_next" 1 ["deck"] spNext) : FnOk P w K mg base CX0 2 f fd ["deck", "p"] (spSpoilt K 40) := by
  refine F.ok sc_law_spoilt (fun vs H Q E h => ?_) (fun cdv A outer s H vs Q E hr h => ?_)
  · obtain ⟨g, pa, p, rfl, hg, npg, tp, q⟩ := h
    rfl
  · obtain ⟨g, pa, p, rfl, hg, npg, tp, q⟩ := h
    have hr_law_next : Room 1 _ := hr.mono (by decide)
    have hu := hu_of hr
    refine ⟨_, @xb_pre _ _ _ _ _ (@ps_set _ _ (2) _ _ _ _ sc_law_spoilt.nd rfl (Or.inl rfl) (@pe_lst _ _ _ _ (@pa_first _ 9 2 _ _ [.list [.int (1), .int (1), .int (1)], .list [.int (0), .int (0), .int (3), .int (3)]] (by rfl) (@pa_cons _ _ _ _ _ (@pe_op _ _ _ _ _ _ _ _ op_rep (@pe_lst _ _ _ _ (@pa_cons _ _ _ _ _ (@pe_int _ _ _ _) (@pa_nil _) (by rfl))) (@pe_int _ _ _ _)) (@pa_data _ 9 _ [.list [.int (0), .int (1), .int (0)], .list [.int (0), .int (2), .int (2)]] (by rfl)) (by rfl)))) (by rfl) (by first | exact .inl rfl | exact .inr rfl | assumption)) (@xb_cons _ _ _ _ _ (@xb_litsT _ _ _ _ _ _ _ _ _ [1, 2, 3, 9] (by decide +kernel) rfl PassesOwn.never (@pg_name _ _ (3) _ sc_law_spoilt.nd rfl (Or.inl rfl) (by first | exact .inl rfl | exact .inr rfl | assumption)) (@pss_cons _ _ _ _ _ (@ps_set _ _ (4) _ _ _ _ sc_law_spoilt.nd rfl (Or.inl rfl) (@pe_listOf _ _ _ _ _ B.list (@pa_cons _ _ _ _ _ (pv 1) (@pa_nil _) (by rfl)) (by rfl) (by rfl)) (by rfl) (by first | exact .inl rfl | exact .inr rfl | assumption)) (@pss_cons _ _ _ _ _ (@ps_for _ _ _ _ _ _ _ _ PassesOwn.never rfl (@pi_range1 _ _ _ _ _ _ (by rfl) B.range (@pa_cons _ _ _ _ _ (@pe_op _ _ _ _ _ _ _ _ op_mul (pv 3) (@pe_intB _ _ _ _ _ B.int (@pa_cons _ _ _ _ _ (@pe_cmpR _ _ _ _ _ _ _ _ (op_neL 0 hu) (pv 1) (@pe_lst _ _ _ _ (@pa_nil _)) (nomark _)) (@pa_nil _) (by rfl)) (by rfl) (by rfl))) (@pa_nil _) (by rfl)) (by rfl)) (@pg_name _ _ (5) _ sc_law_spoilt.nd rfl (Or.inl rfl) (by first | exact .inl rfl | exact .inr rfl | assumption)) (@pss_one _ _ _ (@ps_asg _ _ _ _ _ _ (@pe_op _ _ _ _ _ _ _ _ op_mod (@pe_cal _ _ _ _ _ _ _ _ _ _ c_law_next hr_law_next (@pa_cons _ _ _ _ _ (pv 0) (@pa_nil _) (by rfl)) (by rfl) (by decide) (by rfl) (by rfl)) (@pe_lenL _ _ _ _ _ B.len (@pa_cons _ _ _ _ _ (pv 1) (@pa_nil _) (by rfl)) (by rfl) (by rfl))) (@pg_sub _ _ _ _ _ _ _ (pv 4) (@pe_op _ _ _ _ _ _ _ _ op_mod (@pe_cal _ _ _ _ _ _ _ _ _ _ c_law_next hr_law_next (@pa_cons _ _ _ _ _ (pv 0) (@pa_nil _) (by rfl)) (by rfl) (by decide) (by rfl) (by rfl)) (@pe_lenL _ _ _ _ _ B.len (@pa_cons _ _ _ _ _ (pv 1) (@pa_nil _) (by rfl)) (by rfl) (by rfl))) set_list (by intro _; rfl)) (by rfl) (by rfl) (by rfl))) (by intro _; rfl)) (@pss_one _ _ _ (@ps_expr _ _ _ _ (@pe_append _ _ _ _ _ _ _ (pv 2) (@pa_cons _ _ _ _ _ (pv 4) (@pa_nil _) (by rfl)) (by rfl) (by rfl) (by rfl) (by rfl) (by rfl)) (by rfl))))) (by intro _; rfl)) (@pss_cons _ _ _ _ _ (@ps_expr _ _ _ _ (@pe_append _ _ _ _ _ _ _ (pv 2) (@pa_cons _ _ _ _ _ (@pe_comp _ _ _ _ _ _ _ _ _ _ _ (["thing", "deck", "p"]) (1) ([0, 1]) rfl .of (@pi_list _ _ _ _ (pv 1)) (fun _ _ _ _ _ => @pg_name _ _ (0) _ nd_thing_deck_p_law_spoilt rfl (Or.inl rfl) (by first | exact .inl rfl | exact .inr rfl | assumption)) (fun _ _ _ _ _ => (@pifs_nil _)) (fun _ _ _ _ _ => (@pe_op _ _ _ _ _ _ _ _ op_mod (@pe_cal _ _ _ _ _ _ _ _ _ _ c_law_next hr_law_next (@pa_cons _ _ _ _ _ (pv 1) (@pa_nil _) (by rfl)) (by rfl) (by decide) (by rfl) (by rfl)) (@pe_lenLK _ _ _ _ _ K (by exact B.len) (@pa_cons _ _ _ _ _ (pv 2) (@pa_nil _) (by rfl)) (by rfl) (by rfl) (by rfl)))) (by intro _; rfl)) (@pa_nil _) (by rfl)) (by rfl) (by rfl) (by rfl) (by rfl) (by rfl)) (by rfl)) (@pss_cons _ _ _ _ _ (@ps_set _ _ (6) _ _ _ _ sc_law_spoilt.nd rfl (Or.inr rfl) (@pe_op _ _ _ _ _ _ _ _ op_mod (@pe_cal _ _ _ _ _ _ _ _ _ _ c_law_next hr_law_next (@pa_cons _ _ _ _ _ (pv 0) (@pa_nil _) (by rfl)) (by rfl) (by decide) (by rfl) (by rfl)) (@pe_max2 _ _ _ _ _ _ rfl B.max (@pa_cons _ _ _ _ _ (@pe_int _ _ _ _) (@pa_cons _ _ _ _ _ (@pe_lenL _ _ _ _ _ B.len (@pa_cons _ _ _ _ _ (pv 1) (@pa_nil _) (by rfl)) (by rfl) (by rfl)) (@pa_nil _) (by rfl)) (by rfl)) (by rfl) (by rfl) (by rfl))) (by rfl) (by first | exact .inl rfl | exact .inr rfl | assumption)) (@pss_cons _ _ _ _ _ (@ps_set _ _ (7) _ _ _ _ sc_law_spoilt.nd rfl (Or.inr rfl) (@pe_op _ _ _ _ _ _ _ _ op_mod (@pe_cal _ _ _ _ _ _ _ _ _ _ c_law_next hr_law_next (@pa_cons _ _ _ _ _ (pv 0) (@pa_nil _) (by rfl)) (by rfl) (by decide) (by rfl) (by rfl)) (@pe_max2 _ _ _ _ _ _ rfl B.max (@pa_cons _ _ _ _ _ (@pe_int _ _ _ _) (@pa_cons _ _ _ _ _ (@pe_lenL _ _ _ _ _ B.len (@pa_cons _ _ _ _ _ (pv 1) (@pa_nil _) (by rfl)) (by rfl) (by rfl)) (@pa_nil _) (by rfl)) (by rfl)) (by rfl) (by rfl) (by rfl))) (by rfl) (by first | exact .inl rfl | exact .inr rfl | assumption)) (@pss_cons _ _ _ _ _ (@ps_expr _ _ _ _ (@pe_append _ _ _ _ _ _ _ (pv 2) (@pa_cons _ _ _ _ _ (@pe_comp _ _ _ _ _ _ _ _ _ _ _ (["k", "thing", "other", "at"]) (2) ([7, 6]) rfl .of (@pi_enum _ _ _ _ _ _ _ _ B.enum (@pa_cons _ _ _ _ _ (pv 1) (@pa_nil _) (by rfl)) (by rfl) (by rfl)) (fun _ _ _ _ _ => @pg_tupK K _ _ _ _ (2) _ rfl (@pgs_cons _ _ _ _ _ (@pg_name _ _ (0) _ nd_k_thing_other_at_law_spoilt rfl (Or.inl rfl) (by first | exact .inl rfl | exact .inr rfl | assumption)) (@pgs_cons _ _ _ _ _ (@pg_name _ _ (1) _ nd_k_thing_other_at_law_spoilt rfl (Or.inl rfl) (by first | exact .inl rfl | exact .inr rfl | assumption)) (@pgs_nil _) (by rfl)) (by rfl)) (by rfl) (by rfl) (by rfl)) (fun _ _ _ _ _ => (@pifs_nil _)) (fun _ _ _ _ _ => (@pe_op _ _ _ _ _ _ _ _ op_sub (@pe_op _ _ _ _ _ _ _ _ op_add (pv 1) (@pe_intB _ _ _ _ _ B.int (@pa_cons _ _ _ _ _ (@pe_cmpR _ _ _ _ _ _ _ _ op_eq (pv 0) (pv 3) (nomark _)) (@pa_nil _) (by rfl)) (by rfl) (by rfl))) (@pe_intB _ _ _ _ _ B.int (@pa_cons _ _ _ _ _ (@pe_cmpR _ _ _ _ _ _ _ _ op_eq (pv 0) (pv 2) (nomark _)) (@pa_nil _) (by rfl)) (by rfl) (by rfl)))) (by intro _; rfl)) (@pa_nil _) (by rfl)) (by rfl) (by rfl) (by rfl) (by rfl) (by rfl)) (by rfl)) (@pss_cons _ _ _ _ _ (@ps_setC _ (2) _ _ _ _ _ _ _ _ _ _ _ _ _ (["one"]) (1) ([]) sc_law_spoilt.nd rfl (Or.inl rfl) rfl .of (@pi_list _ _ _ _ (pv 2)) (fun _ _ _ _ _ => @pg_name _ _ (0) _ nd_one_law_spoilt rfl (Or.inl rfl) (by first | exact .inl rfl | exact .inr rfl | assumption)) (fun _ _ _ _ _ => @pifs_one _ _ _ (@pt_cmpR _ _ _ _ _ _ _ _ (op_neLK K 0 hu) (@pe_sortedK _ _ _ _ _ K B.sorted (@pa_cons _ _ _ _ _ (pv 0) (@pa_nil _) (by rfl)) (by rfl) (by rfl) (by rfl)) (@pe_listRng _ _ _ _ _ _ _ rfl B.list B.range (@pa_cons _ _ _ _ _ (@pe_lenLK _ _ _ _ _ K (by exact B.len) (@pa_cons _ _ _ _ _ (pv 0) (@pa_nil _) (by rfl)) (by rfl) (by rfl) (by rfl)) (@pa_nil _) (by rfl)) (by rfl) (by rfl) (by rfl) (by rfl)) (nomark _))) (fun _ _ _ _ _ => (pv 0)) (by rfl) (by intro _; rfl) (by first | exact .inl rfl | exact .inr rfl | assumption)) (@pss_cons _ _ _ _ _ (@ps_for _ _ _ _ _ _ _ _ PassesOwn.never rfl (@pi_list _ _ _ _ (@pe_lst _ _ _ _ (@pa_cons _ _ _ _ _ (@pe_un _ _ _ _ _ _ un_neg (@pe_int _ _ _ _)) (@pa_cons _ _ _ _ _ (@pe_op _ _ _ _ _ _ _ _ op_sub (@pe_un _ _ _ _ _ _ un_neg (@pe_int _ _ _ _)) (@pe_lenL _ _ _ _ _ B.len (@pa_cons _ _ _ _ _ (pv 1) (@pa_nil _) (by rfl)) (by rfl) (by rfl))) (@pa_cons _ _ _ _ _ (@pe_un _ _ _ _ _ _ un_neg (@pe_op _ _ _ _ _ _ _ _ op_pow (@pe_int _ _ _ _) (@pe_int _ _ _ _))) (@pa_cons _ _ _ _ _ (@pe_op _ _ _ _ _ _ _ _ op_add (@pe_lenL _ _ _ _ _ B.len (@pa_cons _ _ _ _ _ (pv 1) (@pa_nil _) (by rfl)) (by rfl) (by rfl)) (@pe_int _ _ _ _)) (@pa_data _ 9 _ [.int (100000000000000000000), .bool true, .bool false, .none, .str "0", .list [.int (0)], .tuple [.int (0)]] (by rfl)) (by rfl)) (by rfl)) (by rfl)) (by rfl)))) (@pg_name _ _ (8) _ sc_law_spoilt.nd rfl (Or.inl rfl) (by first | exact .inl rfl | exact .inr rfl | assumption)) (@pss_cons _ _ _ _ _ (@ps_set _ _ (6) _ _ _ _ sc_law_spoilt.nd rfl (Or.inr rfl) (@pe_op _ _ _ _ _ _ _ _ op_mod (@pe_cal _ _ _ _ _ _ _ _ _ _ c_law_next hr_law_next (@pa_cons _ _ _ _ _ (pv 0) (@pa_nil _) (by rfl)) (by rfl) (by decide) (by rfl) (by rfl)) (@pe_max2 _ _ _ _ _ _ rfl B.max (@pa_cons _ _ _ _ _ (@pe_int _ _ _ _) (@pa_cons _ _ _ _ _ (@pe_lenL _ _ _ _ _ B.len (@pa_cons _ _ _ _ _ (pv 1) (@pa_nil _) (by rfl)) (by rfl) (by rfl)) (@pa_nil _) (by rfl)) (by rfl)) (by rfl) (by rfl) (by rfl))) (by rfl) (by first | exact .inl rfl | exact .inr rfl | assumption)) (@pss_one _ _ _ (@ps_expr _ _ _ _ (@pe_append _ _ _ _ _ _ _ (pv 2) (@pa_cons _ _ _ _ _ (@pe_ix _ _ _ _ _ _ _ ix_list (@pe_lst _ _ _ _ (@pa_cons _ _ _ _ _ (@pe_op _ _ _ _ _ _ _ _ op_cat (@pe_op _ _ _ _ _ _ _ _ op_cat (@pe_slice _ _ _ _ _ _ _ _ _ _ sl_list (pv 1) (@po_none _) (@po_some _ _ _ (pv 6))) (@pe_lst _ _ _ _ (@pa_cons _ _ _ _ _ (pv 8) (@pa_nil _) (by rfl)))) (@pe_slice _ _ _ _ _ _ _ _ _ _ sl_list (pv 1) (@po_some _ _ _ (@pe_op _ _ _ _ _ _ _ _ op_add (pv 6) (@pe_int _ _ _ _))) (@po_none _))) (@pa_cons _ _ _ _ _ (@pe_op _ _ _ _ _ _ _ _ op_cat (@pe_op _ _ _ _ _ _ _ _ op_cat (@pe_slice _ _ _ _ _ _ _ _ _ _ sl_list (pv 1) (@po_none _) (@po_some _ _ _ (pv 6))) (@pe_lst _ _ _ _ (@pa_cons _ _ _ _ _ (pv 8) (@pa_nil _) (by rfl)))) (@pe_slice _ _ _ _ _ _ _ _ _ _ sl_list (pv 1) (@po_some _ _ _ (pv 6)) (@po_none _))) (@pa_nil _) (by rfl)) (by rfl))) (@pe_op _ _ _ _ _ _ _ _ op_mod (@pe_cal _ _ _ _ _ _ _ _ _ _ c_law_next hr_law_next (@pa_cons _ _ _ _ _ (pv 0) (@pa_nil _) (by rfl)) (by rfl) (by decide) (by rfl) (by rfl)) (@pe_int _ _ _ _)) (fun _ _ => rfl)) (@pa_nil _) (by rfl)) (by rfl) (by rfl) (by rfl) (by rfl) (by rfl)) (by rfl)))) (by intro _; rfl)) (@pss_one _ _ _ (@ps_ret _ _ _ _ (pv 2)))))))))), ?_⟩
    have tpa := tp.1
    have p40 := tp.2.2
    refine fun xs0 H0 s0 sa0 => ?_
    refine ⟨(show 1 ≤ sizeLine by decide), fun l8 hl8 => ?_⟩
    have s1 : Same H0 (upd H0 l8 (.lst [V.int 8])) := Same.upd_new hl8
    have h1l8 : (upd H0 l8 (.lst [V.int 8])) l8 = some (.lst [V.int 8]) := by rw [upd_same]
    generalize (upd H0 l8 (.lst [V.int 8])) = H1 at s1 h1l8 ⊢
    refine ⟨l8, 17, _, rfl, rfl, h1l8, by decide, by decide, (show 17 ≤ sizeLine by decide), fun l9 hl9 => ?_⟩
    have s2 : Same H1 (upd H1 l9 (.lst ((List.replicate (17 : Int).toNat [V.int 8]).flatten))) := Same.upd_new hl9
    have h2l9 : (upd H1 l9 (.lst ((List.replicate (17 : Int).toNat [V.int 8]).flatten))) l9 = some (.lst ((List.replicate 17 (8 : Int)).map V.int)) := by rw [upd_same]; rfl
    generalize (upd H1 l9 (.lst ((List.replicate (17 : Int).toNat [V.int 8]).flatten))) = H2 at s2 h2l9 ⊢
    refine fun xs3 H3 s3 sa3 => ?_
    obtain ⟨as0, rfl, la0, ra0⟩ := sha_rows (rs := [[1, 1, 1], [0, 0, 3, 3]]) sa0
    obtain ⟨as3, rfl, la3, ra3⟩ := sha_rows (rs := [[0, 1, 0], [0, 2, 2]]) sa3
    have la0 : as0.length = 2 := la0
    have la3 : as3.length = 2 := la3
    refine ⟨by rw [List.length_append, List.length_cons, List.length_map, List.length_map, la0, la3]; decide, fun l hl => ?_⟩
    have s03 : Same H H3 := s0.trans (s1.trans (s2.trans s3))
    have hl0 : H l = none := s03.free hl
    have nlg : l ≠ g := hg.ne hl0
    have G0 : Gath H (upd H3 l (.lst (as0.map V.ref ++ V.ref l9 :: as3.map V.ref))) g l (as0 ++ l9 :: as3) := by
      have s4 : Same H3 (upd H3 l (.lst (as0.map V.ref ++ V.ref l9 :: as3.map V.ref))) := Same.upd_new hl
      refine ⟨(s03.trans s4).but g, (hg.same (s03.trans s4)), by rw [upd_same, List.map_append]; rfl, fun a ha => ?_⟩
      have put : ∀ ns : List Int, H3 a = some (.lst (ns.map V.int)) → H a = none → (ns.length ≤ 41 ∧ ∀ x ∈ ns, -100 ≤ x ∧ x ≤ 100) → RowB (hole (upd H3 l (.lst (as0.map V.ref ++ V.ref l9 :: as3.map V.ref))) g l) a := fun ns h h0 b =>
        ⟨ns, hole_of (s4 _ _ h) (hg.ne h0) (ne_of_none h hl), b⟩
      rcases List.mem_append.mp ha with z | z
      · obtain ⟨ns, hns, e⟩ := ra0 a z
        obtain ⟨m0, m1⟩ := mask_some e
        refine put ns (s3 _ _ (s2 _ _ (s1 _ _ m1))) m0 ?_
        simp only [List.mem_cons, List.not_mem_nil, or_false] at hns
        rcases hns with rfl | rfl <;> decide
      · rcases List.mem_cons.mp z with rfl | z
        · exact put _ (s3 _ _ h2l9) ((s0.trans s1).free hl9) (by decide)
        · obtain ⟨ns, hns, e⟩ := ra3 a z
          obtain ⟨m0, m1⟩ := mask_some e
          refine put ns m1 ((s0.trans (s1.trans s2)).free m0) ?_
          simp only [List.mem_cons, List.not_mem_nil, or_false] at hns
          rcases hns with rfl | rfl <;> decide
    have la5 : (as0 ++ l9 :: as3).length = 5 := by rw [List.length_append, List.length_cons, la0, la3]
    obtain ⟨H4, e4⟩ : ∃ Hn, Hn = upd H3 l (.lst (as0.map V.ref ++ V.ref l9 :: as3.map V.ref)) := ⟨_, rfl⟩
    rw [← e4] at G0
    generalize as0 ++ l9 :: as3 = as at G0 la5
    have L4 : ∀ {Z : Prop}, (H4 l = some (.lst (as.map V.ref)) → Z) → Z := fun f => f G0.2.2.1
    rw [← e4]
    clear e4 sa0 sa3 ra0 ra3
    refine ⟨(show 4 ≤ sizeLine by decide), fun t ht => ?_⟩
    have ntg : t ≠ g := G0.2.1.ne ht
    have ht0 : H t = none := G0.1.free ht ntg
    have s5 : Same H4 (upd H4 t (.tup (([1, 2, 3, 9] : List Int).map V.int))) := Same.upd_new ht
    have h5t : (upd H4 t (.tup (([1, 2, 3, 9] : List Int).map V.int))) t = some (.tup (([1, 2, 3, 9] : List Int).map V.int)) := by rw [upd_same]
    have ntl : t ≠ l := (ne_of_none G0.2.2.1 ht).symm
    have G5 := G0.next nlg (s5.but g) (G0.2.1.same s5)
    generalize (upd H4 t (.tup (([1, 2, 3, 9] : List Int).map V.int))) = H5 at s5 h5t G5 ⊢
    refine ⟨t, rfl, ⟨_, SqT.of h5t⟩, for_tupT (K := K) (a := t) (xs := ([1, 2, 3, 9] : List Int).map V.int) (fun i σ H6 => ∃ (as : List Addr) (v3 v4 v5 : Option V), σ = [some (.ref g), some (.ref pa), some (.ref l), v3, v4, v5, none, none, none] ∧ as.length = 5 + i ∧ Gath H H6 g l as ∧ H6 t = some (.tup (([1, 2, 3, 9] : List Int).map V.int)))
      ⟨as, none, none, none, rfl, la5, G5, h5t⟩ (fun i σ H3 _ ⟨_, _, _, _, _, _, _, e⟩ => SqT.of e) ?_ ?_⟩
    · rintro i y σ H6 hi ⟨as, v3, v4, v5, rfl, la, G6, h6t⟩
      have il : i < 4 := (List.getElem?_eq_some_iff.mp hi).1
      obtain ⟨my, hmy, rfl⟩ := getElem_int hi
      have my9 : 1 ≤ my ∧ my ≤ 9 := by
        have : ∀ z ∈ ([1, 2, 3, 9] : List Int), 1 ≤ z ∧ z ≤ 9 := by decide
        exact this my (List.mem_of_getElem? hmy)
      have h6p := G6.1 pa _ tpa npg
      refine ⟨_, rfl, pa, _, rfl, .inl (SqL.of h6p), fun o ho => ?_⟩
      have s7 : Same H6 (upd H6 o (.lst (p.map V.int))) := Same.upd_new ho
      have h7o : (upd H6 o (.lst (p.map V.int))) o = some (.lst (p.map V.int)) := by rw [upd_same]
      have nog : o ≠ g := G6.2.1.ne ho
      generalize (upd H6 o (.lst (p.map V.int))) = H7 at s7 h7o ⊢
      refine ⟨_, rfl, _, rfl, (show 0 ≤ sizeLine by decide), fun z hz => ?_⟩
      have s8 : Same H7 (upd H7 z (.lst [])) := Same.upd_new hz
      have h8z : (upd H7 z (.lst [])) z = some (.lst []) := by rw [upd_same]
      generalize (upd H7 z (.lst [])) = H8 at s8 h8z ⊢
      refine ⟨pa, z, _, _, _, rfl, rfl, SqL.of (s8 _ _ (s7 _ _ h6p)), SqL.of h8z, leq_nil K H8 0 _, _, rfl, ?_⟩
      obtain ⟨bz, hbz⟩ : ∃ b : Int, b = (if (!(p.map V.int).isEmpty) = true then 1 else 0) := ⟨_, rfl⟩
      have bz01 : (p = [] ∧ bz = 0) ∨ (0 < p.length ∧ bz = 1) := by
        cases p with
        | nil => exact .inl ⟨rfl, hbz⟩
        | cons a r => exact .inr ⟨Nat.zero_lt_succ _, hbz⟩
      show rI CMul (fun i j => V.int (i * j)) (V.int my) (.int (if (!(p.map V.int).isEmpty) = true then 1 else 0)) H8 _
      rw [← hbz]
      obtain ⟨cnt, hcnt⟩ : ∃ c : Int, c = my * bz := ⟨_, rfl⟩
      have cn : (p = [] ∧ cnt = 0) ∨ (0 < p.length ∧ 0 ≤ cnt ∧ cnt ≤ 9) := by
        rcases bz01 with ⟨e, z⟩ | ⟨e, z⟩
        · exact .inl ⟨e, by rw [hcnt, z, Int.mul_zero]⟩
        · exact .inr ⟨e, by rw [hcnt, z, Int.mul_one]; omega, by rw [hcnt, z, Int.mul_one]; omega⟩
      refine ⟨_, _, rfl, rfl, .inl ⟨by omega, by omega⟩, ?_⟩
      have s68 : Same H6 H8 := s7.trans s8
      refine ⟨cnt, by rw [hcnt], by omega, by omega, for_range (lo := 0) (n := cnt.toNat) (fun j σ H9 => ∃ (os : List Int) (v5' : Option V), σ = [some (.ref g), some (.ref pa), some (.ref l), some (.int my), some (.ref o), v5', none, none, none] ∧ H9 o = some (.lst (os.map V.int)) ∧ os.length = p.length ∧ (∀ x ∈ os, -100 ≤ x ∧ x ≤ 100) ∧ DeckAt H9 g ∧ KeepBut g H6 H9)
        ⟨p, v5, rfl, s8 _ _ h7o, rfl, fun x hx => by have := tp.2.1.lo x hx; have := tp.2.1.hi x hx; omega, G6.2.1.same s68, s68.but g⟩ ?_ ?_⟩
      · rintro j σ H9 hj ⟨os, v5', rfl, h9o, lo, bo, D9, kb9⟩
        have pl : 0 < p.length := by rcases cn with ⟨e, z⟩ | ⟨e, _⟩ <;> omega
        refine ⟨_, rfl, g, rfl, D9, fun r1 H10 r10 D10 kb10 => ?_⟩
        have h10p : H10 pa = some (.lst (p.map V.int)) := kb10 _ _ (kb9 _ _ h6p npg) npg
        refine ⟨_, rfl, pa, _, rfl, .inl (SqL.of h10p), _, _, rfl, rfl, (by rw [List.length_map]; omega), ?_⟩
        refine ⟨_, rfl, _, rfl, g, rfl, D10, fun r2 H11 r20 D11 kb11 => ?_⟩
        have h11p := kb11 _ _ h10p npg
        have h11o := kb11 _ _ (kb10 _ _ h9o nog) nog
        refine ⟨_, rfl, pa, _, rfl, .inl (SqL.of h11p), _, _, rfl, rfl, (by rw [List.length_map]; omega), ?_⟩
        have a1 := Int.emod_nonneg r1 (show ((p.length : Nat) : Int) ≠ 0 by omega)
        have a2 := Int.emod_lt_of_pos r1 (show (0 : Int) < ((p.length : Nat) : Int) by omega)
        have b1 := Int.emod_nonneg r2 (show ((p.length : Nat) : Int) ≠ 0 by omega)
        have b2 := Int.emod_lt_of_pos r2 (show (0 : Int) < ((p.length : Nat) : Int) by omega)
        have el : (p.map V.int).length = p.length := List.length_map ..
        rw [el]
        refine ⟨o, _, _, (r2 % (p.length : Int)).toNat, rfl, rfl, h11o, ?_, ?_⟩
        · unfold ixN
          rw [List.length_map, lo, if_pos b1, if_pos b2]
        · refine ⟨os.set (r2 % (p.length : Int)).toNat (r1 % (p.length : Int)), _, rfl, by rw [upd_same, List.map_set], by rw [List.length_set]; exact lo, fun x hx => ?_, D11.upd nog.symm, ((kb9.trans kb10).trans kb11).upd_r ho⟩
          rcases List.mem_or_eq_of_mem_set hx with z | z
          · exact bo x z
          · omega
      · rintro σ H9 ⟨os, v5', rfl, h9o, lo, bo, D9, kb9⟩
        have G9 := G6.next nlg kb9 D9
        have nol : o ≠ l := (ne_of_none G6.2.2.1 ho).symm
        refine ⟨_, rfl, .inl ⟨rfl, _, SqL.of G9.2.2.1⟩, _, rfl, l, _, _, rfl, rfl, G9.2.2.1, small1000 (by rw [List.length_map]; omega), ?_⟩
        refine ⟨as ++ [o], _, _, _, rfl, by rw [List.length_append, la]; rfl, G9.app nlg hl0 ⟨os, hole_of h9o nog nol, by omega, bo⟩, ?_⟩
        rw [upd_ne ntl]
        exact kb9 _ _ h6t ntg
    · rintro σ H6 ⟨as, v3, v4, v5, rfl, la, G6, h6t⟩
      have la : as.length = 9 := la
      have h6p := G6.1 pa _ tpa npg
      refine ⟨_, rfl, .inl ⟨rfl, _, SqL.of G6.2.2.1⟩, ?_⟩
      refine ⟨_, rfl, pa, rfl, ⟨_, SqL.of h6p⟩, comp_list (K := K) (a := pa) (xs := p.map V.int) (fun i ys σ H7 => ∃ (v : Option V) (os : List Int), σ = [v, some (.ref g), some (.ref pa)] ∧ ys = os.map V.int ∧ os.length = i ∧ (∀ x ∈ os, -100 ≤ x ∧ x ≤ 100) ∧ DeckAt H7 g ∧ KeepBut g H6 H7)
        ⟨none, [], rfl, rfl, rfl, (fun x hx => by cases hx), G6.2.1, KeepBut.refl g H6⟩ (fun i ys σ H7 _ ⟨_, _, _, _, _, _, _, k⟩ => SqL.of (k _ _ h6p npg)) ?_ ?_⟩
      · rintro i x ys σ H7 hi ⟨v, os, rfl, rfl, lo, bo, D7, kb7⟩
        have il : i < p.length := by have := (List.getElem?_eq_some_iff.mp hi).1; rw [List.length_map] at this; exact this
        refine ⟨_, rfl, g, rfl, D7, fun r1 H8 r10 D8 kb8 => ?_⟩
        have h8p := kb8 _ _ (kb7 _ _ h6p npg) npg
        have el : (p.map V.int).length = p.length := List.length_map ..
        refine ⟨_, rfl, pa, _, rfl, .inl (SqL.of h8p), _, _, rfl, rfl, (by rw [el]; omega), small1000 (by rw [List.length_map]; omega), ?_⟩
        rw [el]
        have a1 := Int.emod_nonneg r1 (show ((p.length : Nat) : Int) ≠ 0 by omega)
        have a2 := Int.emod_lt_of_pos r1 (show (0 : Int) < ((p.length : Nat) : Int) by omega)
        refine ⟨_, os ++ [r1 % (p.length : Int)], rfl, by rw [List.map_append]; rfl, by rw [List.length_append, lo]; rfl, fun x hx => ?_, D8, kb7.trans kb8⟩
        rcases List.mem_append.mp hx with z | z
        · exact bo x z
        · rw [List.mem_singleton.mp z]; omega
      · rintro ys σ H7 ⟨v, os, rfl, rfl, lo, bo, D7, kb7⟩ o ho
        rw [List.length_map] at lo
        have s8 : Same H7 (upd H7 o (.lst (os.map V.int))) := Same.upd_new ho
        have h8o : (upd H7 o (.lst (os.map V.int))) o = some (.lst (os.map V.int)) := by rw [upd_same]
        generalize (upd H7 o (.lst (os.map V.int))) = H8 at s8 h8o ⊢
        have nog : o ≠ g := D7.ne ho
        have G8 := G6.next nlg (kb7.trans (s8.but g)) (D7.same s8)
        have nol : o ≠ l := fun z => by rw [z, kb7 _ _ G6.2.2.1 nlg] at ho; cases ho
        refine ⟨l, _, _, rfl, rfl, G8.2.2.1, small1000 (by rw [List.length_map]; omega), ?_⟩
        have G9 := G8.app nlg hl0 ⟨os, hole_of h8o nog nol, by omega, bo⟩
        generalize (upd H8 l (.lst (as.map V.ref ++ [.ref o]))) = H9 at  G9 ⊢
        have la9 : (as ++ [o]).length = 10 := by rw [List.length_append, la]; rfl
        generalize as ++ [o] = as9 at G9 la9
        clear h8o G8 G6 h6t h6p
        have h9p := G9.1 pa _ tpa npg
        refine ⟨_, rfl, g, rfl, G9.2.1, fun r1 H10 r10 D10 kb10 => ?_⟩
        have h10p := kb10 _ _ h9p npg
        refine ⟨_, rfl, pa, _, rfl, .inl (SqL.of h10p), _, _, rfl, _, _, rfl, rfl, (by rw [List.length_map]; split <;> omega), ?_⟩
        obtain ⟨at1, hat1⟩ : ∃ z : Int, z = r1 % (if ((p.map V.int).length : Int) > 1 then ((p.map V.int).length : Int) else 1) := ⟨_, rfl⟩
        show tSeq _ _ _ ([some (.ref g), some (.ref pa), some (.ref l), v3, v4, v5, some (.int (r1 % (if ((p.map V.int).length : Int) > 1 then ((p.map V.int).length : Int) else 1))), none, none]) H10
        rw [← hat1]
        refine ⟨_, rfl, g, rfl, D10, fun r2 H11 r20 D11 kb11 => ?_⟩
        have h11p := kb11 _ _ h10p npg
        refine ⟨_, rfl, pa, _, rfl, .inl (SqL.of h11p), _, _, rfl, _, _, rfl, rfl, (by rw [List.length_map]; split <;> omega), ?_⟩
        obtain ⟨at2, hat2⟩ : ∃ z : Int, z = r2 % (if ((p.map V.int).length : Int) > 1 then ((p.map V.int).length : Int) else 1) := ⟨_, rfl⟩
        show tSeq _ _ _ ([some (.ref g), some (.ref pa), some (.ref l), v3, v4, v5, some (.int at1), some (.int (r2 % (if ((p.map V.int).length : Int) > 1 then ((p.map V.int).length : Int) else 1))), none]) H11
        rw [← hat2]
        have G11 := G9.next nlg (kb10.trans kb11) D11
        clear G9 D10 D11 kb10 kb11 h10p h9p hat1 hat2
        refine ⟨_, rfl, .inl ⟨rfl, _, SqL.of G11.2.2.1⟩, ?_⟩
        refine ⟨_, rfl, pa, rfl, ⟨_, SqL.of h11p⟩, comp_enum (K := K) (a := pa) (xs := p.map V.int) (fun i ys σ H7 => ∃ (v u : Option V) (os : List Int), σ = [v, u, some (.int at2), some (.int at1)] ∧ ys = os.map V.int ∧ os.length = i ∧ (∀ x ∈ os, -100 ≤ x ∧ x ≤ 100) ∧ Same H11 H7)
          ⟨none, none, [], rfl, rfl, rfl, (fun x hx => by cases hx), Same.refl H11⟩ (fun i ys σ H7 _ ⟨_, _, _, _, _, _, _, k⟩ => SqL.of (k _ _ h11p)) ?_ ?_⟩
        · rintro i x ys σ H12 t2 hi ⟨v, u, os, rfl, rfl, lo, bo, s12⟩ ht2
          obtain ⟨z, hz, rfl⟩ := getElem_int hi
          have zp := List.mem_of_getElem? hz
          refine ⟨t2, _, rfl, SqT.of upd_same, rfl, _, _, rfl, _, _, rfl, rfl, ?_⟩
          have s13 : Same H12 (upd H12 t2 (.tup [.int (i : Int), .int z])) := Same.upd_new ht2
          generalize (upd H12 t2 (.tup [.int (i : Int), .int z])) = H13 at s13 ⊢
          refine ⟨_, rfl, _, rfl, _, rfl, rfl, _, rfl, _, _, rfl, rfl, ?_⟩
          refine ⟨_, rfl, _, rfl, rfl, _, rfl, _, _, rfl, rfl, small1000 (by rw [List.length_map]; have := (List.getElem?_eq_some_iff.mp hz).1; omega), ?_⟩
          refine ⟨_, _, os ++ [_], rfl, by rw [List.map_append]; rfl, by rw [List.length_append, lo]; rfl, fun x hx => ?_, s12.trans s13⟩
          rcases List.mem_append.mp hx with y | y
          · exact bo x y
          · rw [List.mem_singleton.mp y]
            have z0 := tp.2.1.lo z zp
            have z1 := tp.2.1.hi z zp
            split <;> split <;> omega
        · rintro ys σ H12 ⟨v, u, os, rfl, rfl, lo, bo, s12⟩ o ho
          rw [List.length_map] at lo
          have s13 : Same H12 (upd H12 o (.lst (os.map V.int))) := Same.upd_new ho
          have h13o : (upd H12 o (.lst (os.map V.int))) o = some (.lst (os.map V.int)) := by rw [upd_same]
          generalize (upd H12 o (.lst (os.map V.int))) = H13 at s13 h13o ⊢
          have G13 := G11.next nlg ((s12.trans s13).but g) (G11.2.1.same (s12.trans s13))
          have nog : o ≠ g := G11.2.1.ne (s12.free ho)
          have nol : o ≠ l := fun z => by rw [z, s12 _ _ G11.2.2.1] at ho; cases ho
          refine ⟨l, _, _, rfl, rfl, G13.2.2.1, small1000 (by rw [List.length_map]; omega), ?_⟩
          have G14 := G13.app nlg hl0 ⟨os, hole_of h13o nog nol, by omega, bo⟩
          generalize (upd H13 l (.lst (as9.map V.ref ++ [.ref o]))) = H14 at  G14 ⊢
          have la14 : (as9 ++ [o]).length = 11 := by rw [List.length_append, la9]; rfl
          generalize as9 ++ [o] = as14 at G14 la14
          clear h13o G13 G11 h11p
          refine ⟨_, rfl, l, rfl, ⟨_, SqL.of G14.2.2.1⟩, comp_list (K := K) (a := l) (xs := as14.map V.ref) (fun i ys σ H15 => ∃ (v : Option V) (bs : List Addr), σ = [v] ∧ ys = bs.map V.ref ∧ bs.length ≤ i ∧ Same H14 H15 ∧ ∀ b ∈ bs, ∃ ns : List Int, hole H14 g l b = some (.lst (ns.map V.int)) ∧ ns.length ≤ 41 ∧ (∀ x ∈ ns, -100 ≤ x ∧ x ≤ 100) ∧ ¬ IsT ns)
            ⟨none, [], rfl, rfl, Nat.zero_le _, Same.refl H14, fun b hb => by cases hb⟩ (fun i ys σ H15 _ ⟨_, _, _, _, _, k, _⟩ => SqL.of (k _ _ G14.2.2.1)) ?_ ?_⟩
          · rintro i x ys σ H15 hi ⟨v, bs, rfl, rfl, lb, s15, rb⟩
            rw [List.getElem?_map] at hi
            cases hB : as14[i]? with
            | none => rw [hB] at hi; cases hi
            | some b =>
              rw [hB] at hi
              cases hi
              have il : i < 11 := by rw [← la14]; exact (List.getElem?_eq_some_iff.mp hB).1
              obtain ⟨ns, hns, ln, bn⟩ := G14.2.2.2 b (List.mem_of_getElem? hB)
              have h14b := (hole_some hns).1
              have h15b := s15 _ _ h14b
              refine ⟨_, rfl, b, ns, rfl, SqL.of h15b, by omega, fun ms m1 pm so hm1 => ?_⟩
              have s16 : Same H15 (upd H15 m1 (.lst (ms.map V.int))) := Same.upd_new hm1
              have h16m : (upd H15 m1 (.lst (ms.map V.int))) m1 = some (.lst (ms.map V.int)) := by rw [upd_same]
              generalize (upd H15 m1 (.lst (ms.map V.int))) = H16 at s16 h16m ⊢
              refine ⟨_, rfl, b, _, rfl, .inl (SqL.of (s16 _ _ h15b)), _, rfl, fun r1 hr1 => ?_⟩
              have s17 : Same H16 (upd H16 r1 (.rng 0 ((ns.map V.int).length : Int))) := Same.upd_new hr1
              have h17r : (upd H16 r1 (.rng 0 ((ns.map V.int).length : Int))) r1 = some (.rng 0 ((ns.map V.int).length : Int)) := by rw [upd_same]
              generalize (upd H16 r1 (.rng 0 ((ns.map V.int).length : Int))) = H17 at s17 h17r ⊢
              have el : (ns.map V.int).length = ns.length := List.length_map ..
              refine ⟨r1, _, _, rfl, h17r, ⟨by omega, by omega, by omega, by omega⟩, by omega, fun m2 hm2 => ?_⟩
              have s18 : Same H17 (upd H17 m2 (.lst ((upTo 0 ns.length).map V.int))) := Same.upd_new hm2
              have h18m : (upd H17 m2 (.lst ((upTo 0 ns.length).map V.int))) m2 = some (.lst ((upTo 0 ns.length).map V.int)) := by rw [upd_same]
              have eu : (((ns.map V.int).length : Int) - 0).toNat = ns.length := by omega
              rw [eu]
              generalize (upd H17 m2 (.lst ((upTo 0 ns.length).map V.int))) = H18 at s18 h18m ⊢
              have s1518 := (s16.trans s17).trans s18
              refine ⟨m1, m2, _, _, _, rfl, rfl, SqL.of (s18 _ _ (s17 _ _ h16m)), SqL.of h18m, leq_ints K H18 0 ms (upTo 0 ns.length), _, rfl, ?_⟩
              by_cases hq : ms = upTo 0 ns.length
              · rw [decide_eq_true hq]
                exact iteF ⟨_, bs, rfl, rfl, by omega, s15.trans s1518, rb⟩
              · rw [decide_eq_false hq]
                refine iteT ⟨_, rfl, small1000 (by rw [List.length_map]; omega), _, bs ++ [b], rfl, by rw [List.map_append]; rfl, by rw [List.length_append]; exact Nat.succ_le_succ lb, s15.trans s1518, fun c hc => ?_⟩
                rcases List.mem_append.mp hc with y | y
                · exact rb c y
                · rw [List.mem_singleton.mp y]
                  exact ⟨ns, hns, ln, bn, fun t => hq (sorted_up pm so t)⟩
          · rintro ys σ H15 ⟨v, bs, rfl, rfl, lb, s15, rb⟩ l2 hl2
            rw [List.length_map, la14] at lb
            have nl2g : l2 ≠ g := (G14.2.1.same s15).ne hl2
            have k15 : KeepBut g H H15 := G14.1.trans (s15.but g)
            have hl20 : H l2 = none := k15.free hl2 nl2g
            obtain ⟨H16, e16⟩ : ∃ Hn, Hn = upd H15 l2 (.lst (bs.map V.ref)) := ⟨_, rfl⟩
            have s16 : Same H15 H16 := e16 ▸ Same.upd_new hl2
            have h16l : H16 l2 = some (.lst (bs.map V.ref)) := by rw [e16, upd_same]
            have k16 : KeepBut g H H16 := k15.trans (s16.but g)
            have D16 : DeckAt H16 g := G14.2.1.same (s15.trans s16)
            have B16 : BadsAt K (hole H16 g l2) (bs.map V.ref) := fun v hv => by
              obtain ⟨b, hb, rfl⟩ := List.mem_map.mp hv
              obtain ⟨ns, hns, ln, bn, nt⟩ := rb b hb
              have : hole H16 g l2 b = some (.lst (ns.map V.int)) := hole_to (l := l) ((s15.trans s16).but g) (s15.free hl2) _ _ hns
              exact bad_ints this (fun _ => nt) (by omega) (fun x hx => by have := bn x hx; omega)
            rw [← e16]
            clear e16
            have h16p := k16 _ _ tpa npg
            refine ⟨_, rfl, _, rfl, _, rfl, pa, _, rfl, .inl (SqL.of h16p), _, _, rfl, rfl, _, _, rfl, rfl, ⟨by decide, by decide, by decide⟩, _, rfl, _, rfl, pa, _, rfl, .inl (SqL.of h16p), _, _, rfl, rfl, fun xs H17 s17 sa => ?_⟩
            have hm17 : Same (mask H16 H17) (hole H17 g l2) := by
              obtain ⟨o, e⟩ := D16.some
              exact hole_mask e h16l
            have lxs : xs.length = 7 := sa.length
            have items := odds_data (K := K) (n := p.length) p40 sa (by decide +kernel)
            have el : (p.map V.int).length = p.length := List.length_map ..
            refine ⟨by simp only [List.length_cons, lxs]; decide, fun lo hlo => ?_⟩
            obtain ⟨os, hos⟩ : ∃ os : List V, os = V.int (-1) :: V.int (-1 - ((p.map V.int).length : Int)) :: V.int (-(10 ^ (20 : Int).toNat)) :: V.int (((p.map V.int).length : Int) + 1) :: xs := ⟨_, rfl⟩
            obtain ⟨H18, e18⟩ : ∃ Hn, Hn = upd H17 lo (.lst os) := ⟨_, rfl⟩
            have s18 : Same H17 H18 := e18 ▸ Same.upd_new hlo
            have k18 : KeepBut g H H18 := k16.trans ((s17.trans s18).but g)
            have D18 : DeckAt H18 g := D16.same (s17.trans s18)
            have nlog : lo ≠ g := (D16.same s17).ne hlo
            have nlol : lo ≠ l2 := fun z => by rw [z, s17 _ _ h16l] at hlo; cases hlo
            have h18lo : hole H18 g l2 lo = some (.lst os) := hole_of (by rw [e18, upd_same]) nlog nlol
            have los : os.length = 11 := by rw [hos]; simp only [List.length_cons, lxs]
            have it18 : ∀ y ∈ os, OddItem K (hole H18 g l2) p.length y := fun y hy => by
              rw [hos] at hy
              have small : ∀ i : Int, (i < 0 ∨ (p.length : Int) + 1 ≤ i) → -10000000000000000000000000000000000000000 ≤ i → i ≤ 10000000000000000000000000000000000000000 → OddItem K (hole H18 g l2) p.length (.int i) := fun i h h1 h2 => ⟨.inl ⟨i, rfl⟩, (fun j e => by cases e; exact h), se_int h1 h2⟩
              simp only [List.mem_cons] at hy
              rcases hy with rfl | rfl | rfl | rfl | hy
              · exact small _ (.inl (by decide)) (by decide) (by decide)
              · exact small _ (.inl (by omega)) (by omega) (by omega)
              · exact small _ (.inl (by decide)) (by decide) (by decide)
              · exact small _ (.inr (by omega)) (by omega) (by omega)
              · exact ((items y hy).keep hm17).keep (hole_kb (s18.but g))
            have h18l : H18 l2 = some (.lst (bs.map V.ref)) := s18 _ _ (s17 _ _ h16l)
            have B18 : BadsAt K (hole H18 g l2) (bs.map V.ref) := B16.keep (hole_kb ((s17.trans s18).but g))
            rw [← hos, ← e18]
            clear e18 hos items hm17 sa s17 s18
            refine ⟨lo, rfl, ⟨_, SqL.of (hole_some h18lo).1⟩, for_list (K := K) (a := lo) (xs := os) (fun i σ H19 => ∃ (v6 v8 : Option V) (vs : List V), σ = [some (.ref g), some (.ref pa), some (.ref l2), v3, v4, v5, v6, some (.int at2), v8] ∧ KeepBut g H H19 ∧ DeckAt H19 g ∧ H19 l2 = some (.lst vs) ∧ vs.length ≤ 11 + i ∧ BadsAt K (hole H19 g l2) vs ∧ Same (hole H18 g l2) (hole H19 g l2))
              ⟨_, none, _, rfl, k18, D18, h18l, by rw [List.length_map]; exact lb, B18, Same.refl _⟩ (fun i σ H19 _ ⟨_, _, _, _, _, _, _, _, _, k⟩ => SqL.of (hole_some (k _ _ h18lo)).1) ?_ ?_⟩
            · rintro i y σ H19 hi ⟨v6, v8, vs, rfl, k19, D19, h19l, lv, B19, s19⟩
              have il : i < 11 := by rw [← los]; exact (List.getElem?_eq_some_iff.mp hi).1
              have oy := (it18 y (List.mem_of_getElem? hi)).keep s19
              refine ⟨_, rfl, g, rfl, D19, fun r1 H20 r10 D20 kb20 => ?_⟩
              have k20 := k19.trans kb20
              have h20p := k20 _ _ tpa npg
              refine ⟨_, rfl, pa, _, rfl, .inl (SqL.of h20p), _, _, rfl, _, _, rfl, rfl, (by rw [List.length_map]; split <;> omega), ?_⟩
              obtain ⟨ix, hix⟩ : ∃ z : Int, z = r1 % (if ((p.map V.int).length : Int) > 1 then ((p.map V.int).length : Int) else 1) := ⟨_, rfl⟩
              have ixb : 0 ≤ ix ∧ ix ≤ (p.length : Int) := by
                rw [List.length_map] at hix
                by_cases z : (p.length : Int) > 1
                · rw [if_pos z] at hix
                  have a1 := Int.emod_nonneg r1 (show ((p.length : Nat) : Int) ≠ 0 by omega)
                  have a2 := Int.emod_lt_of_pos r1 (show (0 : Int) < ((p.length : Nat) : Int) by omega)
                  omega
                · rw [if_neg z] at hix; omega
              show gName 6 (V.int (r1 % (if ((p.map V.int).length : Int) > 1 then ((p.map V.int).length : Int) else 1))) _ _ _
              rw [← hix]
              clear hix
              obtain ⟨ixn, rfl⟩ := Int.eq_ofNat_of_zero_le ixb.1
              have ixl : ixn ≤ p.length := by omega
              have h20l := kb20 _ _ h19l nl2g
              refine ⟨_, rfl, .inl ⟨rfl, _, SqL.of h20l⟩, ?_⟩
              have hpb : ∀ x ∈ p, 0 ≤ x ∧ x ≤ 100 := fun x hx => by have := tp.2.1.lo x hx; have := tp.2.1.hi x hx; omega
              have cl := fun (lo hi : Option Int) => cutV_length (p.map V.int) lo hi
              rw [List.length_map] at cl
              refine ⟨_, rfl, _, rfl, _, rfl, pa, _, rfl, SqL.of h20p, fun c1 hc1 => ?_⟩
              have s21 : Same H20 (upd H20 c1 (.lst (cutV (p.map V.int) none (some (ixn : Int))))) := Same.upd_new hc1
              have h21 : (upd H20 c1 (.lst (cutV (p.map V.int) none (some (ixn : Int))))) c1 = some (.lst (cutV (p.map V.int) none (some (ixn : Int)))) := by rw [upd_same]
              generalize (upd H20 c1 (.lst (cutV (p.map V.int) none (some (ixn : Int))))) = H21 at s21 h21 ⊢
              refine ⟨_, rfl, (show 1 ≤ sizeLine by decide), fun c2 hc2 => ?_⟩
              have s22 : Same H21 (upd H21 c2 (.lst [y])) := Same.upd_new hc2
              have h22 : (upd H21 c2 (.lst [y])) c2 = some (.lst [y]) := by rw [upd_same]
              generalize (upd H21 c2 (.lst [y])) = H22 at s22 h22 ⊢
              refine ⟨c1, c2, _, _, rfl, rfl, s22 _ _ h21, h22, Nat.le_of_lt (small1000 (by have := cl none (some (ixn : Int)); rw [List.length_singleton]; omega)), fun c3 hc3 => ?_⟩
              have s23 : Same H22 (upd H22 c3 (.lst (cutV (p.map V.int) none (some (ixn : Int)) ++ [y]))) := Same.upd_new hc3
              have h23 : (upd H22 c3 (.lst (cutV (p.map V.int) none (some (ixn : Int)) ++ [y]))) c3 = some (.lst (cutV (p.map V.int) none (some (ixn : Int)) ++ [y])) := by rw [upd_same]
              generalize (upd H22 c3 (.lst (cutV (p.map V.int) none (some (ixn : Int)) ++ [y]))) = H23 at s23 h23 ⊢
              have h23p := s23 _ _ (s22 _ _ (s21 _ _ h20p))
              refine ⟨_, rfl, _, rfl, _, _, rfl, rfl, _, rfl, pa, _, rfl, SqL.of h23p, fun c4 hc4 => ?_⟩
              have s24 : Same H23 (upd H23 c4 (.lst (cutV (p.map V.int) (some ((ixn : Int) + 1)) none))) := Same.upd_new hc4
              have h24 : (upd H23 c4 (.lst (cutV (p.map V.int) (some ((ixn : Int) + 1)) none))) c4 = some (.lst (cutV (p.map V.int) (some ((ixn + 1 : Nat) : Int)) none)) := by rw [upd_same]; rfl
              generalize (upd H23 c4 (.lst (cutV (p.map V.int) (some ((ixn : Int) + 1)) none))) = H24 at s24 h24 ⊢
              refine ⟨c3, c4, _, _, rfl, rfl, s24 _ _ h23, h24, Nat.le_of_lt (small1000 (by have := cl none (some (ixn : Int)); have := cl (some ((ixn + 1 : Nat) : Int)) none; rw [List.length_append, List.length_singleton]; omega)), fun c5 hc5 => ?_⟩
              have s25 : Same H24 (upd H24 c5 (.lst (cutV (p.map V.int) none (some (ixn : Int)) ++ [y] ++ cutV (p.map V.int) (some ((ixn + 1 : Nat) : Int)) none))) := Same.upd_new hc5
              have h25 : (upd H24 c5 (.lst (cutV (p.map V.int) none (some (ixn : Int)) ++ [y] ++ cutV (p.map V.int) (some ((ixn + 1 : Nat) : Int)) none))) c5 = some (.lst (cutV (p.map V.int) none (some (ixn : Int)) ++ [y] ++ cutV (p.map V.int) (some ((ixn + 1 : Nat) : Int)) none)) := by rw [upd_same]
              generalize (upd H24 c5 (.lst (cutV (p.map V.int) none (some (ixn : Int)) ++ [y] ++ cutV (p.map V.int) (some ((ixn + 1 : Nat) : Int)) none))) = H25 at s25 h25 ⊢
              have s2025 : Same H20 H25 := ((s21.trans s22).trans s23).trans (s24.trans s25)
              refine ⟨_, rfl, _, rfl, _, rfl, pa, _, rfl, SqL.of (s2025 _ _ h20p), fun d1 hd1 => ?_⟩
              have s26 : Same H25 (upd H25 d1 (.lst (cutV (p.map V.int) none (some (ixn : Int))))) := Same.upd_new hd1
              have h26 : (upd H25 d1 (.lst (cutV (p.map V.int) none (some (ixn : Int))))) d1 = some (.lst (cutV (p.map V.int) none (some (ixn : Int)))) := by rw [upd_same]
              generalize (upd H25 d1 (.lst (cutV (p.map V.int) none (some (ixn : Int))))) = H26 at s26 h26 ⊢
              refine ⟨_, rfl, (show 1 ≤ sizeLine by decide), fun d2 hd2 => ?_⟩
              have s27 : Same H26 (upd H26 d2 (.lst [y])) := Same.upd_new hd2
              have h27 : (upd H26 d2 (.lst [y])) d2 = some (.lst [y]) := by rw [upd_same]
              generalize (upd H26 d2 (.lst [y])) = H27 at s27 h27 ⊢
              refine ⟨d1, d2, _, _, rfl, rfl, s27 _ _ h26, h27, Nat.le_of_lt (small1000 (by have := cl none (some (ixn : Int)); rw [List.length_singleton]; omega)), fun d3 hd3 => ?_⟩
              have s28 : Same H27 (upd H27 d3 (.lst (cutV (p.map V.int) none (some (ixn : Int)) ++ [y]))) := Same.upd_new hd3
              have h28 : (upd H27 d3 (.lst (cutV (p.map V.int) none (some (ixn : Int)) ++ [y]))) d3 = some (.lst (cutV (p.map V.int) none (some (ixn : Int)) ++ [y])) := by rw [upd_same]
              generalize (upd H27 d3 (.lst (cutV (p.map V.int) none (some (ixn : Int)) ++ [y]))) = H28 at s28 h28 ⊢
              have h28p := s28 _ _ (s27 _ _ (s26 _ _ (s2025 _ _ h20p)))
              refine ⟨_, rfl, _, rfl, _, rfl, pa, _, rfl, SqL.of h28p, fun d4 hd4 => ?_⟩
              have s29 : Same H28 (upd H28 d4 (.lst (cutV (p.map V.int) (some (ixn : Int)) none))) := Same.upd_new hd4
              have h29 : (upd H28 d4 (.lst (cutV (p.map V.int) (some (ixn : Int)) none))) d4 = some (.lst (cutV (p.map V.int) (some (ixn : Int)) none)) := by rw [upd_same]
              generalize (upd H28 d4 (.lst (cutV (p.map V.int) (some (ixn : Int)) none))) = H29 at s29 h29 ⊢
              refine ⟨d3, d4, _, _, rfl, rfl, s29 _ _ h28, h29, Nat.le_of_lt (small1000 (by have := cl none (some (ixn : Int)); have := cl (some (ixn : Int)) none; rw [List.length_append, List.length_singleton]; omega)), fun d5 hd5 => ?_⟩
              have s30 : Same H29 (upd H29 d5 (.lst (cutV (p.map V.int) none (some (ixn : Int)) ++ [y] ++ cutV (p.map V.int) (some (ixn : Int)) none))) := Same.upd_new hd5
              have h30 : (upd H29 d5 (.lst (cutV (p.map V.int) none (some (ixn : Int)) ++ [y] ++ cutV (p.map V.int) (some (ixn : Int)) none))) d5 = some (.lst (cutV (p.map V.int) none (some (ixn : Int)) ++ [y] ++ cutV (p.map V.int) (some (ixn : Int)) none)) := by rw [upd_same]
              generalize (upd H29 d5 (.lst (cutV (p.map V.int) none (some (ixn : Int)) ++ [y] ++ cutV (p.map V.int) (some (ixn : Int)) none))) = H30 at s30 h30 ⊢
              have s2530 : Same H25 H30 := ((s26.trans s27).trans s28).trans (s29.trans s30)
              have h30c := s2530 _ _ h25
              have s2030 := s2025.trans s2530
              have nc5 : H20 c5 = none := (((s21.trans s22).trans s23).trans s24).free hc5
              have nd5 : H20 d5 = none := (s2025.trans (((s26.trans s27).trans s28).trans s29)).free hd5
              refine ⟨(show 2 ≤ sizeLine by decide), fun ee hee => ?_⟩
              have s31 : Same H30 (upd H30 ee (.lst [V.ref c5, V.ref d5])) := Same.upd_new hee
              have h31e : (upd H30 ee (.lst [V.ref c5, V.ref d5])) ee = some (.lst [V.ref c5, V.ref d5]) := by rw [upd_same]
              generalize (upd H30 ee (.lst [V.ref c5, V.ref d5])) = H31 at s31 h31e ⊢
              have D31 : DeckAt H31 g := D20.same (s2030.trans s31)
              have neg : ee ≠ g := (D20.same s2030).ne hee
              refine ⟨_, rfl, g, rfl, D31, fun r2 H32 r20 D32 kb32 => ?_⟩
              refine ⟨_, _, rfl, rfl, (show (0 : Int) < 2 by decide), ?_⟩
              have h32e := kb32 _ _ h31e neg
              have k2032 : KeepBut g H20 H32 := ((s2030.trans s31).but g).trans kb32
              have key : ∃ c xs, atI [V.ref c5, V.ref d5] (r2 % 2) = some (.ref c) ∧ H32 c = some (.lst xs) ∧ H20 c = none ∧ (∀ x ∈ xs, (∃ i : Int, x = .int i ∧ 0 ≤ i ∧ i ≤ 100) ∨ x = y) ∧ y ∈ xs ∧ xs.length ≤ p.length + 1 := by
                rcases (show r2 % 2 = 0 ∨ r2 % 2 = 1 by omega) with e | e
                · rw [e]
                  exact ⟨c5, _, atI_nat (j := 0) rfl, kb32 _ _ (s31 _ _ h30c) (D20.ne nc5), nc5, cut_content hpb (Nat.le_succ _) ixl⟩
                · rw [e]
                  exact ⟨d5, _, atI_nat (j := 1) rfl, kb32 _ _ (s31 _ _ h30) (D20.ne nd5), nd5, cut_content hpb (Nat.le_refl _) ixl⟩
              obtain ⟨c, zs, hat, h32c, nc, z1, z2, z3⟩ := key
              refine ⟨ee, _, _, _, rfl, rfl, SqL.of h32e, hat, ?_⟩
              have h32l := k2032 _ _ h20l nl2g
              refine ⟨l2, _, _, rfl, rfl, h32l, small1000 (by omega), ?_⟩
              have sh : Same (hole H19 g l2) (hole (upd H32 l2 (.lst (vs ++ [.ref c]))) g l2) := (hole_kb (kb20.trans k2032)).trans hole_l
              refine ⟨_, _, vs ++ [.ref c], rfl, (k20.trans k2032).upd_r hl20, D32.upd nl2g.symm, upd_same, by rw [List.length_append, List.length_singleton]; omega, fun v hv => ?_, s19.trans sh⟩
              rcases List.mem_append.mp hv with z | z
              · exact (B19.keep sh) v z
              · rw [List.mem_singleton.mp z]
                have ncl : c ≠ l2 := (ne_of_none h20l nc).symm
                exact bad_odd (hole_of (by rw [upd_ne ncl]; exact h32c) (D20.ne nc) ncl) z1 z2 z3 p40 (oy.keep sh)
            · rintro σ H19 ⟨v6, v8, vs, rfl, k19, D19, h19l, lv, B19, s19⟩
              exact ⟨_, rfl, q l2 vs H19 hl20 k19 D19 h19l (by omega) (B19.keep hole_gg)⟩
def oddOrInt : PyData → Bool
  | .none | .bool _ | .int _ | .str _ | .tuple _ | .list _ => true
  | _ => false
def intsOf : List PyData → Option (List Int)
  | [] => some []
  | .int i :: r => (intsOf r).map (i :: ·)
  | _ :: _ => none
def isTB (ns : List Int) : Bool := decide (ns.Nodup ∧ ∀ x ∈ ns, 0 ≤ x ∧ x < (ns.length : Int))
def noTurnD : PyData → Bool
  | .none | .bool _ | .int _ | .str _ | .tuple _ => true
  | .list ds => ds.all oddOrInt && (match intsOf ds with
    | some ns => !isTB ns
    | none => true)
  | _ => false
theorem ints_of_sh {H : Hp} : ∀ {p : List Int} {ds : List PyData}, ShA H (p.map V.int) ds → intsOf ds = some p
  | [], ds, h => by cases h; rfl
  | i :: p, ds, h => by
    cases h with
    | cons h1 h2 =>
      cases h1
      simp only [intsOf, ints_of_sh h2, Option.map]
theorem odds_of_sha {H : Hp} : ∀ {xs : List V} {ds : List PyData}, ShA H xs ds → ∀ x ∈ xs, (∃ i : Int, x = .int i) ∨ OddV K H x
  | _, _, .nil, x, hx => by cases hx
  | _, _, .cons h hs, x, hx => by
    rcases List.mem_cons.mp hx with z | z
    · rw [z]; exact odd_of_sh h
    · exact odds_of_sha hs x z
theorem noT_data {H : Hp} {v : V} {d : PyData} (h : Sh H v d) (n : noTurnD d = true) : NoTurnV K H v := by
  cases h with
  | non => exact .inl ⟨_, .non, kit_none_list K⟩
  | bl b => exact .inl ⟨_, .bl b, kit_bool_list K⟩
  | int i => exact .inl ⟨_, .int i, kit_int_list K⟩
  | str x => exact .inl ⟨_, .str x, kit_str_list K⟩
  | tup e _ => exact .inl ⟨_, .tup e, kit_tuple_list K⟩
  | lst e hx =>
    refine .inr ⟨_, _, rfl, e, odds_of_sha hx, fun p ep _ t => ?_⟩
    rw [ep] at hx
    simp only [noTurnD, ints_of_sh hx, Bool.and_eq_true, Bool.not_eq_true'] at n
    have := n.2
    unfold isTB at this
    exact of_decide_eq_false this ⟨t.nd, fun x hx => ⟨t.lo x hx, t.hi x hx⟩⟩
def okD (d : PyData) : Bool := noTurnD d && d.showable && decide (d.shown.length ≤ 2000) && decide (d.depth ≤ 8)
theorem bads_data {H : Hp} : ∀ {xs : List V} {ds : List PyData}, ShA H xs ds → ds.all okD = true → BadsAt K H xs
  | _, _, .nil, _, x, hx => by cases hx
  | _, _, .cons (d := d) (ds := ds) h hs, o, x, hx => by
    rw [List.all_cons, Bool.and_eq_true] at o
    rcases List.mem_cons.mp hx with z | z
    · rw [z]
      have o1 := o.1
      unfold okD at o1
      rw [Bool.and_eq_true, Bool.and_eq_true, Bool.and_eq_true] at o1
      obtain ⟨⟨⟨a, b⟩, c⟩, e⟩ := o1
      have c := of_decide_eq_true c
      exact ⟨noT_data h a, d, .inl h, b, by rw [sizeLine_eq]; omega, of_decide_eq_true e⟩
    · exact bads_data hs o.2 x z
theorem BadsAt.cons {H : Hp} {v : V} {vs : List V} (h : NoTurnV K H v ∧ ∃ d, ShD H v d) (g : BadsAt K H vs) : BadsAt K H (v :: vs) := fun u hu => (List.mem_cons.mp hu).elim (fun e => e ▸ h) (g u)
theorem sc_law_bad_turns : FnScope ["deck", "p", "some"] ["deck", "p"] (defScope s_law_bad_turns) := ⟨rfl, rfl, rfl, by decide +kernel, rfl, by decide +kernel, by decide +kernel⟩
theorem ok_law_bad_turns {f : Addr} {fd : FuncData} (F : Fun K "_law_bad_turns" "_law_bad_turns" s_law_bad_turns f fd) (B : Bl mg) (c_law_spoilt : Cal P w K mg base "_law_spoilt" 2 ["deck", "p"] (spSpoilt K 40)) : FnOk P w K mg base CX0 3 f fd ["deck", "p"] (spSpoilt K 100) := by
  refine F.ok sc_law_bad_turns (fun vs H Q E h => ?_) (fun cdv A outer s H vs Q E hr h => ?_)
  · obtain ⟨g, pa, p, rfl, hg, npg, tp, q⟩ := h
    rfl
  · obtain ⟨g, pa, p, rfl, hg, npg, tp, q⟩ := h
    have hr_law_spoilt : Room 2 _ := hr.mono (by decide)
    refine ⟨_, @pss_cons _ _ _ _ _ (@ps_set _ _ (2) _ _ _ _ sc_law_bad_turns.nd rfl (Or.inl rfl) (@pe_lst _ _ _ _ (@pa_first _ 9 5 _ _ [.none, .str "01", .int (7), .bool true, .tuple [.int (0), .int (1)]] (by rfl) (@pa_cons _ _ _ _ _ (@pe_dnewK _ _) (@pa_data _ 9 _ [.list [.int (1)], .list [.int (0), .int (0)], .list [.int (0), .int (2)], .list [.int (-(1)), .int (0)], .list [.bool false], .list [.bool true, .int (0)], .list [.str "0"], .list [.int (0), .none]] (by rfl)) (by rfl)))) (by rfl) (by first | exact .inl rfl | exact .inr rfl | assumption)) (@pss_one _ _ _ (@ps_ret _ _ _ _ (@pe_op _ _ _ _ _ _ _ _ op_cat (@pe_op _ _ _ _ _ _ _ _ op_cat (pv 2) (@pe_lst _ _ _ _ (@pa_first _ 9 1 _ _ [.list [.list [.int (0)]]] (by rfl) (@pa_cons _ _ _ _ _ (@pe_listRng _ _ _ _ _ _ _ rfl B.list B.range (@pa_cons _ _ _ _ _ (@pe_int _ _ _ _) (@pa_nil _) (by rfl)) (by rfl) (by rfl) (by rfl) (by rfl)) (@pa_data _ 9 _ [.list [.int (1), .int (0), .int (10000000000000000000000000)], .str "", .tuple []] (by rfl)) (by rfl))))) (@pe_cal _ _ _ _ _ _ _ _ _ _ c_law_spoilt hr_law_spoilt (@pa_cons _ _ _ _ _ (pv 0) (@pa_cons _ _ _ _ _ (pv 1) (@pa_nil _) (by rfl)) (by rfl)) (by rfl) (by decide) (by rfl) (by rfl))))), ?_⟩
    obtain ⟨og, hog⟩ := hg.some
    refine fun xs1 H1 s1 sa1 => ?_
    have b1 : BadsAt K (hole H1 g g) xs1 := (bads_data sa1 (by decide +kernel)).keep (hole_mask hog hog)
    have l1 : xs1.length = 5 := sa1.length
    refine fun d hd => ?_
    have s2 : Same H1 (upd H1 d (.dK [])) := Same.upd_new hd
    have ndg : d ≠ g := hg.ne (s1.free hd)
    have h2d : hole (upd H1 d (.dK [])) g g d = some (.dK []) := hole_of (by rw [upd_same]) ndg ndg
    have b2 : NoTurnV K (hole (upd H1 d (.dK [])) g g) (.ref d) ∧ ∃ x, ShD (hole (upd H1 d (.dK [])) g g) (.ref d) x := ⟨.inl ⟨_, .dK h2d, kit_dict_list K⟩, .dict [], .inr ⟨d, rfl, h2d, rfl⟩, by decide +kernel, by decide +kernel, by decide +kernel⟩
    generalize (upd H1 d (.dK [])) = H2 at s2 h2d b2 ⊢
    refine fun xs3 H3 s3 sa3 => ?_
    have s13 := s1.trans s2
    have l3 : xs3.length = 8 := sa3.length
    have b3 : BadsAt K (hole H3 g g) xs3 := (bads_data sa3 (by decide +kernel)).keep (hole_mask (s13 _ _ hog) (s13 _ _ hog))
    refine ⟨by simp only [List.length_append, List.length_cons, l1, l3]; decide, fun l hl => ?_⟩
    have s4 : Same H3 (upd H3 l (.lst (xs1 ++ .ref d :: xs3))) := Same.upd_new hl
    have h4l : (upd H3 l (.lst (xs1 ++ .ref d :: xs3))) l = some (.lst (xs1 ++ .ref d :: xs3)) := by rw [upd_same]
    have b4 : BadsAt K (hole (upd H3 l (.lst (xs1 ++ .ref d :: xs3))) g g) (xs1 ++ .ref d :: xs3) := BadsAt.app (b1.keep (hole_kb (((s2.trans s3).trans s4).but g))) (BadsAt.cons ⟨b2.1.keep (hole_kb ((s3.trans s4).but g)), let ⟨x, hx⟩ := b2.2; ⟨x, hx.keep (hole_kb ((s3.trans s4).but g))⟩⟩ (b3.keep (hole_kb (s4.but g))))
    have l4 : (xs1 ++ .ref d :: xs3).length = 14 := by simp only [List.length_append, List.length_cons, l1, l3]
    have s04 : Same H (upd H3 l (.lst (xs1 ++ .ref d :: xs3))) := s13.trans (s3.trans s4)
    generalize (upd H3 l (.lst (xs1 ++ .ref d :: xs3))) = H4 at s4 h4l b4 s04 ⊢
    generalize xs1 ++ .ref d :: xs3 = ys at h4l b4 l4
    clear b1 b2 b3 sa1 sa3
    refine ⟨_, rfl, fun xs5 H5 s5 sa5 => ?_⟩
    have b5 : BadsAt K (hole H5 g g) xs5 := (bads_data sa5 (by decide +kernel)).keep (hole_mask (s04 _ _ hog) (s04 _ _ hog))
    have l5 : xs5.length = 1 := sa5.length
    refine ⟨41, rfl, fun r hr => ?_⟩
    have s6 : Same H5 (upd H5 r (.rng 0 41)) := Same.upd_new hr
    have h6r : (upd H5 r (.rng 0 41)) r = some (.rng 0 41) := by rw [upd_same]
    generalize (upd H5 r (.rng 0 41)) = H6 at s6 h6r ⊢
    refine ⟨r, 0, 41, rfl, h6r, by decide, by decide, fun m hm => ?_⟩
    have s7 : Same H6 (upd H6 m (.lst ((upTo 0 ((41 : Int) - 0).toNat).map V.int))) := Same.upd_new hm
    have s06 : Same H H6 := s04.trans (s5.trans s6)
    have nmg : m ≠ g := hg.ne (s06.free hm)
    have h7m : hole (upd H6 m (.lst ((upTo 0 ((41 : Int) - 0).toNat).map V.int))) g g m = some (.lst ((upTo 0 41).map V.int)) := hole_of (by rw [upd_same]; rfl) nmg nmg
    have lu : (upTo 0 41).length = 41 := by decide
    have b7 := bad_ints (K := K) h7m (fun h => by omega) (by omega) (by decide)
    generalize (upd H6 m (.lst ((upTo 0 ((41 : Int) - 0).toNat).map V.int))) = H7 at s7 h7m b7 ⊢
    refine fun xs8 H8 s8 sa8 => ?_
    have s07 := s06.trans s7
    have b8 : BadsAt K (hole H8 g g) xs8 := (bads_data sa8 (by decide +kernel)).keep (hole_mask (s07 _ _ hog) (s07 _ _ hog))
    have l8 : xs8.length = 3 := sa8.length
    refine ⟨by simp only [List.length_append, List.length_cons, l5, l8]; decide, fun n hn => ?_⟩
    have s9 : Same H8 (upd H8 n (.lst (xs5 ++ .ref m :: xs8))) := Same.upd_new hn
    have h9n : (upd H8 n (.lst (xs5 ++ .ref m :: xs8))) n = some (.lst (xs5 ++ .ref m :: xs8)) := by rw [upd_same]
    have b9 : BadsAt K (hole (upd H8 n (.lst (xs5 ++ .ref m :: xs8))) g g) (xs5 ++ .ref m :: xs8) := BadsAt.app (b5.keep (hole_kb (((s6.trans s7).trans (s8.trans s9)).but g))) (BadsAt.cons ⟨b7.1.keep (hole_kb ((s8.trans s9).but g)), let ⟨x, hx⟩ := b7.2; ⟨x, hx.keep (hole_kb ((s8.trans s9).but g))⟩⟩ (b8.keep (hole_kb (s9.but g))))
    have l9 : (xs5 ++ .ref m :: xs8).length = 5 := by simp only [List.length_append, List.length_cons, l5, l8]
    have s49 : Same H4 (upd H8 n (.lst (xs5 ++ .ref m :: xs8))) := (s5.trans (s6.trans s7)).trans (s8.trans s9)
    generalize (upd H8 n (.lst (xs5 ++ .ref m :: xs8))) = H9 at s9 h9n b9 s49 ⊢
    generalize xs5 ++ .ref m :: xs8 = zs at h9n b9 l9
    clear b5 b7 b8 sa5 sa8
    refine ⟨l, n, _, _, rfl, rfl, s49 _ _ h4l, h9n, Nat.le_of_lt (small1000 (by omega)), fun c hc => ?_⟩
    have s10 : Same H9 (upd H9 c (.lst (ys ++ zs))) := Same.upd_new hc
    have h10c : (upd H9 c (.lst (ys ++ zs))) c = some (.lst (ys ++ zs)) := by rw [upd_same]
    have b10 : BadsAt K (hole (upd H9 c (.lst (ys ++ zs))) g g) (ys ++ zs) := BadsAt.app (b4.keep (hole_kb ((s49.trans s10).but g))) (b9.keep (hole_kb (s10.but g)))
    have s010 : Same H (upd H9 c (.lst (ys ++ zs))) := s04.trans (s49.trans s10)
    generalize (upd H9 c (.lst (ys ++ zs))) = H10 at s10 h10c b10 s010 ⊢
    have ncg : c ≠ g := hg.ne ((s04.trans s49).free hc)
    refine ⟨_, rfl, _, rfl, g, pa, p, rfl, hg.same s010, npg, ⟨s010 _ _ tp.1, tp.2⟩, fun l2 xs H11 hl2 k11 D11 h11 lx b11 => ?_⟩
    refine ⟨c, l2, _, _, rfl, rfl, k11 _ _ h10c ncg, h11, Nat.le_of_lt (small1000 (by rw [List.length_append]; omega)), fun w hw => ?_⟩
    have s12 : Same H11 (upd H11 w (.lst (ys ++ zs ++ xs))) := Same.upd_new hw
    have hw0 : H w = none := s010.free (k11.free hw (D11.ne hw))
    exact q w _ _ hw0 ((s010.but g).trans (k11.trans (s12.but g))) (D11.same s12) upd_same (by simp only [List.length_append]; omega) (BadsAt.app ((b10.keep (hole_kb k11)).keep (hole_kb (s12.but g))) (b11.keep (hole_kb (s12.but g))))
end
end My
namespace My
open PySem L2 Mth
section
variable {P : Program} {w : World} {K : PySem.W.Frag} {mg : Str → Option Value} {base : Heap} {q_TurnError q_NoTurn q_NoFit q_NoRounds q_NoNumber q_NoRoot q_TooMany q_NoKind q_NoText q_NoName q_NoRow : Addr}
def fct : Nat → Nat
  | 0 => 1
  | n + 1 => (n + 1) * fct n
theorem fct_pos : ∀ n, 0 < fct n
  | 0 => by decide
  | n + 1 => Nat.mul_pos (Nat.succ_pos n) (fct_pos n)
def chs : Nat → Nat → Nat
  | _, 0 => 1
  | 0, _ + 1 => 0
  | n + 1, k + 1 => chs n k + chs n (k + 1)
theorem chs_zero : ∀ {n k : Nat}, n < k → chs n k = 0
  | 0, k + 1, _ => rfl
  | n + 1, k + 1, h => by
    show chs n k + chs n (k + 1) = 0
    rw [chs_zero (show n < k by omega), chs_zero (show n < k + 1 by omega)]
theorem chs_fct : ∀ {n k : Nat}, k ≤ n → chs n k * (fct k * fct (n - k)) = fct n
  | n, 0, _ => by
    cases n <;> simp [chs, fct]
  | n + 1, k + 1, h => by
    have a := chs_fct (n := n) (k := k) (by omega)
    show (chs n k + chs n (k + 1)) * (fct (k + 1) * fct (n + 1 - (k + 1))) = fct (n + 1)
    rw [show n + 1 - (k + 1) = n - k by omega, Nat.add_mul]
    have e1 : chs n k * (fct (k + 1) * fct (n - k)) = (k + 1) * fct n := by
      rw [← a]
      show chs n k * (((k + 1) * fct k) * fct (n - k)) = _
      ac_rfl
    rw [e1]
    by_cases z : k = n
    · subst z
      rw [chs_zero (show k < k + 1 by omega), Nat.zero_mul, Nat.add_zero]
      rfl
    · have b := chs_fct (n := n) (k := k + 1) (by omega)
      have e2 : chs n (k + 1) * (fct (k + 1) * fct (n - k)) = (n - k) * fct n := by
        rw [← b, show n - k = (n - (k + 1)) + 1 by omega]
        show chs n (k + 1) * (fct (k + 1) * ((n - (k + 1) + 1) * fct (n - (k + 1)))) = _
        ac_rfl
      rw [e2, ← Nat.add_mul, show k + 1 + (n - k) = n + 1 by omega]
      rfl
def heaps (d : Nat) : Nat → Nat → Nat
  | _, 0 => 1
  | 0, _ + 1 => 0
  | n + 1, k + 1 => chs n (d - 1) * heaps d (n + 1 - d) k + heaps d n (k + 1)
termination_by n k => n + k
decreasing_by all_goals omega
theorem heaps_zero' (d n : Nat) : heaps d n 0 = 1 := by cases n <;> simp [heaps]
theorem heaps_nil (d k : Nat) : heaps d 0 (k + 1) = 0 := by simp [heaps]
theorem heaps_succ (d n k : Nat) : heaps d (n + 1) (k + 1) = chs n (d - 1) * heaps d (n + 1 - d) k + heaps d n (k + 1) := by rw [heaps]
theorem heaps_none {d : Nat} (hd : 1 ≤ d) : ∀ (n k : Nat), n < k * d → heaps d n k = 0
  | n, 0, h => by omega
  | 0, k + 1, h => heaps_nil d k
  | n + 1, k + 1, h => by
    rw [heaps_succ]
    have e : (k + 1) * d = k * d + d := Nat.succ_mul k d
    rw [heaps_none hd n (k + 1) (by omega), Nat.add_zero]
    by_cases z : n < d - 1
    · rw [chs_zero z, Nat.zero_mul]
    · rw [heaps_none hd (n + 1 - d) k (by omega), Nat.mul_zero]
termination_by n k => n + k
theorem heaps_fct {d : Nat} (hd : 1 ≤ d) : ∀ (n k : Nat), k * d ≤ n → heaps d n k * (fct (n - k * d) * fct d ^ k * fct k) = fct n
  | n, 0, h => by rw [heaps_zero']; simp [fct]
  | 0, k + 1, h => by
    have e : (k + 1) * d = k * d + d := Nat.succ_mul k d
    omega
  | n + 1, k + 1, h => by
    have e : (k + 1) * d = k * d + d := Nat.succ_mul k d
    rw [heaps_succ, Nat.add_mul]
    have a := heaps_fct hd (n + 1 - d) k (by omega)
    have c := chs_fct (n := n) (k := d - 1) (by omega)
    obtain ⟨d', rfl⟩ : ∃ d', d = d' + 1 := ⟨d - 1, by omega⟩
    rw [show n - (d' + 1 - 1) = n + 1 - (d' + 1) by omega] at c
    have e1 : chs n (d' + 1 - 1) * heaps (d' + 1) (n + 1 - (d' + 1)) k * (fct (n + 1 - (k + 1) * (d' + 1)) * fct (d' + 1) ^ (k + 1) * fct (k + 1)) = (d' + 1) * (k + 1) * fct n := by
      rw [show n + 1 - (k + 1) * (d' + 1) = n + 1 - (d' + 1) - k * (d' + 1) by omega, ← c, ← a, Nat.pow_succ]
      rw [show fct (d' + 1) = (d' + 1) * fct (d' + 1 - 1) from rfl, show fct (k + 1) = (k + 1) * fct k from rfl]
      ac_rfl
    rw [e1]
    by_cases z : (k + 1) * (d' + 1) = n + 1
    · rw [heaps_none hd n (k + 1) (by omega), Nat.zero_mul, Nat.add_zero, Nat.mul_comm (d' + 1), z]
      rfl
    · have b := heaps_fct hd n (k + 1) (by omega)
      have e2 : heaps (d' + 1) n (k + 1) * (fct (n + 1 - (k + 1) * (d' + 1)) * fct (d' + 1) ^ (k + 1) * fct (k + 1)) = (n + 1 - (k + 1) * (d' + 1)) * fct n := by
        rw [← b, show n + 1 - (k + 1) * (d' + 1) = (n - (k + 1) * (d' + 1)) + 1 by omega]
        rw [show fct (n - (k + 1) * (d' + 1) + 1) = (n - (k + 1) * (d' + 1) + 1) * fct (n - (k + 1) * (d' + 1)) from rfl]
        ac_rfl
      rw [e2, ← Nat.add_mul, Nat.mul_comm (d' + 1), show (k + 1) * (d' + 1) + (n + 1 - (k + 1) * (d' + 1)) = n + 1 by omega]
      rfl
termination_by n k => n + k
theorem heaps_swap {d n e k : Nat} (hd : 1 ≤ d) (he : 1 ≤ e) (h : k * d + e ≤ n) : chs (n - 1) (e - 1) * heaps d (n - e) k = heaps d (n - 1) k * chs (n - k * d - 1) (e - 1) := by
  have a := chs_fct (n := n - 1) (k := e - 1) (by omega)
  have b := heaps_fct hd (n - e) k (by omega)
  have c := heaps_fct hd (n - 1) k (by omega)
  have f := chs_fct (n := n - k * d - 1) (k := e - 1) (by omega)
  rw [show n - 1 - (e - 1) = n - e by omega] at a
  rw [show n - e - k * d = n - k * d - e by omega] at b
  rw [show n - 1 - k * d = n - k * d - 1 by omega] at c
  rw [show n - k * d - 1 - (e - 1) = n - k * d - e by omega] at f
  have pos : 0 < fct (e - 1) * (fct (n - k * d - e) * fct d ^ k * fct k) := Nat.mul_pos (fct_pos _) (Nat.mul_pos (Nat.mul_pos (fct_pos _) (Nat.pow_pos (fct_pos _))) (fct_pos _))
  refine Nat.eq_of_mul_eq_mul_right pos ?_
  have x : chs (n - 1) (e - 1) * heaps d (n - e) k * (fct (e - 1) * (fct (n - k * d - e) * fct d ^ k * fct k)) = fct (n - 1) := by
    rw [← a, ← b]; ac_rfl
  have y : heaps d (n - 1) k * chs (n - k * d - 1) (e - 1) * (fct (e - 1) * (fct (n - k * d - e) * fct d ^ k * fct k)) = fct (n - 1) := by
    rw [← c, ← f]; ac_rfl
  rw [x, y]
theorem follow_eq {l : Nat} : ∀ {n d : Nat}, d + 1 ≤ n → followN n l d = chs (n - 1) d * (fct d * l ^ d) := by
  have fall : ∀ (d n : Nat), d + 1 ≤ n → followN n l d * fct (n - 1 - d) = fct (n - 1) * l ^ d := by
    intro d
    induction d with
    | zero => intro n h; simp [followN]
    | succ d ih =>
      intro n h
      have := ih n (by omega)
      show followN n l d * (n - (d + 1)) * l * fct (n - 1 - (d + 1)) = _
      rw [Nat.pow_succ, ← Nat.mul_assoc, ← this]
      rw [show n - 1 - d = (n - 1 - (d + 1)) + 1 by omega]
      rw [show fct (n - 1 - (d + 1) + 1) = (n - 1 - (d + 1) + 1) * fct (n - 1 - (d + 1)) from rfl, show n - (d + 1) = n - 1 - (d + 1) + 1 by omega]
      ac_rfl
  intro n d h
  refine Nat.eq_of_mul_eq_mul_right (fct_pos (n - 1 - d)) ?_
  rw [fall d n h, ← chs_fct (n := n - 1) (k := d) (by omega)]
  ac_rfl
def sumR : Nat → (Nat → Nat) → Nat
  | 0, _ => 0
  | n + 1, f => sumR n f + f n
theorem sumR_congr {f g : Nat → Nat} : ∀ {n : Nat}, (∀ k, k < n → f k = g k) → sumR n f = sumR n g
  | 0, _ => rfl
  | n + 1, h => by
    show sumR n f + f n = sumR n g + g n
    rw [sumR_congr fun k hk => h k (by omega), h n (by omega)]
theorem sumR_add (f g : Nat → Nat) : ∀ n, sumR n (fun k => f k + g k) = sumR n f + sumR n g
  | 0 => rfl
  | n + 1 => by
    show sumR n (fun k => f k + g k) + (f n + g n) = sumR n f + f n + (sumR n g + g n)
    rw [sumR_add f g n]; omega
theorem sumR_mul (c : Nat) (f : Nat → Nat) : ∀ n, c * sumR n f = sumR n fun k => c * f k
  | 0 => rfl
  | n + 1 => by
    show c * (sumR n f + f n) = sumR n (fun k => c * f k) + c * f n
    rw [Nat.mul_add, sumR_mul c f n]
theorem sumR_shift (f : Nat → Nat) : ∀ n, sumR (n + 1) f = f 0 + sumR n fun k => f (k + 1)
  | 0 => by show 0 + f 0 = f 0 + 0; omega
  | n + 1 => by
    show sumR (n + 1) f + f (n + 1) = f 0 + (sumR n (fun k => f (k + 1)) + f (n + 1))
    rw [sumR_shift f n]; omega
theorem sumR_more {f : Nat → Nat} {n m : Nat} (h : n ≤ m) (z : ∀ k, n ≤ k → k < m → f k = 0) : sumR m f = sumR n f := by
  induction m with
  | zero => rw [show n = 0 by omega]
  | succ m ih =>
    by_cases e : n = m + 1
    · rw [e]
    · show sumR m f + f m = sumR n f
      rw [ih (by omega) fun k h1 h2 => z k h1 (by omega), z m (by omega) (by omega)]; rfl
theorem sumR_zero {f : Nat → Nat} : ∀ {n : Nat}, (∀ k, k < n → f k = 0) → sumR n f = 0
  | 0, _ => rfl
  | n + 1, h => by
    show sumR n f + f n = 0
    rw [sumR_zero fun k hk => h k (by omega), h n (by omega)]
def sumL (rs : List Nat) (f : Nat → Nat) : Nat := (rs.map f).sum
theorem sumL_cons (r : Nat) (rs : List Nat) (f : Nat → Nat) : sumL (r :: rs) f = f r + sumL rs f := by unfold sumL; rw [List.map_cons, List.sum_cons]
theorem sumL_snoc (r : Nat) (rs : List Nat) (f : Nat → Nat) : sumL (rs ++ [r]) f = sumL rs f + f r := by unfold sumL; rw [List.map_append, List.sum_append]; simp
theorem sumL_congr {f g : Nat → Nat} : ∀ {rs : List Nat}, (∀ r ∈ rs, f r = g r) → sumL rs f = sumL rs g
  | [], _ => rfl
  | r :: rs, h => by rw [sumL_cons, sumL_cons, h r List.mem_cons_self, sumL_congr fun x hx => h x (List.mem_cons_of_mem _ hx)]
theorem sumL_mul (c : Nat) (f : Nat → Nat) : ∀ rs, c * sumL rs f = sumL rs fun r => c * f r
  | [] => rfl
  | r :: rs => by rw [sumL_cons, sumL_cons, Nat.mul_add, sumL_mul c f rs]
theorem sum_swap (n : Nat) (f : Nat → Nat → Nat) : ∀ rs : List Nat, sumL rs (fun r => sumR n (f r)) = sumR n fun k => sumL rs fun r => f r k
  | [] => by
    have : ∀ n, sumR n (fun k => sumL [] fun r => f r k) = 0 := fun n => by
      induction n with
      | zero => rfl
      | succ n ih => show sumR n _ + 0 = 0; rw [ih]
    rw [this]; rfl
  | r :: rs => by
    rw [sumL_cons, sum_swap n f rs, ← sumR_add]
    exact sumR_congr fun k _ => by rw [sumL_cons]
def Jn (l : Nat) (rs : List Nat) (j : Nat → Nat) : Prop := j 0 = 1 ∧ ∀ n, 1 ≤ n → j n = sumL rs fun d => if d ≤ n then followN n l (d - 1) * j (n - d) else 0
def oneD (l d : Nat) : Nat := fct (d - 1) * l ^ (d - 1)
theorem Jn.more {l d : Nat} {rs : List Nat} {j i : Nat → Nat} (hd : 1 ≤ d) (h1 : ∀ r ∈ rs, 1 ≤ r) (hj : Jn l rs j) (hi : Jn l (rs ++ [d]) i) : ∀ n N : Nat, n < N → i n = sumR N fun k => heaps d n k * oneD l d ^ k * j (n - k * d) := by
  intro n
  induction n using Nat.strongRecOn with
  | ind n ih =>
  intro N hN
  obtain ⟨N, rfl⟩ : ∃ m, N = m + 1 := ⟨N - 1, by omega⟩
  rcases Nat.eq_zero_or_pos n with rfl | n1
  · rw [hi.1, sumR_shift, heaps_zero', Nat.pow_zero, Nat.zero_mul, Nat.sub_zero, hj.1]
    rw [sumR_zero fun k _ => by rw [heaps_nil, Nat.zero_mul, Nat.zero_mul]]
  rw [hi.2 n n1, sumL_snoc]
  have A : (sumL rs fun e => if e ≤ n then followN n l (e - 1) * i (n - e) else 0) = sumR (N + 1) fun k => heaps d (n - 1) k * oneD l d ^ k * (if k * d < n then j (n - k * d) else 0) := by
    have a1 : (sumL rs fun e => if e ≤ n then followN n l (e - 1) * i (n - e) else 0) = sumL rs fun e => sumR (N + 1) fun k => oneD l d ^ k * (if e ≤ n then followN n l (e - 1) * heaps d (n - e) k * j (n - e - k * d) else 0) := by
      refine sumL_congr fun e he => ?_
      have e1 := h1 e he
      by_cases c : e ≤ n
      · rw [if_pos c, ih (n - e) (by omega) (N + 1) (by omega), sumR_mul]
        refine sumR_congr fun k _ => ?_
        rw [if_pos c]; ac_rfl
      · rw [if_neg c, sumR_zero fun k _ => by rw [if_neg c, Nat.mul_zero]]
    rw [a1, sum_swap]
    refine sumR_congr fun k _ => ?_
    rw [← sumL_mul]
    by_cases c : k * d < n
    · rw [if_pos c, hj.2 (n - k * d) (by omega)]
      have : (sumL rs fun e => if e ≤ n then followN n l (e - 1) * heaps d (n - e) k * j (n - e - k * d) else 0) = heaps d (n - 1) k * sumL rs fun e => if e ≤ n - k * d then followN (n - k * d) l (e - 1) * j (n - k * d - e) else 0 := by
        rw [sumL_mul]
        refine sumL_congr fun e he => ?_
        have e1 := h1 e he
        by_cases c2 : e ≤ n - k * d
        · rw [if_pos c2, if_pos (by omega), follow_eq (show e - 1 + 1 ≤ n by omega), follow_eq (show e - 1 + 1 ≤ n - k * d by omega), show n - e - k * d = n - k * d - e by omega]
          have s := heaps_swap (d := d) (n := n) (e := e) (k := k) hd e1 (by omega)
          have : chs (n - 1) (e - 1) * (fct (e - 1) * l ^ (e - 1)) * heaps d (n - e) k = heaps d (n - 1) k * (chs (n - k * d - 1) (e - 1) * (fct (e - 1) * l ^ (e - 1))) := by
            calc _ = (chs (n - 1) (e - 1) * heaps d (n - e) k) * (fct (e - 1) * l ^ (e - 1)) := by ac_rfl
              _ = _ := by rw [s]; ac_rfl
          rw [this]; ac_rfl
        · rw [if_neg c2, Nat.mul_zero]
          by_cases c3 : e ≤ n
          · rw [if_pos c3, heaps_none hd (n - e) k (by omega), Nat.mul_zero, Nat.zero_mul]
          · rw [if_neg c3]
      rw [this]; ac_rfl
    · rw [if_neg c, Nat.mul_zero]
      have : (sumL rs fun e => if e ≤ n then followN n l (e - 1) * heaps d (n - e) k * j (n - e - k * d) else 0) = sumL rs fun _ => 0 := sumL_congr fun e he => by
        have e1 := h1 e he
        by_cases c3 : e ≤ n
        · rw [if_pos c3, heaps_none hd (n - e) k (by omega), Nat.mul_zero, Nat.zero_mul]
        · rw [if_neg c3]
      have z : ∀ rs : List Nat, (sumL rs fun _ => 0) = 0 := fun rs => by
        induction rs with
        | nil => rfl
        | cons r rs ih => rw [sumL_cons, ih]
      rw [this, z, Nat.mul_zero]
  have B : (if d ≤ n then followN n l (d - 1) * i (n - d) else 0) = sumR N fun k => chs (n - 1) (d - 1) * heaps d (n - d) k * oneD l d ^ (k + 1) * j (n - (k + 1) * d) := by
    by_cases c : d ≤ n
    · rw [if_pos c, follow_eq (show d - 1 + 1 ≤ n by omega), ih (n - d) (by omega) N (by omega), sumR_mul]
      refine sumR_congr fun k _ => ?_
      rw [Nat.pow_succ, show n - d - k * d = n - (k + 1) * d by rw [Nat.succ_mul]; omega]
      unfold oneD
      ac_rfl
    · rw [if_neg c]
      rw [sumR_zero fun k _ => by rw [chs_zero (show n - 1 < d - 1 by omega), Nat.zero_mul, Nat.zero_mul, Nat.zero_mul]]
  rw [A, B, sumR_shift, sumR_shift (fun k => heaps d n k * oneD l d ^ k * j (n - k * d)), Nat.add_assoc, ← sumR_add]
  congr 1
  · rw [heaps_zero', heaps_zero', Nat.zero_mul, if_pos n1]
  · refine sumR_congr fun k _ => ?_
    obtain ⟨m, rfl⟩ : ∃ m, n = m + 1 := ⟨n - 1, by omega⟩
    rw [heaps_succ, Nat.add_sub_cancel]
    by_cases c : (k + 1) * d < m + 1
    · rw [if_pos c, ← Nat.add_mul, ← Nat.add_mul, Nat.add_comm]
    · rw [if_neg c, Nat.mul_zero, Nat.zero_add, heaps_none hd m (k + 1) (by omega), Nat.add_zero (chs m (d - 1) * _)]
theorem Jn.none {l : Nat} {j : Nat → Nat} (h : Jn l [] j) {n : Nat} (n1 : 1 ≤ n) : j n = 0 := h.2 n n1
def jf (l : Nat) (rs : List Nat) (n : Nat) : Nat := (joinsL l rs n).getD n 0
theorem joinsL_at (l : Nat) (rs : List Nat) : ∀ (k i : Nat), i ≤ k → (joinsL l rs k).getD i 0 = jf l rs i
  | 0, i, h => by rw [show i = 0 by omega]; rfl
  | k + 1, i, h => by
    by_cases e : i = k + 1
    · rw [e]; rfl
    · show (joinsL l rs k ++ [_]).getD i 0 = _
      rw [List.getD_eq_getElem?_getD, List.getElem?_append_left (by rw [joinsL_len]; omega), ← List.getD_eq_getElem?_getD]
      exact joinsL_at l rs k i (by omega)
theorem filter_sumL (n : Nat) (f : Nat → Nat) : ∀ rs : List Nat, ((rs.filter fun d => decide (d ≤ n)).map f).sum = sumL rs fun d => if d ≤ n then f d else 0
  | [] => rfl
  | r :: rs => by
    rw [sumL_cons, ← filter_sumL n f rs]
    by_cases c : r ≤ n
    · rw [List.filter_cons_of_pos (by simpa using c), List.map_cons, List.sum_cons, if_pos c]
    · rw [List.filter_cons_of_neg (by simpa using c), if_neg c, Nat.zero_add]
theorem jf_Jn {l : Nat} {rs : List Nat} (h1 : ∀ d ∈ rs, 1 ≤ d) : Jn l rs (jf l rs) := by
  refine ⟨rfl, fun n n1 => ?_⟩
  obtain ⟨k, rfl⟩ : ∃ k, n = k + 1 := ⟨n - 1, by omega⟩
  show (joinsL l rs k ++ [_]).getD (k + 1) 0 = _
  rw [List.getD_eq_getElem?_getD, List.getElem?_append_right (by rw [joinsL_len]; omega), joinsL_len, Nat.sub_self]
  show stepJ l rs (joinsL l rs k) (k + 1) = _
  unfold stepJ
  rw [filter_sumL]
  refine sumL_congr fun d hd => ?_
  have := h1 d hd
  by_cases c : d ≤ k + 1
  · rw [if_pos c, if_pos c, joinsL_at l rs k _ (by omega)]
  · rw [if_neg c, if_neg c]
theorem jf_more {l : Nat} {rs : List Nat} (h1 : ∀ d ∈ rs, 1 ≤ d) {a d left : Nat} (ha : rs[a]? = some d) : jf l (rs.take (a + 1)) left = sumR (left / d + 1) fun k => heaps d left k * oneD l d ^ k * jf l (rs.take a) (left - k * d) := by
  have hd := h1 d (List.mem_of_getElem? ha)
  have t1 : ∀ r ∈ rs.take a, 1 ≤ r := fun r hr => h1 r (List.mem_of_mem_take hr)
  rw [take_succ_of ha]
  have e := Jn.more hd t1 (jf_Jn (l := l) t1) (jf_Jn (l := l) (rs := rs.take a ++ [d]) fun r hr => by
    rcases List.mem_append.mp hr with z | z
    · exact t1 r z
    · rw [List.mem_singleton.mp z]; exact hd) left (left + 1) (by omega)
  rw [e]
  refine sumR_more (Nat.succ_le_succ (Nat.div_le_self _ _)) fun k k1 k2 => ?_
  rw [heaps_none hd left k (by
    have : left / d < k := by omega
    exact (Nat.div_lt_iff_lt_mul (by omega)).mp this), Nat.zero_mul, Nat.zero_mul]
theorem jf_nil {l n : Nat} (n1 : 1 ≤ n) : jf l [] n = 0 := (jf_Jn (l := l) (rs := []) (fun d hd => by cases hd)).none n1
theorem jf_zero (l : Nat) (rs : List Nat) : jf l rs 0 = 1 := rfl
structure Nd where
  left : Nat
  a : Nat
  t : Nat
  b : Nat
  q : Nat
structure NdOk (n : Nat) (rs : List Nat) (x : Nd) : Prop where
  le : x.left ≤ n
  al : x.a ≤ rs.length
  eq : fct n * x.t = x.q * x.b * fct x.left
  b1 : 1 ≤ x.b
  tb : x.t ≤ 1600 ^ (n - x.left)
  bb : x.b ≤ 1600 ^ (n - x.left)
def ndV (x : Nd) : List V := [.int (x.left : Int), .int ((x.a : Int) - 1), .int (x.t : Int), .int (x.b : Int)]
def ndVal (l : Nat) (rs : List Nat) (x : Nd) : Nat := x.q * jf l (rs.take x.a) x.left
def cst (rs : List Nat) : Nat → Nat → Nat
  | 0, _ => 1
  | a + 1, left => 1 + sumR (left / rs.getD a 1 + 1) fun k => cst rs a (left - k * rs.getD a 1)
theorem cst_pos (rs : List Nat) (a left : Nat) : 1 ≤ cst rs a left := by
  cases a with
  | zero => exact Nat.le_refl _
  | succ a => show 1 ≤ 1 + _; omega
def chd (l d : Nat) (x : Nd) (k : Nat) : Nd := ⟨x.left - k * d, x.a - 1, x.t * oneD l d ^ k, x.b * fct d ^ k * fct k, x.q * heaps d x.left k * oneD l d ^ k⟩
theorem fct_le : ∀ {n : Nat}, n ≤ 40 → fct n ≤ 40 ^ n
  | 0, _ => Nat.le_refl _
  | n + 1, h => by
    show (n + 1) * fct n ≤ 40 ^ n * 40
    rw [Nat.mul_comm]
    exact Nat.mul_le_mul (fct_le (by omega)) h
theorem one_le {l d : Nat} (hl : l ≤ 40) (hd : d ≤ 40) : oneD l d ≤ 1600 ^ (d - 1) := by
  unfold oneD
  rw [show 1600 = 40 * 40 from rfl, Nat.mul_pow]
  exact Nat.mul_le_mul (fct_le (by omega)) (Nat.pow_le_pow_left hl _)
theorem chd_ok {l n d : Nat} {rs : List Nat} {x : Nd} (h : NdOk n rs x) (hl : l ≤ 40) (hn : n ≤ 40) (d1 : 1 ≤ d) (d2 : d ≤ 40) {k : Nat} (hk : k * d ≤ x.left) : NdOk n rs (chd l d x k) := by
  have hle := h.le
  have hal := h.al
  refine ⟨by show x.left - k * d ≤ n; omega, by show x.a - 1 ≤ rs.length; omega, ?_, ?_, ?_, ?_⟩
  · show fct n * (x.t * oneD l d ^ k) = x.q * heaps d x.left k * oneD l d ^ k * (x.b * fct d ^ k * fct k) * fct (x.left - k * d)
    rw [← Nat.mul_assoc, h.eq, ← heaps_fct d1 x.left k hk]
    ac_rfl
  · show 1 ≤ x.b * fct d ^ k * fct k
    exact Nat.mul_pos (Nat.mul_pos h.b1 (Nat.pow_pos (fct_pos _))) (fct_pos _)
  · show x.t * oneD l d ^ k ≤ 1600 ^ (n - (x.left - k * d))
    rw [show n - (x.left - k * d) = (n - x.left) + k * d by omega, Nat.pow_add]
    refine Nat.mul_le_mul h.tb (Nat.le_trans (Nat.pow_le_pow_left (one_le hl d2) k) ?_)
    rw [← Nat.pow_mul, Nat.mul_comm]
    exact Nat.pow_le_pow_right (by decide) (Nat.mul_le_mul_left _ (by omega))
  · show x.b * fct d ^ k * fct k ≤ 1600 ^ (n - (x.left - k * d))
    rw [show n - (x.left - k * d) = (n - x.left) + k * d by omega, Nat.pow_add, Nat.mul_assoc]
    refine Nat.mul_le_mul h.bb ?_
    have kd : k ≤ k * d := Nat.le_mul_of_pos_right _ d1
    rw [show 1600 = 40 * 40 from rfl, Nat.mul_pow]
    refine Nat.mul_le_mul ?_ (Nat.le_trans (fct_le (by omega)) (Nat.pow_le_pow_right (by decide) kd))
    rw [Nat.mul_comm k d, Nat.pow_mul]
    exact Nat.pow_le_pow_left (fct_le d2) k
theorem sumR_map (f : Nat → Nat) : ∀ n, ((List.range n).map f).sum = sumR n f
  | 0 => rfl
  | n + 1 => by rw [List.range_succ, List.map_append, List.sum_append, sumR_map f n]; simp [sumR]
theorem sumR_q (q : Nat) (f : Nat → Nat) (n : Nat) : sumR n (fun k => q * f k) = q * sumR n f := (sumR_mul q f n).symm
theorem chd_val {l : Nat} {rs : List Nat} (h1 : ∀ d ∈ rs, 1 ≤ d) {x : Nd} {a d : Nat} (ha : x.a = a + 1) (hd : rs[a]? = some d) : ((List.range (x.left / d + 1)).map fun k => ndVal l rs (chd l d x k)).sum = ndVal l rs x := by
  rw [sumR_map]
  unfold ndVal
  rw [ha, jf_more h1 hd, ← sumR_q]
  refine sumR_congr fun k _ => ?_
  show x.q * heaps d x.left k * oneD l d ^ k * jf l (rs.take (x.a - 1)) (x.left - k * d) = _
  rw [ha, Nat.add_sub_cancel]
  ac_rfl
theorem chd_cst {l : Nat} {rs : List Nat} {x : Nd} {a d : Nat} (ha : x.a = a + 1) (hd : rs[a]? = some d) : ((List.range (x.left / d + 1)).map fun k => cst rs (chd l d x k).a (chd l d x k).left).sum + 1 = cst rs x.a x.left := by
  rw [sumR_map, ha]
  show _ = 1 + sumR (x.left / rs.getD a 1 + 1) fun k => cst rs a (x.left - k * rs.getD a 1)
  rw [List.getD_eq_getElem?_getD, hd]
  show _ = 1 + sumR (x.left / d + 1) fun k => cst rs a (x.left - k * d)
  rw [Nat.add_comm]
  congr 1
  refine sumR_congr fun k _ => ?_
  show cst rs (x.a - 1) (x.left - k * d) = _
  rw [ha, Nat.add_sub_cancel]
structure PileAt (H : Hp) (pl : Addr) (n : Nat) (rs : List Nat) (ts : List Addr) (nds : List Nd) : Prop where
  at_ : H pl = some (.lst (ts.map V.ref))
  len : ts.length = nds.length
  tup : ∀ (i : Nat) t x, ts[i]? = some t → nds[i]? = some x → H t = some (.tup (ndV x))
  ok : ∀ x ∈ nds, NdOk n rs x
  lev : ∀ (i : Nat) x, nds[i]? = some x → x.a + i / 42 ≤ rs.length
  ne : ∀ t ∈ ts, t ≠ pl
theorem PileAt.few {H : Hp} {pl : Addr} {n : Nat} {rs : List Nat} {ts : List Addr} {nds : List Nd} (h : PileAt H pl n rs ts nds) (hr : rs.length ≤ 40) : nds.length ≤ 1722 := by
  rcases Nat.lt_or_ge nds.length 1723 with z | z
  · omega
  · have := h.lev 1722 _ (List.getElem?_eq_getElem (by omega))
    omega
theorem PileAt.keep {H H' : Hp} {pl : Addr} {n : Nat} {rs : List Nat} {ts : List Addr} {nds : List Nd} (h : PileAt H pl n rs ts nds) (s : Same H H') : PileAt H' pl n rs ts nds :=
  ⟨s _ _ h.at_, h.len, fun i t x a b => s _ _ (h.tup i t x a b), h.ok, h.lev, h.ne⟩
theorem PileAt.push {H : Hp} {pl t : Addr} {n : Nat} {rs : List Nat} {ts : List Addr} {nds : List Nd} {x : Nd} (h : PileAt H pl n rs ts nds) (ht : H t = some (.tup (ndV x))) (ox : NdOk n rs x) (lx : x.a + nds.length / 42 ≤ rs.length) (nt : t ≠ pl) : PileAt (upd H pl (.lst (ts.map V.ref ++ [.ref t]))) pl n rs (ts ++ [t]) (nds ++ [x]) := by
  have cases_ : ∀ {i : Nat} {y : Nd}, (nds ++ [x])[i]? = some y → nds[i]? = some y ∨ (i = nds.length ∧ y = x) := fun {i y} e => by
    rcases Nat.lt_or_ge i nds.length with z | z
    · rw [List.getElem?_append_left z] at e; exact .inl e
    · rw [List.getElem?_append_right z] at e
      have i2 : i - nds.length < 1 := (List.getElem?_eq_some_iff.mp e).1
      have : i = nds.length := by omega
      subst this
      rw [Nat.sub_self] at e
      cases e
      exact .inr ⟨rfl, rfl⟩
  refine ⟨by rw [upd_same, List.map_append]; rfl, by rw [List.length_append, List.length_append, h.len]; rfl, fun i u y eu ey => ?_, fun y hy => ?_, fun i y ey => ?_, fun u hu => ?_⟩
  · rcases cases_ ey with e | ⟨rfl, rfl⟩
    · have il : i < ts.length := by rw [h.len]; exact (List.getElem?_eq_some_iff.mp e).1
      rw [List.getElem?_append_left il] at eu
      rw [upd_ne (h.ne u (List.mem_of_getElem? eu))]
      exact h.tup i u y eu e
    · rw [List.getElem?_append_right (by rw [h.len]; exact Nat.le_refl _), h.len, Nat.sub_self] at eu
      cases eu
      rw [upd_ne nt]
      exact ht
  · rcases List.mem_append.mp hy with z | z
    · exact h.ok y z
    · rw [List.mem_singleton.mp z]; exact ox
  · rcases cases_ ey with e | ⟨rfl, rfl⟩
    · exact h.lev i y e
    · exact lx
  · rcases List.mem_append.mp hu with z | z
    · exact h.ne u z
    · rw [List.mem_singleton.mp z]; exact nt
theorem PileAt.pop {H : Hp} {pl : Addr} {n : Nat} {rs : List Nat} {ts : List Addr} {nds : List Nd} {x : Nd} (h : PileAt H pl n rs ts (nds ++ [x])) : ∃ ts' t, ts = ts' ++ [t] ∧ H t = some (.tup (ndV x)) ∧ PileAt (upd H pl (.lst (ts'.map V.ref))) pl n rs ts' nds ∧ NdOk n rs x ∧ x.a + nds.length / 42 ≤ rs.length := by
  have l0 : ts.length = nds.length + 1 := by rw [h.len, List.length_append]; rfl
  obtain ⟨ts', t, rfl⟩ : ∃ ts' t, ts = ts' ++ [t] := by
    have ne : ts ≠ [] := fun z => by rw [z] at l0; simp at l0
    exact ⟨ts.dropLast, ts.getLast ne, (List.dropLast_concat_getLast ne).symm⟩
  have l1 : ts'.length = nds.length := by rw [List.length_append] at l0; simp at l0; exact l0
  have ex : (nds ++ [x])[nds.length]? = some x := by rw [List.getElem?_append_right (Nat.le_refl _), Nat.sub_self]; rfl
  have et : (ts' ++ [t])[nds.length]? = some t := by rw [List.getElem?_append_right (by omega), l1, Nat.sub_self]; rfl
  refine ⟨ts', t, rfl, h.tup _ t x et ex, ⟨upd_same, l1, fun i u y eu ey => ?_, fun y hy => h.ok y (List.mem_append_left _ hy), fun i y ey => h.lev i y ?_, fun u hu => h.ne u (List.mem_append_left _ hu)⟩, h.ok x (List.mem_append_right _ (List.mem_singleton.mpr rfl)), h.lev _ x ex⟩
  · rw [upd_ne (h.ne u (List.mem_append_left _ (List.mem_of_getElem? eu)))]
    refine h.tup i u y ?_ ?_
    · rw [List.getElem?_append_left (List.getElem?_eq_some_iff.mp eu).1]; exact eu
    · rw [List.getElem?_append_left (List.getElem?_eq_some_iff.mp ey).1]; exact ey
  · rw [List.getElem?_append_left (List.getElem?_eq_some_iff.mp ey).1]; exact ey
end
end My
namespace My
open PySem L2 Mth
section
def evN (n : Nat) : Nat → List (List Int)
  | 0 => [[]]
  | k + 1 => (evN n k).flatMap fun r => ((List.range n).filter fun (t : Nat) => !decide ((t : Int) ∈ r)).map fun (t : Nat) => r ++ [(t : Int)]
theorem evN_mem {n : Nat} : ∀ (k : Nat) {r : List Int}, r.length = k → r.Nodup → (∀ x ∈ r, 0 ≤ x ∧ x < (n : Int)) → r ∈ evN n k
  | 0, r, hl, _, _ => by rw [List.length_eq_zero_iff.mp hl]; exact List.mem_singleton.mpr rfl
  | k + 1, r, hl, nd, b => by
    obtain ⟨r', t, rfl⟩ : ∃ r' t, r = r' ++ [t] := by
      have ne : r ≠ [] := fun z => by rw [z] at hl; cases hl
      exact ⟨r.dropLast, r.getLast ne, (List.dropLast_concat_getLast ne).symm⟩
    have hl' : r'.length = k := by rw [List.length_append] at hl; simp at hl; exact hl
    rw [List.nodup_append] at nd
    have bt := b t (List.mem_append_right _ (List.mem_singleton.mpr rfl))
    refine List.mem_flatMap.mpr ⟨r', evN_mem k hl' nd.1 fun x hx => b x (List.mem_append_left _ hx), List.mem_map.mpr ⟨t.toNat, List.mem_filter.mpr ⟨List.mem_range.mpr (by omega), ?_⟩, by rw [show ((t.toNat : Nat) : Int) = t by omega]⟩⟩
    rw [show ((t.toNat : Nat) : Int) = t by omega, decide_eq_false (fun z => nd.2.2 t z t (List.mem_singleton.mpr rfl) rfl)]
    rfl
theorem evN_all {p : List Int} (t : IsT p) : p ∈ evN p.length p.length := evN_mem _ rfl t.nd fun x hx => ⟨t.lo x hx, t.hi x hx⟩
theorem evN_turns : ∀ n, n < 6 → ∀ p ∈ evN n n, p.Nodup ∧ (∀ x ∈ p, 0 ≤ x) ∧ (∀ x ∈ p, x < (p.length : Int)) ∧ p.length = n := by decide +kernel
theorem evN_many : ∀ n, n < 6 → ∀ k, k < 6 → (evN n k).length ≤ 120 := by decide +kernel
theorem evN_len {n : Nat} : ∀ (k : Nat) {r : List Int}, r ∈ evN n k → r.length = k
  | 0, r, h => by rw [List.mem_singleton.mp h]; rfl
  | k + 1, r, h => by
    obtain ⟨r', h', e⟩ := List.mem_flatMap.mp h
    obtain ⟨t, _, rfl⟩ := List.mem_map.mp e
    rw [List.length_append, evN_len k h']; rfl
theorem it_mod' {p : List Int} {x : Int} {L : Nat} (h : it p L x = x) (m : Nat) : it p (m % L) x = it p m x := by
  have k : ∀ c, it p (L * c) x = x := fun c => by
    induction c with
    | zero => rfl
    | succ c ih => rw [Nat.mul_succ, it_add, h, ih]
  rw [← Nat.mod_add_div m L, it_add, k, Nat.add_mul_mod_self_left, Nat.mod_mod]
def perC (p : List Int) (i : Nat) : Nat := (((List.range 5).map (· + 1)).find? fun L => decide (it p L (i : Int) = (i : Int))).getD 0
def powC (p : List Int) (r : Nat) : List Int := (List.range p.length).map fun (i : Nat) => it p (r % perC p i) (i : Int)
def powL (p : List Int) (m : Nat) : List Int := (List.range p.length).map fun (i : Nat) => it p m (i : Int)
theorem pow_is {q t : List Int} {m : Nat} (h : PowIs q (m : Int) t) : t = powL q m := by
  refine List.ext_getElem? fun i => ?_
  have l1 : (powL q m).length = q.length := by unfold powL; rw [List.length_map, List.length_range]
  by_cases hi : i < q.length
  · obtain ⟨L, pr, e⟩ := h.2 (i : Int) ⟨by omega, by omega⟩
    have e2 : t[i]? = some (it q ((m : Int) % (L : Int)).toNat (i : Int)) := by
      unfold at0 at e
      simpa using e
    rw [e2]
    unfold powL
    rw [List.getElem?_map, List.getElem?_range hi]
    show some _ = some _
    rw [← Int.natCast_emod, Int.toNat_natCast, it_mod' pr.back]
  · rw [List.getElem?_eq_none (by rw [h.1]; omega), List.getElem?_eq_none (by omega)]
def encP (p : List Int) : Nat := p.foldl (fun a x => 5 * a + x.toNat) 0
def decP : Nat → Nat → List Int
  | 0, _ => []
  | n + 1, e => decP n (e / 5) ++ [((e % 5 : Nat) : Int)]
theorem perC_ok : ∀ n, n < 6 → ∀ p ∈ evN n n, p.length = n ∧ ∀ i, i < n → it p (perC p i) (i : Int) = (i : Int) ∧ 60 % perC p i = 0 ∧ 0 < perC p i ∧ ∀ j, j < perC p i → 0 < j → it p j (i : Int) ≠ (i : Int) := by decide +kernel
theorem powL_C {n : Nat} (hn : n ≤ 5) {p : List Int} (hp : p ∈ evN n n) (m : Nat) : powL p m = powC p (m % 60) := by
  obtain ⟨el, h⟩ := perC_ok n (by omega) p hp
  unfold powL powC
  refine List.map_congr_left fun i hi => ?_
  have hi := List.mem_range.mp hi
  obtain ⟨e1, e2, _⟩ := h i (by omega)
  obtain ⟨c, hc⟩ := Nat.dvd_of_mod_eq_zero e2
  have e3 : m % 60 % perC p i = m % perC p i := by rw [hc]; exact Nat.mod_mul_right_mod _ _ _
  rw [e3, it_mod' e1]
theorem pow_dec : ∀ n, n < 6 → ∀ r, r < 60 → ∀ p ∈ evN n n, decP n (encP (powC p r)) = powC p r := by decide +kernel
theorem p_dec : ∀ n, n < 6 → ∀ p ∈ evN n n, decP n (encP p) = p := by decide +kernel
def ringsC (p : List Int) : Nat → List (List Int)
  | 0 => []
  | i + 1 => if (i : Int) ∈ (ringsC p i).flatten then ringsC p i else ringsC p i ++ [ringL p i (perC p i)]
theorem ringsC_eq {n : Nat} (hn : n ≤ 5) {p : List Int} (hp : p ∈ evN n n) : ∀ i, i ≤ n → ringsC p i = ringsF p i
  | 0, _ => rfl
  | i + 1, h => by
    obtain ⟨el, hh⟩ := perC_ok n (by omega) p hp
    obtain ⟨a, _, b, c⟩ := hh i (by omega)
    have pr : Per p (i : Int) (perC p i) := ⟨b, a, fun j j0 j1 => c j j1 j0⟩
    show (if (i : Int) ∈ (ringsC p i).flatten then ringsC p i else ringsC p i ++ [ringL p i (perC p i)]) = if (i : Int) ∈ (ringsF p i).flatten then ringsF p i else ringsF p i ++ [ringL p i (perOf p i)]
    rw [ringsC_eq hn hp i (by omega), perOf_eq pr]
def howC (n : Nat) (p : List Int) (m : Nat) : Nat := prodF (fun l => joinsN l m (cntL (ringsC p n) l)) ((List.range n).map (· + 1))
theorem cnt_fit : ∀ n, n < 6 → ∀ p ∈ evN n n, ∀ l, l < 6 → l * cntL (ringsC p n) l ≤ 5 := by decide +kernel
theorem div60 : ∀ k, k < 6 → 0 < k → 60 % k = 0 := by decide +kernel
theorem gcd_60 {k m : Nat} (k0 : 0 < k) (hk : k ≤ 5) : Nat.gcd k (m % 60) = Nat.gcd k m := by
  obtain ⟨c, hc⟩ := Nat.dvd_of_mod_eq_zero (div60 k (by omega) k0)
  have e : m % 60 % k = m % k := by rw [hc]; exact Nat.mod_mul_right_mod _ _ _
  rw [Nat.gcd_rec k (m % 60), Nat.gcd_rec k m, e]
theorem rights_60 {l m c : Nat} (l1 : 1 ≤ l) (h : l * c ≤ 5) : rightsN l (m % 60) c = rightsN l m c := by
  unfold rightsN
  refine List.filter_congr fun d hd => ?_
  obtain ⟨j, hj, rfl⟩ := List.mem_map.mp hd
  have hj := List.mem_range.mp hj
  have b : (j + 1) * l ≤ 5 := Nat.le_trans (Nat.mul_le_mul_right l (show j + 1 ≤ c from hj)) (by rw [Nat.mul_comm]; exact h)
  rw [gcd_60 (Nat.mul_pos (Nat.succ_pos j) l1) b]
theorem howC_eq {n : Nat} (hn : n ≤ 5) {p : List Int} (hp : p ∈ evN n n) (m : Nat) : howC n p (m % 60) = howR p m := by
  have el := (perC_ok n (by omega) p hp).1
  unfold howC howR
  rw [el, ringsC_eq hn hp n (Nat.le_refl _)]
  have key : ∀ ls : List Nat, (∀ l ∈ ls, 1 ≤ l ∧ l ≤ n) → prodF (fun l => joinsN l (m % 60) (cntL (ringsF p n) l)) ls = prodF (fun l => joinsN l m (cntL (ringsF p n) l)) ls := fun ls => by
    induction ls with
    | nil => intro _; rfl
    | cons x xs ih =>
      intro h
      have hx := h x List.mem_cons_self
      have f := cnt_fit n (by omega) p hp x (by omega)
      rw [ringsC_eq hn hp n (Nat.le_refl _)] at f
      show joinsN x (m % 60) _ * prodF _ xs = joinsN x m _ * prodF _ xs
      rw [ih fun l hl => h l (List.mem_cons_of_mem _ hl)]
      unfold joinsN
      rw [rights_60 hx.1 f]
  exact key _ fun l hl => by
    obtain ⟨j, hj, rfl⟩ := List.mem_map.mp hl
    have := List.mem_range.mp hj
    omega
def digS (xs : List Nat) (s : Nat) : Nat := xs.foldl (fun s x => s + 256 ^ x) s
theorem dig_form (e : Nat) : ∀ xs : List Nat, ∃ a k, digS xs 0 = a + (xs.count e) * 256 ^ e + k * 256 ^ (e + 1) ∧ a * 256 ≤ xs.length * 256 ^ e := fun xs => by
  have g : ∀ (xs : List Nat) (s : Nat), digS xs s = s + digS xs 0 := fun xs => by
    induction xs with
    | nil => intro s; rfl
    | cons x xs ih =>
      intro s
      show digS xs (s + 256 ^ x) = s + digS xs (0 + 256 ^ x)
      rw [ih (s + 256 ^ x), ih (0 + 256 ^ x)]
      omega
  induction xs with
  | nil => exact ⟨0, 0, by simp [digS], by simp⟩
  | cons x xs ih =>
    obtain ⟨a, k, e1, e2⟩ := ih
    have e0 : digS (x :: xs) 0 = 256 ^ x + digS xs 0 := by show digS xs (0 + 256 ^ x) = _; rw [g, Nat.zero_add]
    rw [e0, e1, List.count_cons, List.length_cons]
    rcases Nat.lt_trichotomy x e with z | z | z
    · refine ⟨a + 256 ^ x, k, ?_, ?_⟩
      · rw [if_neg (by simp; omega), Nat.add_zero (xs.count e)]; omega
      · have : 256 ^ (x + 1) ≤ 256 ^ e := Nat.pow_le_pow_right (by decide) z
        rw [Nat.pow_succ] at this
        rw [Nat.add_mul, Nat.add_mul]
        omega
    · subst z
      refine ⟨a, k, ?_, ?_⟩
      · rw [if_pos (by simp), Nat.add_mul]; omega
      · rw [Nat.add_mul]; omega
    · obtain ⟨c, rfl⟩ : ∃ c, x = e + 1 + c := ⟨x - (e + 1), by omega⟩
      refine ⟨a, k + 256 ^ c, ?_, ?_⟩
      · rw [if_neg (by simp; omega), Nat.add_zero (xs.count e), Nat.add_mul k, ← Nat.pow_add, Nat.add_comm c]
        omega
      · rw [Nat.add_mul]; omega
theorem dig_cnt {xs : List Nat} (h : xs.length < 256) (e : Nat) : digS xs 0 / 256 ^ e % 256 = xs.count e := by
  obtain ⟨a, k, e1, e2⟩ := dig_form e xs
  have pe : 0 < 256 ^ e := Nat.pow_pos (by decide)
  have al : a < 256 ^ e := by
    have : xs.length * 256 ^ e < 256 * 256 ^ e := Nat.mul_lt_mul_of_pos_right h pe
    omega
  have c := List.count_le_length (a := e) (l := xs)
  have e3 : a + xs.count e * 256 ^ e + k * 256 ^ (e + 1) = a + 256 ^ e * (xs.count e + 256 * k) := by
    rw [Nat.mul_add, Nat.pow_succ, ← Nat.add_assoc, Nat.mul_comm (xs.count e), show k * (256 ^ e * 256) = 256 ^ e * (256 * k) by ac_rfl]
  rw [e1, e3]
  rw [Nat.add_mul_div_left _ _ pe, Nat.div_eq_of_lt al]
  omega
def force (s : Nat) (f : Nat → Bool) : Bool := match s with
  | 0 => f 0
  | k + 1 => f (k + 1)
theorem force_eq (s : Nat) (f : Nat → Bool) : force s f = f s := by cases s <;> rfl
def chkB (n r : Nat) : Bool := force (digS ((evN n n).map fun q => encP (powC q r)) 0) fun s => (evN n n).all fun p => Nat.beq (s / 256 ^ encP p % 256) (howC n p r)
theorem chk_all : ∀ n, n < 6 → ∀ r, r < 60 → chkB n r = true := by decide +kernel
theorem roots_cnt {p : List Int} (tp : IsT p) (lp : p.length ≤ 5) (m : Nat) : ((evN p.length p.length).countP fun q => decide (powL q m = p)) = howR p m := by
  have r60 : m % 60 < 60 := Nat.mod_lt _ (by decide)
  have hp := evN_all tp
  have c := chk_all p.length (by omega) _ r60
  unfold chkB at c
  rw [force_eq] at c
  have c := Nat.eq_of_beq_eq_true (List.all_eq_true.mp c p hp)
  rw [dig_cnt (by rw [List.length_map]; have := evN_many p.length (by omega) p.length (by omega); omega), howC_eq lp hp] at c
  rw [← c, List.count, List.countP_map]
  refine List.countP_congr fun q hq => ?_
  rw [powL_C lp hq m]
  show decide _ = true ↔ (encP (powC q (m % 60)) == encP p) = true
  rw [decide_eq_true_iff, beq_iff_eq]
  refine ⟨fun e => by rw [e], fun e => ?_⟩
  rw [← pow_dec _ (by omega) _ r60 q hq, e, p_dec _ (by omega) p hp]
end
end My
namespace My
open PySem L2 Mth
section
variable {P : Program} {w : World} {K : PySem.W.Frag} {mg : Str → Option Value} {base : Heap} {q_TurnError q_NoTurn q_NoFit q_NoRounds q_NoNumber q_NoRoot q_TooMany q_NoKind q_NoText q_NoName q_NoRow : Addr}
def spRightsL : Sp := fun vs H Q _ => ∃ (l m j : Nat), vs = [.int (l : Int), .int (m : Int), .int (j : Int)] ∧ l ≤ 40 ∧ j ≤ 40 ∧ ∀ (a : Addr) (H' : Hp), H a = none → Same H H' → H' a = some (.lst ((toI (rightsN l m j)).map V.int)) → Q (.ref a) H'
theorem sc_law_rights : FnScope ["l", "m", "most", "found", "d", "one", "other"] ["l", "m", "most"] (defScope s_law_rights) := ⟨rfl, rfl, rfl, by decide +kernel, rfl, by decide +kernel, by decide +kernel⟩
theorem ok_law_rights {f : Addr} {fd : FuncData} (F : Fun K "_law_rights" "_law_rights" s_law_rights f fd) (B : Bl mg) : FnOk P w K mg base CX0 1 f fd ["l", "m", "most"] spRightsL := by
  refine F.ok sc_law_rights (fun vs H Q E h => ?_) (fun cdv A outer s H vs Q E hr h => ?_)
  · obtain ⟨l, m, j, rfl, hl, hj, q⟩ := h
    rfl
  · obtain ⟨l, m, j, rfl, hl, hj, q⟩ := h
    refine ⟨_, @pss_cons _ _ _ _ _ (@ps_set _ _ (3) _ _ _ _ sc_law_rights.nd rfl (Or.inl rfl) (@pe_lst _ _ _ _ (@pa_nil _)) (by rfl) (by first | exact .inl rfl | exact .inr rfl | assumption)) (@pss_cons _ _ _ _ _ (@ps_for _ _ _ _ _ _ _ _ PassesOwn.never rfl (@pi_range2 _ _ _ _ _ _ _ (by rfl) B.range (@pa_cons _ _ _ _ _ (@pe_int _ _ _ _) (@pa_cons _ _ _ _ _ (@pe_op _ _ _ _ _ _ _ _ op_add (pv 2) (@pe_int _ _ _ _)) (@pa_nil _) (by rfl)) (by rfl)) (by rfl) (by rfl)) (@pg_name _ _ (4) _ sc_law_rights.nd rfl (Or.inl rfl) (by first | exact .inl rfl | exact .inr rfl | assumption)) (@pss_cons _ _ _ _ _ (@ps_set _ _ (5) _ _ _ _ sc_law_rights.nd rfl (Or.inl rfl) (@pe_op _ _ _ _ _ _ _ _ op_mul (pv 4) (pv 0)) (by rfl) (by first | exact .inl rfl | exact .inr rfl | assumption)) (@pss_cons _ _ _ _ _ (@ps_set _ _ (6) _ _ _ _ sc_law_rights.nd rfl (Or.inl rfl) (pv 1) (by rfl) (by first | exact .inl rfl | exact .inr rfl | assumption)) (@pss_cons _ _ _ _ _ (@ps_while _ _ _ _ _ _ PassesOwn.never (@pt_cmpR _ _ _ _ _ _ _ _ op_gt (pv 6) (@pe_int _ _ _ _) (nomark _)) (@pss_one _ _ _ (@ps_par _ _ (5) (6) _ _ _ _ _ _ _ _ _ _ _ rfl sc_law_rights.nd rfl rfl (by decide) rfl rfl (@pa_cons _ _ _ _ _ (pv 6) (@pa_cons _ _ _ _ _ (@pe_op _ _ _ _ _ _ _ _ op_mod (pv 5) (pv 6)) (@pa_nil _) (by rfl)) (by rfl)) (by rfl) (by rfl)))) (@pss_one _ _ _ (@ps_if _ _ _ _ _ _ _ _ (@pt_cmpR _ _ _ _ _ _ _ _ op_eq (pv 5) (pv 4) (nomark _)) (@pss_one _ _ _ (@ps_expr _ _ _ _ (@pe_append _ _ _ _ _ _ _ (pv 3) (@pa_cons _ _ _ _ _ (pv 4) (@pa_nil _) (by rfl)) (by rfl) (by rfl) (by rfl) (by rfl) (by rfl)) (by rfl))) (@pss_nil _)))))) (by intro _; rfl)) (@pss_one _ _ _ (@ps_ret _ _ _ _ (pv 3)))), ?_⟩
    refine ⟨Nat.zero_le _, fun fa nfa => ?_⟩
    refine ⟨_, rfl, _, _, rfl, rfl, 1, (j : Int) + 1, rfl, ⟨by decide, by decide, by omega, by omega⟩, ?_⟩
    rw [show ((j : Int) + 1 - 1).toNat = j by omega]
    refine for_range (lo := 1) (n := j) (fun i σ H2 => ∃ v4 v5 v6 : Option V, σ = [some (.int (l : Int)), some (.int (m : Int)), some (.int (j : Int)), some (.ref fa), v4, v5, v6] ∧ H2 fa = some (.lst ((toI (rightsN l m i)).map V.int)) ∧ Same H H2)
      ⟨none, none, none, rfl, upd_same, Same.upd_new nfa⟩ ?_ ?_
    · rintro i σ H2 hi ⟨v4, v5, v6, rfl, h2, s2⟩
      have e1 : (1 : Int) + (i : Int) = ((i + 1 : Nat) : Int) := by omega
      refine ⟨_, rfl, _, rfl, _, _, rfl, rfl, .inr ⟨by omega, by omega⟩, _, rfl, ?_⟩
      refine ⟨fun mm σ H3 => ∃ x y : Nat, σ = [some (.int (l : Int)), some (.int (m : Int)), some (.int (j : Int)), some (.ref fa), some (.int ((i + 1 : Nat) : Int)), some (.int (x : Int)), some (.int (y : Int))] ∧ Nat.gcd x y = Nat.gcd ((i + 1) * l) m ∧ H3 = H2 ∧ y = mm, ⟨m, (i + 1) * l, m, ?_, rfl, rfl, rfl⟩, ?_⟩
      · rw [e1, Int.natCast_mul]; rfl
      rintro mm σ H3 ⟨x, y, rfl, eg, rfl, rfl⟩
      refine ⟨_, rfl, _, _, rfl, rfl, _, rfl, ?_⟩
      by_cases c : y = 0
      · subst c
        rw [decide_eq_false (by omega)]
        rw [Nat.gcd_zero_right] at eg
        refine ⟨_, rfl, _, rfl, rfl, _, rfl, ?_⟩
        rw [eg]
        have li := rightsN_len l m i
        by_cases ce : Nat.gcd ((i + 1) * l) m = i + 1
        · rw [decide_eq_true (congrArg V.int (by rw [ce]))]
          refine iteT ⟨_, rfl, .inl ⟨rfl, _, SqL.of h2⟩, _, rfl, fa, _, _, rfl, rfl, h2, small1000 (by unfold toI; rw [List.length_map, List.length_map]; omega), ?_⟩
          refine ⟨_, _, _, rfl, ?_, s2.upd_r nfa⟩
          rw [upd_same, rightsN_succ, if_pos ce]
          unfold toI
          rw [List.map_append, List.map_append]
          rfl
        · rw [decide_eq_false fun z => ce (by have := V.int.inj z; omega)]
          refine iteF ⟨_, _, _, rfl, ?_, s2⟩
          rw [rightsN_succ, if_neg ce]
          exact h2
      · rw [decide_eq_true (by omega)]
        refine ⟨fun σ' H' => ∃ m', m' < y ∧ _, fun _ _ h => h, ?_⟩
        refine ⟨_, rfl, _, rfl, _, rfl, _, _, rfl, rfl, (show (0 : Int) < (y : Int) by omega), _, _, rfl, ?_⟩
        refine ⟨x % y, Nat.mod_lt _ (by omega), y, x % y, ?_, ?_, rfl, rfl⟩
        · rw [Int.natCast_emod]; rfl
        · rw [← eg, Nat.gcd_comm x y, Nat.gcd_rec y x, Nat.gcd_comm]
    · rintro σ H2 ⟨v4, v5, v6, rfl, h2, s2⟩
      exact ⟨_, rfl, q fa H2 nfa s2 h2⟩
theorem lt_big {x : Nat} (h : x < 2 ^ 1000) : ((x : Int)).natAbs < 2 ^ 20000 := by
  rw [Int.natAbs_natCast]
  exact Nat.lt_of_lt_of_le h (Nat.pow_le_pow_right (by decide) (by decide))
theorem lt_div {x : Nat} (h : x < 2 ^ 1000) : ((x : Int)).natAbs < 2 ^ 9000 := by
  rw [Int.natAbs_natCast]
  exact Nat.lt_of_lt_of_le h (Nat.pow_le_pow_right (by decide) (by decide))
theorem p1600 : ∀ k, k < 41 → 1600 ^ k < 2 ^ 440 := by decide +kernel
theorem p40 : ∀ k, k < 41 → 40 ^ k < 2 ^ 220 := by decide +kernel
theorem up440 {x : Nat} (h : x < 2 ^ 440) : x < 2 ^ 1000 := Nat.lt_of_lt_of_le h (Nat.pow_le_pow_right (by decide) (by decide))
theorem up220 {x : Nat} (h : x < 2 ^ 220) : x < 2 ^ 1000 := Nat.lt_of_lt_of_le h (Nat.pow_le_pow_right (by decide) (by decide))
theorem fct_big {n : Nat} (h : n ≤ 40) : fct n < 2 ^ 1000 := up220 (Nat.lt_of_le_of_lt (fct_le h) (p40 n (by omega)))
theorem pow_big {x k : Nat} (h : x ≤ 1600 ^ k) (hk : k ≤ 40) : x < 2 ^ 1000 := up440 (Nat.lt_of_le_of_lt h (p1600 k (by omega)))
theorem lt_mul {x y : Nat} (hx : x < 2 ^ 1000) (hy : y < 2 ^ 1000) : ((x : Int) * (y : Int)).natAbs < 2 ^ 20000 := by
  rw [← Int.natCast_mul, Int.natAbs_natCast]
  refine Nat.lt_of_lt_of_le (Nat.mul_lt_mul'' hx hy) ?_
  rw [← Nat.pow_add]
  exact Nat.pow_le_pow_right (by decide) (by decide)
theorem sm_big {x : Nat} (h : x ≤ 1600) : x < 2 ^ 1000 := pow_big (k := 1) h (by decide)
theorem fl_le {l i : Nat} (hl : l ≤ 40) (hi : i ≤ 40) : fct i * l ^ i ≤ 1600 ^ i := by
  rw [show 1600 = 40 * 40 from rfl, Nat.mul_pow]
  exact Nat.mul_le_mul (fct_le hi) (Nat.pow_le_pow_left hl _)
theorem chd0 {l d : Nat} {x : Nd} (h : 1 ≤ x.a) : ndV (chd l d x 0) = [.int (x.left : Int), .int ((x.a : Int) - 1 - 1), .int (x.t : Int), .int (x.b : Int)] := by
  show [V.int ((x.left - 0 * d : Nat) : Int), V.int (((x.a - 1 : Nat) : Int) - 1), V.int ((x.t * oneD l d ^ 0 : Nat) : Int), V.int ((x.b * fct d ^ 0 * fct 0 : Nat) : Int)] = _
  rw [Nat.zero_mul, Nat.sub_zero, Nat.pow_zero, Nat.pow_zero, Nat.mul_one, Nat.mul_one, show fct 0 = 1 from rfl, Nat.mul_one, Int.natCast_sub h]
  rfl
theorem chdS {l d k : Nat} {x : Nd} (h : 1 ≤ x.a) (hk : (k + 1) * d ≤ x.left) : ndV (chd l d x (k + 1)) = [.int ((x.left : Int) - (1 + (k : Int)) * (d : Int)), .int ((x.a : Int) - 1 - 1), .int (((chd l d x k).t : Int) * (oneD l d : Int)), .int (((chd l d x k).b : Int) * (fct d : Int) * (1 + (k : Int)))] := by
  show [V.int ((x.left - (k + 1) * d : Nat) : Int), V.int (((x.a - 1 : Nat) : Int) - 1), V.int ((x.t * oneD l d ^ (k + 1) : Nat) : Int), V.int ((x.b * fct d ^ (k + 1) * ((k + 1) * fct k) : Nat) : Int)] = [_, _, V.int (((x.t * oneD l d ^ k : Nat) : Int) * (oneD l d : Int)), V.int (((x.b * fct d ^ k * fct k : Nat) : Int) * (fct d : Int) * (1 + (k : Int)))]
  have e1 : (1 + (k : Int)) = ((k + 1 : Nat) : Int) := by omega
  rw [e1, Int.natCast_sub hk, Int.natCast_sub h, Nat.pow_succ, Nat.pow_succ, ← Int.natCast_mul, ← Int.natCast_mul, ← Int.natCast_mul, ← Int.natCast_mul]
  rw [show x.t * (oneD l d ^ k * oneD l d) = x.t * oneD l d ^ k * oneD l d by ac_rfl, show x.b * (fct d ^ k * fct d) * ((k + 1) * fct k) = x.b * fct d ^ k * fct k * fct d * (k + 1) by ac_rfl]
  rfl
def spWoven : Sp := fun vs H Q _ => ∃ (l n : Nat) (ra : Addr) (rs : List Nat), vs = [.int (l : Int), .int (n : Int), .ref ra] ∧ H ra = some (.lst ((toI rs).map V.int)) ∧ l ≤ 40 ∧ n ≤ 40 ∧ rs.length ≤ 40 ∧ (∀ d ∈ rs, 1 ≤ d ∧ d ≤ 40) ∧ ∀ H', Same H H' → Q (.int ((jf l rs n : Nat) : Int)) H'
theorem sc_law_woven : FnScope ["l", "many", "rights", "top", "k", "total", "pile", "left", "at", "times", "below", "d", "one", "over", "taken"] ["l", "many", "rights"] (defScope s_law_woven) := ⟨rfl, rfl, rfl, by decide +kernel, rfl, by decide +kernel, by decide +kernel⟩
theorem ok_law_woven {f : Addr} {fd : FuncData} (F : Fun K "_law_woven" "_law_woven" s_law_woven f fd) (B : Bl mg) : FnOk P w K mg base CX0 1 f fd ["l", "many", "rights"] spWoven := by
  refine F.ok sc_law_woven (fun vs H Q E h => ?_) (fun cdv A outer s H vs Q E hr h => ?_)
  · obtain ⟨l, n, ra, rs, rfl, hra, hl, hn, lr, dr, q⟩ := h
    rfl
  · obtain ⟨l, n, ra, rs, rfl, hra, hl, hn, lr, dr, q⟩ := h
    have hu := hu_of hr
    refine ⟨_, @pss_cons _ _ _ _ _ (@ps_set _ _ (3) _ _ _ _ sc_law_woven.nd rfl (Or.inl rfl) (@pe_int _ _ _ _) (by rfl) (by first | exact .inl rfl | exact .inr rfl | assumption)) (@pss_cons _ _ _ _ _ (@ps_for _ _ _ _ _ _ _ _ PassesOwn.never rfl (@pi_range2 _ _ _ _ _ _ _ (by rfl) B.range (@pa_cons _ _ _ _ _ (@pe_int _ _ _ _) (@pa_cons _ _ _ _ _ (@pe_op _ _ _ _ _ _ _ _ op_add (pv 1) (@pe_int _ _ _ _)) (@pa_nil _) (by rfl)) (by rfl)) (by rfl) (by rfl)) (@pg_name _ _ (4) _ sc_law_woven.nd rfl (Or.inl rfl) (by first | exact .inl rfl | exact .inr rfl | assumption)) (@pss_one _ _ _ (@ps_set _ _ (3) _ _ _ _ sc_law_woven.nd rfl (Or.inl rfl) (@pe_op _ _ _ _ _ _ _ _ op_mulH (pv 3) (pv 4)) (by rfl) (by first | exact .inl rfl | exact .inr rfl | assumption))) (by intro _; rfl)) (@pss_cons _ _ _ _ _ (@ps_set _ _ (5) _ _ _ _ sc_law_woven.nd rfl (Or.inl rfl) (@pe_int _ _ _ _) (by rfl) (by first | exact .inl rfl | exact .inr rfl | assumption)) (@pss_cons _ _ _ _ _ (@ps_set _ _ (6) _ _ _ _ sc_law_woven.nd rfl (Or.inl rfl) (@pe_lst _ _ _ _ (@pa_cons _ _ _ _ _ (@pe_tup _ _ _ _ _ (@pa_cons _ _ _ _ _ (pv 1) (@pa_cons _ _ _ _ _ (@pe_op _ _ _ _ _ _ _ _ op_sub (@pe_lenL _ _ _ _ _ B.len (@pa_cons _ _ _ _ _ (pv 2) (@pa_nil _) (by rfl)) (by rfl) (by rfl)) (@pe_int _ _ _ _)) (@pa_cons _ _ _ _ _ (@pe_int _ _ _ _) (@pa_cons _ _ _ _ _ (@pe_int _ _ _ _) (@pa_nil _) (by rfl)) (by rfl)) (by rfl)) (by rfl))) (@pa_nil _) (by rfl))) (by rfl) (by first | exact .inl rfl | exact .inr rfl | assumption)) (@pss_cons _ _ _ _ _ (@ps_while _ _ _ _ _ _ PassesOwn.never (@pt_cmpR _ _ _ _ _ _ _ _ (op_neL 0 hu) (pv 6) (@pe_lst _ _ _ _ (@pa_nil _)) (nomark _)) (@pss_cons _ _ _ _ _ (@ps_asg _ _ _ _ _ _ (@pe_pop _ _ _ _ _ (pv 6) (by rfl) (by rfl)) (@pg_tup _ _ _ _ _ _ rfl (@pgs_cons _ _ _ _ _ (@pg_name _ _ (7) _ sc_law_woven.nd rfl (Or.inl rfl) (by first | exact .inl rfl | exact .inr rfl | assumption)) (@pgs_cons _ _ _ _ _ (@pg_name _ _ (8) _ sc_law_woven.nd rfl (Or.inl rfl) (by first | exact .inl rfl | exact .inr rfl | assumption)) (@pgs_cons _ _ _ _ _ (@pg_name _ _ (9) _ sc_law_woven.nd rfl (Or.inl rfl) (by first | exact .inl rfl | exact .inr rfl | assumption)) (@pgs_cons _ _ _ _ _ (@pg_name _ _ (10) _ sc_law_woven.nd rfl (Or.inl rfl) (by first | exact .inl rfl | exact .inr rfl | assumption)) (@pgs_nil _) (by rfl)) (by rfl)) (by rfl)) (by rfl)) (by rfl) (by rfl)) (by rfl) (by rfl) (by rfl)) (@pss_one _ _ _ (@ps_if _ _ _ _ _ _ _ _ (@pt_cmpR _ _ _ _ _ _ _ _ op_eq (pv 7) (@pe_int _ _ _ _) (nomark _)) (@pss_one _ _ _ (@ps_set _ _ (5) _ _ _ _ sc_law_woven.nd rfl (Or.inl rfl) (@pe_op _ _ _ _ _ _ _ _ op_add (pv 5) (@pe_op _ _ _ _ _ _ _ _ op_fdivH (@pe_op _ _ _ _ _ _ _ _ op_mulH (pv 3) (pv 9)) (pv 10))) (by rfl) (by first | exact .inl rfl | exact .inr rfl | assumption))) (@pss_one _ _ _ (@ps_if _ _ _ _ _ _ _ _ (@pt_cmpR _ _ _ _ _ _ _ _ op_ge (pv 8) (@pe_int _ _ _ _) (nomark _)) (@pss_cons _ _ _ _ _ (@ps_expr _ _ _ _ (@pe_append _ _ _ _ _ _ _ (pv 6) (@pa_cons _ _ _ _ _ (@pe_tup _ _ _ _ _ (@pa_cons _ _ _ _ _ (pv 7) (@pa_cons _ _ _ _ _ (@pe_op _ _ _ _ _ _ _ _ op_sub (pv 8) (@pe_int _ _ _ _)) (@pa_cons _ _ _ _ _ (pv 9) (@pa_cons _ _ _ _ _ (pv 10) (@pa_nil _) (by rfl)) (by rfl)) (by rfl)) (by rfl))) (@pa_nil _) (by rfl)) (by rfl) (by rfl) (by rfl) (by rfl) (by rfl)) (by rfl)) (@pss_cons _ _ _ _ _ (@ps_set _ _ (11) _ _ _ _ sc_law_woven.nd rfl (Or.inl rfl) (@pe_ix _ _ _ _ _ _ _ ix_list (pv 2) (pv 8) (fun _ _ => rfl)) (by rfl) (by first | exact .inl rfl | exact .inr rfl | assumption)) (@pss_cons _ _ _ _ _ (@ps_set _ _ (12) _ _ _ _ sc_law_woven.nd rfl (Or.inl rfl) (@pe_int _ _ _ _) (by rfl) (by first | exact .inl rfl | exact .inr rfl | assumption)) (@pss_cons _ _ _ _ _ (@ps_set _ _ (13) _ _ _ _ sc_law_woven.nd rfl (Or.inl rfl) (@pe_int _ _ _ _) (by rfl) (by first | exact .inl rfl | exact .inr rfl | assumption)) (@pss_cons _ _ _ _ _ (@ps_for _ _ _ _ _ _ _ _ PassesOwn.never rfl (@pi_range2 _ _ _ _ _ _ _ (by rfl) B.range (@pa_cons _ _ _ _ _ (@pe_int _ _ _ _) (@pa_cons _ _ _ _ _ (pv 11) (@pa_nil _) (by rfl)) (by rfl)) (by rfl) (by rfl)) (@pg_name _ _ (4) _ sc_law_woven.nd rfl (Or.inl rfl) (by first | exact .inl rfl | exact .inr rfl | assumption)) (@pss_cons _ _ _ _ _ (@ps_set _ _ (12) _ _ _ _ sc_law_woven.nd rfl (Or.inl rfl) (@pe_op _ _ _ _ _ _ _ _ op_mulH (@pe_op _ _ _ _ _ _ _ _ op_mulH (pv 12) (pv 4)) (pv 0)) (by rfl) (by first | exact .inl rfl | exact .inr rfl | assumption)) (@pss_one _ _ _ (@ps_set _ _ (13) _ _ _ _ sc_law_woven.nd rfl (Or.inl rfl) (@pe_op _ _ _ _ _ _ _ _ op_mulH (pv 13) (@pe_op _ _ _ _ _ _ _ _ op_add (pv 4) (@pe_int _ _ _ _))) (by rfl) (by first | exact .inl rfl | exact .inr rfl | assumption)))) (by intro _; rfl)) (@pss_one _ _ _ (@ps_for _ _ _ _ _ _ _ _ PassesOwn.never rfl (@pi_range2 _ _ _ _ _ _ _ (by rfl) B.range (@pa_cons _ _ _ _ _ (@pe_int _ _ _ _) (@pa_cons _ _ _ _ _ (@pe_op _ _ _ _ _ _ _ _ op_add (@pe_op _ _ _ _ _ _ _ _ op_fdivH (pv 7) (pv 11)) (@pe_int _ _ _ _)) (@pa_nil _) (by rfl)) (by rfl)) (by rfl) (by rfl)) (@pg_name _ _ (14) _ sc_law_woven.nd rfl (Or.inl rfl) (by first | exact .inl rfl | exact .inr rfl | assumption)) (@pss_cons _ _ _ _ _ (@ps_set _ _ (9) _ _ _ _ sc_law_woven.nd rfl (Or.inl rfl) (@pe_op _ _ _ _ _ _ _ _ op_mulH (pv 9) (pv 12)) (by rfl) (by first | exact .inl rfl | exact .inr rfl | assumption)) (@pss_cons _ _ _ _ _ (@ps_set _ _ (10) _ _ _ _ sc_law_woven.nd rfl (Or.inl rfl) (@pe_op _ _ _ _ _ _ _ _ op_mulH (@pe_op _ _ _ _ _ _ _ _ op_mulH (pv 10) (pv 13)) (pv 14)) (by rfl) (by first | exact .inl rfl | exact .inr rfl | assumption)) (@pss_one _ _ _ (@ps_expr _ _ _ _ (@pe_append _ _ _ _ _ _ _ (pv 6) (@pa_cons _ _ _ _ _ (@pe_tup _ _ _ _ _ (@pa_cons _ _ _ _ _ (@pe_op _ _ _ _ _ _ _ _ op_sub (pv 7) (@pe_op _ _ _ _ _ _ _ _ op_mulH (pv 14) (pv 11))) (@pa_cons _ _ _ _ _ (@pe_op _ _ _ _ _ _ _ _ op_sub (pv 8) (@pe_int _ _ _ _)) (@pa_cons _ _ _ _ _ (pv 9) (@pa_cons _ _ _ _ _ (pv 10) (@pa_nil _) (by rfl)) (by rfl)) (by rfl)) (by rfl))) (@pa_nil _) (by rfl)) (by rfl) (by rfl) (by rfl) (by rfl) (by rfl)) (by rfl))))) (by intro _; rfl)))))))) (@pss_nil _))))))) (@pss_one _ _ _ (@ps_ret _ _ _ _ (pv 5))))))), ?_⟩
    refine ⟨_, rfl, _, _, rfl, rfl, 1, (n : Int) + 1, rfl, ⟨by decide, by decide, by omega, by omega⟩, ?_⟩
    rw [show ((n : Int) + 1 - 1).toNat = n by omega]
    refine for_range (lo := 1) (n := n) (fun i σ H2 => ∃ v4 : Option V, σ = [some (.int (l : Int)), some (.int (n : Int)), some (.ref ra), some (.int ((fct i : Nat) : Int)), v4, none, none, none, none, none, none, none, none, none, none] ∧ H2 = H)
      ⟨none, rfl, rfl⟩ ?_ ?_
    · rintro i σ H2 hi ⟨v4, rfl, rfl⟩
      refine ⟨_, rfl, _, rfl, _, _, rfl, rfl, ⟨lt_big (fct_big (by omega)), ?_⟩, some (.int (1 + (i : Int))), ?_, rfl⟩
      · rw [show (1 : Int) + (i : Int) = ((i + 1 : Nat) : Int) by omega]
        exact lt_big (up220 (Nat.lt_of_le_of_lt (show i + 1 ≤ 40 ^ 1 by omega) (p40 1 (by decide))))
      · have e : ((fct (i + 1) : Nat) : Int) = ((fct i : Nat) : Int) * (1 + (i : Int)) := by
          show (((i + 1) * fct i : Nat) : Int) = _
          rw [Int.natCast_mul, Int.mul_comm]
          congr 1
          omega
        rw [e]
        rfl
    rintro σ H2 ⟨v4, rfl, rfl⟩
    refine ⟨_, rfl, _, rfl, ra, _, rfl, .inl (SqL.of hra), _, _, rfl, rfl, (show 4 ≤ sizeLine by decide), fun t0 nt0 => ?_⟩
    refine ⟨(show 1 ≤ sizeLine by decide), fun pl npl => ?_⟩
    have ll : ((toI rs).map V.int).length = rs.length := by unfold toI; rw [List.length_map, List.length_map]
    have npt : pl ≠ t0 := fun z => by rw [z, upd_same] at npl; cases npl
    have npl2 : H2 pl = none := by rw [upd_ne npt] at npl; exact npl
    have s1 : Same H2 (upd (upd H2 t0 (.tup (ndV ⟨n, rs.length, 1, 1, 1⟩))) pl (.lst [.ref t0])) := (Same.upd_new nt0).upd_r npl2
    have h1 : PileAt (upd (upd H2 t0 (.tup (ndV ⟨n, rs.length, 1, 1, 1⟩))) pl (.lst [.ref t0])) pl n rs [t0] [⟨n, rs.length, 1, 1, 1⟩] := by
      have z : PileAt (upd (upd H2 t0 (.tup (ndV ⟨n, rs.length, 1, 1, 1⟩))) pl (.lst [])) pl n rs [] [] := ⟨upd_same, rfl, fun i t x e => (by cases e), fun x hx => (by cases hx), fun i x e => (by cases e), fun t ht => (by cases ht)⟩
      have z2 := z.push (t := t0) (x := ⟨n, rs.length, 1, 1, 1⟩) (by rw [upd_ne npt.symm]; exact upd_same) ⟨Nat.le_refl _, Nat.le_refl _, rfl.trans (Nat.mul_comm _ _), Nat.le_refl _, by rw [Nat.sub_self]; exact Nat.le_refl _, by rw [Nat.sub_self]; exact Nat.le_refl _⟩ (by show rs.length + 0 / 42 ≤ _; omega) npt.symm
      rw [upd_upd] at z2
      exact z2
    refine ⟨fun mm σ H3 => ∃ (tot : Nat) (ts : List Addr) (nds : List Nd) (v4 v7 v8 v9 v10 v11 v12 v13 v14 : Option V), σ = [some (.int (l : Int)), some (.int (n : Int)), some (.ref ra), some (.int ((fct n : Nat) : Int)), v4, some (.int (tot : Int)), some (.ref pl), v7, v8, v9, v10, v11, v12, v13, v14] ∧ PileAt H3 pl n rs ts nds ∧ Same H2 H3 ∧ tot + (nds.map (ndVal l rs)).sum = jf l rs n ∧ mm = (nds.map fun x => cst rs x.a x.left).sum, ⟨_, 0, [t0], [⟨n, rs.length, 1, 1, 1⟩], v4, none, none, none, none, none, none, none, none, rfl, ?_, ?_, ?_, rfl⟩, ?_⟩
    · rw [ll]; exact h1
    · rw [ll]; exact s1
    · show 0 + (1 * jf l (rs.take rs.length) n + 0) = _
      rw [List.take_length]; omega
    rintro mm σ H3 ⟨tot, ts, nds, v4, v7, v8, v9, v10, v11, v12, v13, v14, rfl, hp, s3, et, rfl⟩
    refine ⟨_, rfl, (show 0 ≤ sizeLine by decide), fun ne nne => ?_⟩
    have hp4 := hp.keep (Same.upd_new (o := .lst []) nne)
    have s4 : Same H2 (upd H3 ne (.lst [])) := s3.trans (Same.upd_new nne)
    have hn4 : (upd H3 ne (.lst [])) ne = some (.lst []) := upd_same
    refine ⟨pl, ne, _, [], _, rfl, rfl, SqL.of hp4.at_, SqL.of hn4, leq_nil _ _ _ _, _, rfl, ?_⟩
    clear hn4
    generalize upd H3 ne (.lst []) = H4 at hp4 s4 ⊢
    clear hp nne s3
    rcases List.eq_nil_or_concat nds with c | ⟨nds', x, c⟩
    · subst c
      have : ts = [] := List.length_eq_zero_iff.mp hp4.len
      subst this
      refine ⟨_, rfl, ?_⟩
      have : tot = jf l rs n := et
      rw [this]
      exact q _ s4
    rw [List.concat_eq_append] at c
    subst c
    obtain ⟨ts', t, rfl, ht, hp5, okx, lvx⟩ := hp4.pop
    have e1 : (!((ts' ++ [t]).map V.ref).isEmpty) = true := by cases ts' <;> rfl
    rw [if_pos rfl, e1, if_pos rfl]
    refine ⟨fun σ' H' => ∃ m', m' < _ ∧ _, fun _ _ h => h, ?_⟩
    have ets : (ts' ++ [t]).map V.ref = ts'.map V.ref ++ [.ref t] := List.map_append
    have h4p : H4 pl = some (.lst (ts'.map V.ref ++ [.ref t])) := by rw [hp4.at_, ets]
    have ntp : t ≠ pl := hp4.ne t (List.mem_append_right _ (List.mem_singleton.mpr rfl))
    have et5 : (upd H4 pl (.lst (ts'.map V.ref))) t = some (.tup (ndV x)) := by rw [upd_ne ntp]; exact ht
    have s5 : Same H2 (upd H4 pl (.lst (ts'.map V.ref))) := s4.upd_r npl2
    refine ⟨_, rfl, .inl ⟨rfl, _, SqL.of h4p⟩, pl, _, _, rfl, rfl, h4p, show _ = some (V.ref t) from ?_, ?_⟩
    · rw [List.length_append, List.getElem?_append_right (by simp)]
      simp
    rw [List.dropLast_concat]
    refine ⟨t, _, rfl, SqT.of et5, rfl, _, _, rfl, _, _, rfl, _, _, rfl, _, _, rfl, rfl, ?_⟩
    clear h4p ets ht hp4 s4 et5
    generalize upd H4 pl (.lst (ts'.map V.ref)) = H5 at hp5 s5 ⊢
    refine ⟨_, rfl, rfl, _, rfl, ?_⟩
    have fb := fct_big hn
    have tb := pow_big okx.tb (by omega)
    have bb := pow_big okx.bb (by omega)
    rw [List.map_append, List.sum_append] at et
    have et : tot + ((nds'.map (ndVal l rs)).sum + (ndVal l rs x + 0)) = jf l rs n := et
    have ec : ((nds' ++ [x]).map fun x => cst rs x.a x.left).sum = (nds'.map fun x => cst rs x.a x.left).sum + cst rs x.a x.left := by rw [List.map_append, List.sum_append]; rfl
    have cp := cst_pos rs x.a x.left
    by_cases c0 : x.left = 0
    · rw [decide_eq_true (by rw [c0]; rfl)]
      refine iteT ⟨_, rfl, _, rfl, _, rfl, _, _, rfl, rfl, ⟨lt_big fb, lt_big tb⟩, _, rfl, _, _, rfl, rfl, ⟨by have := okx.b1; omega, lt_div bb⟩, _, _, rfl, rfl, ?_⟩
      have ev : (tot : Int) + ((fct n : Nat) : Int) * (x.t : Int) / (x.b : Int) = ((tot + x.q : Nat) : Int) := by
        have eq := okx.eq
        rw [c0, show fct 0 = 1 from rfl, Nat.mul_one] at eq
        rw [← Int.natCast_mul, eq, ← Int.natCast_ediv, Nat.mul_div_cancel _ okx.b1]
        rfl
      have vx : ndVal l rs x = x.q := by unfold ndVal; rw [c0, jf_zero, Nat.mul_one]
      refine ⟨(nds'.map fun x => cst rs x.a x.left).sum, by rw [ec]; omega, tot + x.q, ts', nds', v4, some (.int (x.left : Int)), some (.int ((x.a : Int) - 1)), some (.int (x.t : Int)), some (.int (x.b : Int)), v11, v12, v13, v14, ?_, hp5, s5, by rw [← et, vx]; omega, rfl⟩
      rw [← ev]; rfl
    · rw [decide_eq_false (fun z => c0 (by have := V.int.inj z; omega))]
      refine iteF ⟨_, rfl, _, _, rfl, rfl, _, rfl, ?_⟩
      by_cases ca : x.a = 0
      · rw [decide_eq_false (by omega)]
        have vx : ndVal l rs x = 0 := by unfold ndVal; rw [ca]; show x.q * jf l [] x.left = 0; rw [jf_nil (by omega)]; rfl
        refine iteF ⟨(nds'.map fun x => cst rs x.a x.left).sum, by rw [ec]; omega, tot, ts', nds', v4, _, _, _, _, v11, v12, v13, v14, rfl, hp5, s5, by rw [← et, vx]; omega, rfl⟩
      rw [decide_eq_true (by omega)]
      obtain ⟨a, ea⟩ : ∃ a, x.a = a + 1 := ⟨x.a - 1, by omega⟩
      have al : a < rs.length := by have := okx.al; omega
      obtain ⟨d, hd⟩ : ∃ d, rs[a]? = some d := ⟨_, List.getElem?_eq_getElem al⟩
      obtain ⟨d1, d2⟩ := dr d (List.mem_of_getElem? hd)
      refine iteT ⟨_, rfl, .inl ⟨rfl, _, SqL.of hp5.at_⟩, _, rfl, _, rfl, _, _, rfl, rfl, _, rfl, _, rfl, (show 4 ≤ sizeLine by decide), fun t1 nt1 => ?_⟩
      have hp5' := hp5.keep (Same.upd_new (o := .tup [.int (x.left : Int), .int ((x.a : Int) - 1 - 1), .int (x.t : Int), .int (x.b : Int)]) nt1)
      have few := hp5.few lr
      have n1p : t1 ≠ pl := fun z => by rw [z, hp5.at_] at nt1; cases nt1
      have hp6 := hp5'.push (t := t1) (x := chd l d x 0) (by rw [upd_same, chd0 (by omega)]) (chd_ok okx hl hn d1 d2 (by omega)) (by show x.a - 1 + _ ≤ _; omega) n1p
      have s6 := (s5.trans (Same.upd_new (o := .tup [.int (x.left : Int), .int ((x.a : Int) - 1 - 1), .int (x.t : Int), .int (x.b : Int)]) nt1)).upd_r (o := .lst (ts'.map V.ref ++ [.ref t1])) npl2
      refine ⟨pl, _, _, rfl, rfl, hp5'.at_, Nat.lt_of_le_of_lt (show _ ≤ 2000 by rw [List.length_map, hp5.len]; omega) (by decide), ?_⟩
      generalize upd (upd H5 t1 (.tup [.int (x.left : Int), .int ((x.a : Int) - 1 - 1), .int (x.t : Int), .int (x.b : Int)])) pl (.lst (ts'.map V.ref ++ [.ref t1])) = H6 at hp6 s6 ⊢
      have hdv : ((toI rs).map V.int)[a]? = some (.int (d : Int)) := by unfold toI; rw [List.getElem?_map, List.getElem?_map, hd]; rfl
      refine ⟨_, rfl, _, rfl, ra, _, _, _, rfl, rfl, SqL.of (s6 _ _ hra), (show atI _ ((x.a : Int) - 1) = some (V.int (d : Int)) from ?_), ?_⟩
      · rw [show ((x.a : Int) - 1) = ((a : Nat) : Int) by omega, atI_nat]; exact hdv
      refine ⟨_, rfl, 1, (d : Int), rfl, ⟨by decide, by decide, by omega, by omega⟩, ?_⟩
      rw [show ((d : Int) - 1).toNat = d - 1 by omega]
      refine for_range (lo := 1) (n := d - 1) (fun i σ H7 => ∃ v4 : Option V, σ = [some (.int (l : Int)), some (.int (n : Int)), some (.ref ra), some (.int ((fct n : Nat) : Int)), v4, some (.int (tot : Int)), some (.ref pl), some (.int (x.left : Int)), some (.int ((x.a : Int) - 1)), some (.int (x.t : Int)), some (.int (x.b : Int)), some (.int (d : Int)), some (.int ((fct i * l ^ i : Nat) : Int)), some (.int ((fct (i + 1) : Nat) : Int)), v14] ∧ H7 = H6)
        ⟨v4, rfl, rfl⟩ ?_ ?_
      · rintro i σ H7 hi ⟨w4, rfl, rfl⟩
        have b1 : fct i * l ^ i < 2 ^ 1000 := pow_big (fl_le hl (by omega)) (by omega)
        have e1 : (1 + (i : Int)) = ((i + 1 : Nat) : Int) := by omega
        have b0 : (1 + (i : Int)).natAbs < 2 ^ 20000 := by rw [e1]; exact lt_big (sm_big (by omega))
        have bl : ((l : Nat) : Int).natAbs < 2 ^ 20000 := lt_big (sm_big (by omega))
        have b2 : (((fct i * l ^ i : Nat) : Int) * (1 + (i : Int))).natAbs < 2 ^ 20000 := by rw [e1]; exact lt_mul b1 (sm_big (by omega))
        have b3 : (1 + (i : Int) + 1).natAbs < 2 ^ 20000 := by rw [e1]; exact lt_big (x := i + 1 + 1) (sm_big (by omega))
        refine ⟨_, rfl, _, rfl, _, _, rfl, rfl, ⟨lt_big b1, b0⟩, _, rfl, _, _, rfl, rfl, ⟨b2, bl⟩, _, rfl, _, rfl, _, _, rfl, rfl, _, _, rfl, rfl, ⟨lt_big (fct_big (by omega)), b3⟩, some (.int (1 + (i : Int))), ?_, rfl⟩
        have g1 : ((fct (i + 1) * l ^ (i + 1) : Nat) : Int) = ((fct i * l ^ i : Nat) : Int) * (1 + (i : Int)) * (l : Int) := by
          rw [e1, ← Int.natCast_mul, ← Int.natCast_mul]
          congr 1
          show (i + 1) * fct i * (l ^ i * l) = _
          ac_rfl
        have g2 : ((fct (i + 1 + 1) : Nat) : Int) = ((fct (i + 1) : Nat) : Int) * (1 + (i : Int) + 1) := by
          rw [e1, show (((i + 1 : Nat) : Int) + 1) = ((i + 1 + 1 : Nat) : Int) by omega, ← Int.natCast_mul]
          congr 1
          show (i + 1 + 1) * fct (i + 1) = _
          ac_rfl
        rw [g1, g2]
        rfl
      rintro σ H7 ⟨w4, rfl, rfl⟩
      have dl : x.left / d ≤ 40 := Nat.le_trans (Nat.div_le_self _ _) (by have := okx.le; omega)
      have bd : ((d : Nat) : Int).natAbs < 2 ^ 20000 := lt_big (sm_big (by omega))
      have one_big : oneD l d < 2 ^ 1000 := pow_big (one_le hl d2) (by omega)
      have ed : ((x.left : Int) / (d : Int)) = ((x.left / d : Nat) : Int) := (Int.natCast_ediv _ _).symm
      refine ⟨_, rfl, _, rfl, _, _, rfl, rfl, ⟨by omega, lt_div (sm_big (by omega))⟩, _, _, rfl, rfl, 1, (x.left : Int) / (d : Int) + 1, rfl, ⟨by decide, by decide, by rw [ed]; generalize x.left / d = kk at dl ⊢; omega, by rw [ed]; generalize x.left / d = kk at dl ⊢; omega⟩, ?_⟩
      rw [show ((x.left : Int) / (d : Int) + 1 - 1).toNat = x.left / d by rw [ed]; generalize x.left / d = kk at dl ⊢; omega]
      refine for_range (lo := 1) (n := x.left / d) (fun i σ H8 => ∃ (ts2 : List Addr) (v14 : Option V), σ = [some (.int (l : Int)), some (.int (n : Int)), some (.ref ra), some (.int ((fct n : Nat) : Int)), w4, some (.int (tot : Int)), some (.ref pl), some (.int (x.left : Int)), some (.int ((x.a : Int) - 1)), some (.int ((chd l d x i).t : Int)), some (.int ((chd l d x i).b : Int)), some (.int (d : Int)), some (.int ((oneD l d : Nat) : Int)), some (.int ((fct d : Nat) : Int)), v14] ∧ PileAt H8 pl n rs ts2 (nds' ++ (List.range (i + 1)).map (chd l d x)) ∧ Same H2 H8)
        ⟨ts' ++ [t1], v14, ?_, hp6, s6⟩ ?_ ?_
      · have g1 : (chd l d x 0).t = x.t := by show x.t * oneD l d ^ 0 = _; rw [Nat.pow_zero, Nat.mul_one]
        have g2 : (chd l d x 0).b = x.b := by show x.b * fct d ^ 0 * fct 0 = _; rw [Nat.pow_zero, Nat.mul_one]; exact Nat.mul_one _
        rw [g1, g2, Nat.sub_add_cancel d1]
        rfl
      · rintro i σ H8 hi ⟨ts2, w14, rfl, hp8, s8⟩
        have e1 : (1 + (i : Int)) = ((i + 1 : Nat) : Int) := by omega
        have b0 : (1 + (i : Int)).natAbs < 2 ^ 20000 := by rw [e1]; exact lt_big (sm_big (by omega))
        have kd : (i + 1) * d ≤ x.left := Nat.le_trans (Nat.mul_le_mul_right d (show i + 1 ≤ x.left / d from hi)) (Nat.div_mul_le_self _ _)
        have kd0 : i * d ≤ x.left := Nat.le_trans (Nat.mul_le_mul_right d (Nat.le_succ i)) kd
        have oki := chd_ok (rs := rs) okx hl hn d1 d2 kd0
        have ok2 := chd_ok (rs := rs) okx hl hn d1 d2 kd
        have tbi := pow_big oki.tb (by omega)
        have bbi := pow_big oki.bb (by omega)
        refine ⟨_, rfl, _, rfl, _, _, rfl, rfl, ⟨lt_big tbi, lt_big one_big⟩, _, rfl, _, rfl, _, _, rfl, rfl, ⟨lt_big bbi, lt_big (fct_big d2)⟩, _, rfl, _, _, rfl, rfl, ⟨lt_mul bbi (fct_big d2), b0⟩, ?_⟩
        refine ⟨_, rfl, .inl ⟨rfl, _, SqL.of hp8.at_⟩, _, rfl, _, rfl, _, rfl, _, _, rfl, rfl, ⟨b0, bd⟩, _, _, rfl, rfl, _, rfl, _, _, rfl, rfl, _, rfl, _, rfl, (show 4 ≤ sizeLine by decide), fun t2 nt2 => ?_⟩
        have hp8' := hp8.keep (Same.upd_new (o := .tup (ndV (chd l d x (i + 1)))) nt2)
        have few8 := hp8.few lr
        have n2p : t2 ≠ pl := fun z => by rw [z, hp8.at_] at nt2; cases nt2
        have hp9 := hp8'.push (t := t2) (x := chd l d x (i + 1)) upd_same ok2 (by show x.a - 1 + _ ≤ _; rw [List.length_append, List.length_map, List.length_range]; omega) n2p
        have s9 := (s8.trans (Same.upd_new (o := .tup (ndV (chd l d x (i + 1)))) nt2)).upd_r (o := .lst (ts2.map V.ref ++ [.ref t2])) npl2
        rw [chdS (by omega) kd] at hp8' hp9 s9
        refine ⟨pl, _, _, rfl, rfl, hp8'.at_, Nat.lt_of_le_of_lt (show _ ≤ 2000 by rw [List.length_map, hp8.len]; omega) (by decide), ?_⟩
        refine ⟨ts2 ++ [t2], some (.int (1 + (i : Int))), ?_, ?_, s9⟩
        · have ec2 : ndV (chd l d x (i + 1)) = _ := chdS (by omega) kd
          have g1 : V.int ((chd l d x (i + 1)).t : Int) = V.int (((chd l d x i).t : Int) * (oneD l d : Int)) := congrArg (fun z => z.getD 2 V.non) ec2
          have g2 : V.int ((chd l d x (i + 1)).b : Int) = V.int (((chd l d x i).b : Int) * (fct d : Int) * (1 + (i : Int))) := congrArg (fun z => z.getD 3 V.non) ec2
          rw [g1, g2]
          rfl
        · rw [List.range_succ, List.map_append, ← List.append_assoc]
          exact hp9
      · rintro σ H8 ⟨ts2, w14, rfl, hp8, s8⟩
        have vv : (((List.range (x.left / d + 1)).map (chd l d x)).map (ndVal l rs)).sum = ndVal l rs x := by rw [List.map_map]; exact chd_val (fun d hd => (dr d hd).1) ea hd
        have cc : (((List.range (x.left / d + 1)).map (chd l d x)).map fun x => cst rs x.a x.left).sum + 1 = cst rs x.a x.left := by rw [List.map_map]; exact chd_cst ea hd
        refine ⟨_, ?_, tot, ts2, _, w4, _, _, _, _, _, _, _, w14, rfl, hp8, s8, ?_, rfl⟩
        · rw [ec, List.map_append, List.sum_append]; omega
        · rw [List.map_append, List.sum_append, vv, ← et]; omega
theorem sc_law_how_many : FnScope ["p", "m", "found", "counts", "l"] ["p", "m"] (defScope s_law_how_many) := ⟨rfl, rfl, rfl, by decide +kernel, rfl, by decide +kernel, by decide +kernel⟩
theorem ok_law_how_many {f : Addr} {fd : FuncData} (F : Fun K "_law_how_many" "_law_how_many" s_law_how_many f fd) (c_law_counts : Cal P w K mg base "_law_counts" 2 ["p"] spCounts) (c_law_woven : Cal P w K mg base "_law_woven" 1 ["l", "many", "rights"] spWoven) (c_law_rights : Cal P w K mg base "_law_rights" 1 ["l", "m", "most"] spRightsL) : FnOk P w K mg base CX0 3 f fd ["p", "m"] spMany := by
  refine F.ok sc_law_how_many (fun vs H Q E h => ?_) (fun cdv A outer s H vs Q E hr h => ?_)
  · obtain ⟨a, p, m, rfl, ⟨ha, tp, lp⟩, m1, q⟩ := h
    rfl
  · obtain ⟨a, p, m, rfl, ⟨ha, tp, lp⟩, m1, q⟩ := h
    have hr_law_counts : Room 2 _ := hr.mono (by decide)
    have hr_law_woven : Room 1 _ := hr.mono (by decide)
    have hr_law_rights : Room 1 _ := hr.mono (by decide)
    have hu := hu_of hr
    refine ⟨_, @pss_cons _ _ _ _ _ (@ps_set _ _ (2) _ _ _ _ sc_law_how_many.nd rfl (Or.inl rfl) (@pe_int _ _ _ _) (by rfl) (by first | exact .inl rfl | exact .inr rfl | assumption)) (@pss_cons _ _ _ _ _ (@ps_set _ _ (3) _ _ _ _ sc_law_how_many.nd rfl (Or.inl rfl) (@pe_cal _ _ _ _ _ _ _ _ _ _ c_law_counts hr_law_counts (@pa_cons _ _ _ _ _ (pv 0) (@pa_nil _) (by rfl)) (by rfl) (by decide) (by rfl) (by rfl)) (by rfl) (by first | exact .inl rfl | exact .inr rfl | assumption)) (@pss_cons _ _ _ _ _ (@ps_for _ _ _ _ _ _ _ _ PassesOwn.never rfl (@pi_dict _ _ _ _ (pv 3)) (@pg_name _ _ (4) _ sc_law_how_many.nd rfl (Or.inl rfl) (by first | exact .inl rfl | exact .inr rfl | assumption)) (@pss_one _ _ _ (@ps_set _ _ (2) _ _ _ _ sc_law_how_many.nd rfl (Or.inl rfl) (@pe_op _ _ _ _ _ _ _ _ op_mulH (pv 2) (@pe_cal _ _ _ _ _ _ _ _ _ _ c_law_woven hr_law_woven (@pa_cons _ _ _ _ _ (pv 4) (@pa_cons _ _ _ _ _ (@pe_dget _ _ _ _ _ _ hu (pv 3) (pv 4) (fun _ _ => rfl)) (@pa_cons _ _ _ _ _ (@pe_cal _ _ _ _ _ _ _ _ _ _ c_law_rights hr_law_rights (@pa_cons _ _ _ _ _ (pv 4) (@pa_cons _ _ _ _ _ (pv 1) (@pa_cons _ _ _ _ _ (@pe_dget _ _ _ _ _ _ hu (pv 3) (pv 4) (fun _ _ => rfl)) (@pa_nil _) (by rfl)) (by rfl)) (by rfl)) (by rfl) (by decide) (by rfl) (by rfl)) (@pa_nil _) (by rfl)) (by rfl)) (by rfl)) (by rfl) (by decide) (by rfl) (by rfl))) (by rfl) (by first | exact .inl rfl | exact .inr rfl | assumption))) (by intro _; rfl)) (@pss_one _ _ _ (@ps_ret _ _ _ _ (pv 2))))), ?_⟩
    refine ⟨_, rfl, a, p, rfl, ⟨ha, tp, lp⟩, fun d kvs ns H1 nd s1 ca bz ln => ?_⟩
    have up := rings_up tp
    generalize hrs : ringsF p p.length = rs at ca up
    have cl := up_count up
    have fl := up_len tp up
    refine ⟨_, rfl, d, kvs, rfl, ca.at_, fun o => ?_⟩
    have s4 : Same H (upd H1 d (.frz o (.dK kvs))) := s1.upd_r nd
    have h4d : (upd H1 d (.frz o (.dK kvs))) d = some (.frz o (.dK kvs)) := upd_same
    generalize (upd H1 d (.frz o (.dK kvs))) = H4 at s4 h4d ⊢
    have lkv : kvs.length = ns.length := by have := congrArg List.length ca.keys; rw [List.length_map, List.length_map] at this; exact this
    have cb : ∀ u, cntL rs u ≤ 40 := fun u => by
      have : cntL rs u ≤ rs.length := List.countP_le_length
      omega
    refine for_dict (fun i σ H5 => ∃ (v : Option V), σ = [some (.ref a), some (.int (m : Int)), some (.int ((prodF (fun l => joinsN l m (cntL rs l)) ((ns.take i).map Int.toNat) : Nat) : Int)), some (.ref d), v] ∧ Same H4 H5)
      ⟨none, rfl, Same.refl H4⟩ (fun i σ H5 _ ⟨_, _, e⟩ => e _ _ h4d) ?_ ?_
    · rintro i k v σ H5 hi ⟨v4, rfl, s5⟩
      have hk : (kvs.map (·.1))[i]? = some k := by rw [List.getElem?_map, hi]; rfl
      rw [show kvs.map (·.1) = ns.map Sum.inl from ca.keys, List.getElem?_map] at hk
      cases hE : ns[i]? with
      | none => rw [hE] at hk; cases hk
      | some z =>
        rw [hE] at hk
        cases hk
        have zm := List.mem_of_getElem? hE
        have zb := bz z zm
        obtain ⟨u, rfl⟩ : ∃ u : Nat, z = (u : Int) := ⟨z.toNat, by omega⟩
        have il : i < ns.length := (List.getElem?_eq_some_iff.mp hE).1
        have vu := ca.val u zm
        have cu := cb u
        have pb : prodF (fun l => joinsN l m (cntL rs l)) ((ns.take i).map Int.toNat) ≤ (1600 ^ 40) ^ i := by
          have := prodF_le (f := fun l => joinsN l m (cntL rs l)) (c := 1600 ^ 40) (ks := (ns.take i).map Int.toNat) fun k hk => by
            obtain ⟨e1, he1, rfl⟩ := List.mem_map.mp hk
            have := bz e1 (List.mem_of_mem_take he1)
            exact joinsN_le (by omega) (cb _)
          rw [List.length_map, List.length_take, Nat.min_eq_left (by omega)] at this
          exact this
        obtain ⟨F0, hF0⟩ : ∃ F0, F0 = prodF (fun l => joinsN l m (cntL rs l)) ((ns.take i).map Int.toNat) := ⟨_, rfl⟩
        rw [← hF0] at pb ⊢
        refine ⟨_, rfl, _, rfl, _, rfl, _, rfl, d, _, rfl, .inl ⟨kvs, Sum.inl (u : Int), .inr ⟨o, s5 _ _ h4d⟩, rfl, vu.symm⟩, _, rfl, _, rfl, _, rfl, _, rfl, d, _, rfl, .inl ⟨kvs, Sum.inl (u : Int), .inr ⟨o, s5 _ _ h4d⟩, rfl, vu.symm⟩, u, m, cntL rs u, rfl, by omega, cu, fun fa H6 nfa s6 h6 => ?_⟩
        refine ⟨u, cntL rs u, fa, _, rfl, h6, by omega, cu, Nat.le_trans (rightsN_len _ _ _) cu, fun d hd => ⟨(rightsN_pos hd).1, Nat.le_trans (rightsN_pos hd).2 cu⟩, fun H7 s7 => ?_⟩
        refine ⟨_, _, rfl, rfl, ⟨?_, ?_⟩, some (.int (u : Int)), ?_, (s5.trans s6).trans s7⟩
        · rw [Int.natAbs_natCast]
          exact Nat.lt_of_le_of_lt pb (pow_lt2 i (by omega) (by decide))
        · rw [Int.natAbs_natCast]
          exact Nat.lt_of_le_of_lt (joinsN_le (by omega) cu) (pow_lt 40 (Nat.le_refl _) (by decide))
        · rw [take_succ_of hE, List.map_append, show ([(u : Int)].map Int.toNat : List Nat) = [u] from rfl, prodF_snoc, ← hF0, Int.natCast_mul]
          rfl
    · rintro σ H5 ⟨v, rfl, s5⟩
      rw [lkv, List.take_length, prod_keys tp up (ks := ns.map Int.toNat) (List.Pairwise.map _ (fun a b h => h) (List.Pairwise.imp_of_mem (fun {a b} ha hb h => show a.toNat ≠ b.toNat from fun e => h (by have := bz a ha; have := bz b hb; omega)) ca.nd)) (fun k hk => ?_) (fun r hr => ?_) (f := fun l => joinsN l m (cntL rs l)) fun u hu => by show joinsN u m (cntL rs u) = 1; rw [hu]; rfl]
      · rw [← hrs]
        exact ⟨_, rfl, q _ (s4.trans s5)⟩
      · obtain ⟨z, hz, rfl⟩ := List.mem_map.mp hk
        obtain ⟨r, hr, e⟩ := (ca.all z).mp hz
        exact ⟨r, hr, by omega⟩
      · exact List.mem_map.mpr ⟨(r.length : Int), (ca.all _).mpr ⟨r, hr, rfl⟩, rfl⟩
end
end My
namespace My
open PySem L2 Mth
section
variable {P : Program} {w : World} {K : PySem.W.Frag} {mg : Str → Option Value} {base : Heap} {q_TurnError q_NoTurn q_NoFit q_NoRounds q_NoNumber q_NoRoot q_TooMany q_NoKind q_NoText q_NoName q_NoRow : Addr}
theorem op_notInK {X : Cx} (K : PySem.W.Frag) (hK : X.K = K := by rfl) : OpR X (compareOp .NotIn) (rIn K true) := by
  subst hK; exact op_notIn_seq
def gro (n : Nat) (r : List Int) : List (List Int) := ((List.range n).filter fun (t : Nat) => !decide ((t : Int) ∈ r)).map fun (t : Nat) => r ++ [(t : Int)]
theorem gro_succ (t : Nat) (r : List Int) : gro (t + 1) r = if (t : Int) ∈ r then gro t r else gro t r ++ [r ++ [(t : Int)]] := by
  unfold gro
  rw [List.range_succ, List.filter_append, List.map_append]
  by_cases c : (t : Int) ∈ r
  · rw [if_pos c, List.filter_cons_of_neg (by rw [decide_eq_true c]; decide)]
    exact List.append_nil _
  · rw [if_neg c, List.filter_cons_of_pos (by rw [decide_eq_false c]; rfl)]
    rfl
theorem gro_len (n : Nat) (r : List Int) : (gro n r).length ≤ n := by
  unfold gro
  rw [List.length_map]
  exact Nat.le_trans (List.length_filter_le _ _) (by rw [List.length_range]; exact Nat.le_refl _)
theorem gros_len (n : Nat) : ∀ ps : List (List Int), (ps.flatMap (gro n)).length ≤ ps.length * n
  | [] => by rw [List.length_nil, Nat.zero_mul]; exact Nat.le_refl _
  | q :: ps => by
    rw [List.flatMap_cons, List.length_append, List.length_cons, Nat.add_mul]
    have := gros_len n ps
    have := gro_len n q
    omega
theorem in_ints (x : Int) (r : List Int) : inV (.int x) (r.map V.int) = decide (x ∈ r) := by
  unfold inV
  rw [List.any_map, Bool.eq_iff_iff, List.any_eq_true, decide_eq_true_iff]
  refine ⟨fun ⟨y, hy, e⟩ => ?_, fun h => ⟨x, h, ?_⟩⟩
  · have e : (y == x) = true := e
    rw [← beq_iff_eq.mp e]; exact hy
  · show (x == x) = true
    exact beq_self_eq_true x
theorem flat_ints : ∀ r : List Int, (r.map V.int).all flatV = true
  | [] => rfl
  | x :: r => by rw [List.map_cons, List.all_cons, flat_ints r]; rfl
def spEvery : Sp := fun vs H Q _ => ∃ n : Nat, vs = [.int (n : Int)] ∧ n ≤ 5 ∧ ∀ (l : Addr) (as : List Addr) (H' : Hp), H l = none → Same H H' → H' l = some (.lst (as.map V.ref)) → RowsH H' as (evN n n) → Q (.ref l) H'
theorem sc_law_every : FnScope ["many", "found", "k", "longer", "row"] ["many"] (defScope s_law_every) := ⟨rfl, rfl, rfl, by decide +kernel, rfl, by decide +kernel, by decide +kernel⟩
theorem nd_thing_row_law_every : (["thing", "row"] : List Str).Nodup := by decide +kernel
theorem ok_law_every {f : Addr} {fd : FuncData} (F : Fun K "_law_every" "_law_every" s_law_every f fd) (B : Bl mg) : FnOk P w K mg base CX0 1 f fd ["many"] spEvery := by
  refine F.ok sc_law_every (fun vs H Q E h => ?_) (fun cdv A outer s H vs Q E hr h => ?_)
  · obtain ⟨n, rfl, hn, q⟩ := h
    rfl
  · obtain ⟨n, rfl, hn, q⟩ := h
    have hu := hu_of hr
    refine ⟨_, @pss_cons _ _ _ _ _ (@ps_set _ _ (1) _ _ _ _ sc_law_every.nd rfl (Or.inl rfl) (@pe_lst _ _ _ _ (@pa_cons _ _ _ _ _ (@pe_lst _ _ _ _ (@pa_nil _)) (@pa_nil _) (by rfl))) (by rfl) (by first | exact .inl rfl | exact .inr rfl | assumption)) (@pss_cons _ _ _ _ _ (@ps_for _ _ _ _ _ _ _ _ PassesOwn.never rfl (@pi_range1 _ _ _ _ _ _ (by rfl) B.range (@pa_cons _ _ _ _ _ (pv 0) (@pa_nil _) (by rfl)) (by rfl)) (@pg_name _ _ (2) _ sc_law_every.nd rfl (Or.inl rfl) (by first | exact .inl rfl | exact .inr rfl | assumption)) (@pss_cons _ _ _ _ _ (@ps_set _ _ (3) _ _ _ _ sc_law_every.nd rfl (Or.inl rfl) (@pe_lst _ _ _ _ (@pa_nil _)) (by rfl) (by first | exact .inl rfl | exact .inr rfl | assumption)) (@pss_cons _ _ _ _ _ (@ps_for _ _ _ _ _ _ _ _ PassesOwn.never rfl (@pi_list _ _ _ _ (pv 1)) (@pg_name _ _ (4) _ sc_law_every.nd rfl (Or.inr rfl) (by first | exact .inl rfl | exact .inr rfl | assumption)) (@pss_one _ _ _ (@ps_expr _ _ _ _ (@pe_extend _ _ _ _ _ _ _ (pv 3) (@pa_cons _ _ _ _ _ (@pe_comp _ _ _ _ _ _ _ _ _ _ _ (["thing", "row"]) (1) ([4]) rfl .of (@pi_range1 _ _ _ _ _ _ (by rfl) B.range (@pa_cons _ _ _ _ _ (pv 0) (@pa_nil _) (by rfl)) (by rfl)) (fun _ _ _ _ _ => @pg_name _ _ (0) _ nd_thing_row_law_every rfl (Or.inl rfl) (by first | exact .inl rfl | exact .inr rfl | assumption)) (fun _ _ _ _ _ => @pifs_one _ _ _ (@pt_cmpR _ _ _ _ _ _ _ _ (op_notInK K) (pv 0) (pv 1) (by with_unfolding_all rfl))) (fun _ _ _ _ _ => (@pe_op _ _ _ _ _ _ _ _ op_cat (pv 1) (@pe_lst _ _ _ _ (@pa_cons _ _ _ _ _ (pv 0) (@pa_nil _) (by rfl))))) (by intro _; rfl)) (@pa_nil _) (by rfl)) (by rfl) (by rfl) (by rfl) (by rfl) (by rfl)) (by rfl))) (by intro _; rfl)) (@pss_one _ _ _ (@ps_set _ _ (1) _ _ _ _ sc_law_every.nd rfl (Or.inl rfl) (pv 3) (by rfl) (by first | exact .inl rfl | exact .inr rfl | assumption))))) (by intro _; rfl)) (@pss_one _ _ _ (@ps_ret _ _ _ _ (pv 1)))), ?_⟩
    refine ⟨Nat.zero_le _, fun e0 he0 => ?_⟩
    have s1 : Same H (upd H e0 (.lst [])) := Same.upd_new he0
    have h1e : (upd H e0 (.lst [])) e0 = some (.lst (([] : List Int).map V.int)) := upd_same
    generalize (upd H e0 (.lst [])) = H1 at s1 h1e ⊢
    refine ⟨(show 1 ≤ sizeLine by decide), fun F0 hF0 => ?_⟩
    have s2 : Same H1 (upd H1 F0 (.lst [V.ref e0])) := Same.upd_new hF0
    have h2F : (upd H1 F0 (.lst [V.ref e0])) F0 = some (.lst (([e0] : List Addr).map V.ref)) := upd_same
    generalize (upd H1 F0 (.lst [V.ref e0])) = H2 at s2 h2F ⊢
    have h2e := s2 _ _ h1e
    have s02 := s1.trans s2
    refine ⟨_, rfl, (n : Int), rfl, by omega, by omega, ?_⟩
    rw [show ((n : Int)).toNat = n by omega]
    refine for_range (lo := 0) (n := n) (fun i σ H3 => ∃ (F : Addr) (as : List Addr) (v2 v3 v4 : Option V), σ = [some (.int (n : Int)), some (.ref F), v2, v3, v4] ∧ H3 F = some (.lst (as.map V.ref)) ∧ RowsH H3 as (evN n i) ∧ Same H H3 ∧ H F = none)
      ⟨F0, [e0], none, none, none, rfl, h2F, ⟨rfl, fun j b r e1 e2 => by
        rcases j with _ | j
        · cases e1; cases e2; exact h2e
        · cases e1⟩, s02, s1.free hF0⟩ ?_ ?_
    · rintro i σ H3 hi ⟨F, as, v2, v3, v4, rfl, h3F, rows, s3, hF⟩
      have lenA := evN_many n (by omega) i (by omega)
      refine ⟨Nat.zero_le _, fun L hL => ?_⟩
      have nFL : F ≠ L := ne_of_none h3F hL
      have hL0 : H L = none := s3.free hL
      have kb1 : KeepBut L H3 (upd H3 L (.lst [])) := KeepBut.upd
      have h4L : (upd H3 L (.lst [])) L = some (.lst (([] : List Addr).map V.ref)) := upd_same
      generalize (upd H3 L (.lst [])) = H4 at kb1 h4L ⊢
      have h4F := kb1 _ _ h3F nFL
      have nLas : L ∉ as := fun z => by
        obtain ⟨r, hr'⟩ := rows_mem rows z
        rw [hL] at hr'; cases hr'
      refine ⟨_, rfl, F, rfl, ⟨_, SqL.of h4F⟩, for_list (K := K) (a := F) (xs := as.map V.ref) (fun j σ H5 => ∃ (bs : List Addr) (v4 : Option V), σ = [some (.int (n : Int)), some (.ref F), some (.int ((0 : Int) + (i : Int))), some (.ref L), v4] ∧ H5 L = some (.lst (bs.map V.ref)) ∧ RowsH H5 bs (((evN n i).take j).flatMap (gro n)) ∧ KeepBut L H3 H5 ∧ L ∉ bs)
        ⟨[], v4, rfl, h4L, ⟨rfl, fun j b r h => by cases h⟩, kb1, fun z => by cases z⟩ (fun j σ H5 _ ⟨_, _, _, _, _, k, _⟩ => SqL.of (k _ _ h3F nFL)) ?_ ?_⟩
      · rintro j x σ H5 hj ⟨bs, v4, rfl, h5L, rowsB, kb5, nLb⟩
        obtain ⟨a, ha, rfl⟩ : ∃ a, as[j]? = some a ∧ x = V.ref a := by
          rw [List.getElem?_map] at hj
          cases e : as[j]? with
          | none => rw [e] at hj; cases hj
          | some a => rw [e] at hj; exact ⟨a, rfl, (Option.some.inj hj).symm⟩
        have jl : j < (evN n i).length := by rw [← rows.1]; exact (List.getElem?_eq_some_iff.mp ha).1
        obtain ⟨p, hp⟩ : ∃ p, (evN n i)[j]? = some p := ⟨_, List.getElem?_eq_getElem jl⟩
        have lp : p.length = i := evN_len i (List.mem_of_getElem? hp)
        have h3a := rows.2 j a p ha hp
        have naL : a ≠ L := fun z => nLas (z ▸ List.mem_of_getElem? ha)
        have h5a := kb5 _ _ h3a naL
        have etk : (evN n i).take (j + 1) = (evN n i).take j ++ [p] := by rw [List.take_succ, hp]; rfl
        have cntj : bs.length ≤ 600 := by
          rw [rowsB.1]
          have := gros_len n ((evN n i).take j)
          have l2 : ((evN n i).take j).length ≤ 120 := Nat.le_trans (List.length_take_le _ _) (by omega)
          have : ((evN n i).take j).length * n ≤ 120 * 5 := Nat.mul_le_mul l2 hn
          omega
        refine ⟨_, rfl, .inl ⟨rfl, _, SqL.of h5L⟩, _, rfl, (n : Int), rfl, by omega, by omega, ?_⟩
        rw [show ((n : Int)).toNat = n by omega]
        refine comp_range (lo := 0) (n := n) (fun t ys σ H6 => ∃ (cs : List Addr) (v : Option V), σ = [v, some (.ref a)] ∧ ys = cs.map V.ref ∧ RowsH H6 cs (gro t p) ∧ Same H5 H6 ∧ ∀ c ∈ cs, H5 c = none) ⟨[], none, rfl, rfl, ⟨rfl, fun j b r h => by cases h⟩, Same.refl _, fun c hc => by cases hc⟩ ?_ ?_
        · rintro t ys σ H6 ht ⟨cs, v, rfl, rfl, rowsC, s6, fr⟩
          have e0 : (0 : Int) + (t : Int) = (t : Int) := by omega
          rw [e0]
          have h6a := s6 _ _ h5a
          have lc : cs.length ≤ 5 := by rw [rowsC.1]; exact Nat.le_trans (gro_len t p) (by omega)
          refine ⟨_, rfl, _, rfl, a, _, rfl, .inl (SqL.of h6a), rfl, flat_ints p, _, rfl, ?_⟩
          rw [in_ints]
          by_cases c : (t : Int) ∈ p
          · rw [decide_eq_true c]
            refine iteF ⟨cs, _, rfl, rfl, ?_, s6, fr⟩
            rw [gro_succ, if_pos c]
            exact rowsC
          · rw [decide_eq_false c]
            refine iteT ⟨_, rfl, _, rfl, (show 1 ≤ sizeLine by decide), fun o ho => ?_⟩
            have s8 : Same H6 (upd H6 o (.lst [V.int (t : Int)])) := Same.upd_new ho
            have h8o : (upd H6 o (.lst [V.int (t : Int)])) o = some (.lst [V.int (t : Int)]) := upd_same
            generalize (upd H6 o (.lst [V.int (t : Int)])) = H8 at s8 h8o ⊢
            refine ⟨a, o, _, _, rfl, rfl, s8 _ _ h6a, h8o, Nat.le_of_lt (small1000 (by simp only [List.length_map, List.length_singleton]; omega)), fun e he => ?_⟩
            have ec : p.map V.int ++ [V.int (t : Int)] = (p ++ [(t : Int)]).map V.int := by rw [List.map_append]; rfl
            rw [ec]
            have s9 : Same H6 (upd H8 e (.lst ((p ++ [(t : Int)]).map V.int))) := s8.trans (Same.upd_new he)
            have h9e : (upd H8 e (.lst ((p ++ [(t : Int)]).map V.int))) e = some (.lst ((p ++ [(t : Int)]).map V.int)) := upd_same
            generalize (upd H8 e (.lst ((p ++ [(t : Int)]).map V.int))) = H9 at s9 h9e ⊢
            refine ⟨small1000 (by rw [List.length_map]; omega), cs ++ [e], _, rfl, by rw [List.map_append]; rfl, ?_, s6.trans s9, fun b hb => ?_⟩
            · rw [gro_succ, if_neg c]
              exact rows_snoc (rows_keep rowsC fun b hb o e => s9 _ _ e) h9e
            · rcases List.mem_append.mp hb with z | z
              · exact fr b z
              · rw [List.mem_singleton.mp z]
                exact (s6.trans s8).free he
        · rintro ys σ H6 ⟨cs, v, rfl, rfl, rowsC, s6, fr⟩ D hD
          have s7 : Same H5 (upd H6 D (.lst (cs.map V.ref))) := s6.trans (Same.upd_new hD)
          have h7D : (upd H6 D (.lst (cs.map V.ref))) D = some (.lst (cs.map V.ref)) := upd_same
          have r7 : RowsH (upd H6 D (.lst (cs.map V.ref))) cs (gro n p) := rows_keep rowsC fun b hb o e => Same.upd_new hD _ _ e
          generalize (upd H6 D (.lst (cs.map V.ref))) = H7 at s7 h7D r7 ⊢
          have lc : cs.length ≤ 5 := by rw [rowsC.1]; exact Nat.le_trans (gro_len n p) (by omega)
          refine ⟨L, D, _, _, rfl, rfl, s7 _ _ h5L, h7D, Nat.le_of_lt (small1000 (by rw [List.length_map, List.length_map]; omega)), ?_⟩
          have nLc : L ∉ cs := fun z => by have := fr L z; rw [h5L] at this; cases this
          rw [← List.map_append]
          refine ⟨bs ++ cs, _, rfl, upd_same, ?_, (kb5.trans (s7.but L)).upd_a, fun z => ?_⟩
          · rw [etk, List.flatMap_append, List.flatMap_cons, List.flatMap_nil, List.append_nil]
            refine rows_keep (rows_app (rows_keep rowsB fun b hb o e => s7 _ _ e) r7) fun b hb o e => ?_
            rw [upd_ne (show b ≠ L from fun z => ?_)]
            · exact e
            · rw [z] at hb
              rcases List.mem_append.mp hb with y | y
              · exact nLb y
              · exact nLc y
          · rcases List.mem_append.mp z with y | y
            · exact nLb y
            · exact nLc y
      · rintro σ H5 ⟨bs, v4, rfl, h5L, rowsB, kb5, nLb⟩
        rw [List.length_map, rows.1, List.take_length] at rowsB
        exact ⟨_, rfl, L, bs, _, _, _, rfl, h5L, rowsB, s3.kb kb5 hL0, hL0⟩
    · rintro σ H3 ⟨F, as, v2, v3, v4, rfl, h3F, rows, s3, hF⟩
      exact ⟨_, rfl, q F as H3 hF s3 h3F rows⟩
def spRootsL : Sp := fun vs H Q _ => ∃ (a : Addr) (p : List Int) (m : Nat), vs = [.ref a, .int (m : Int)] ∧ H a = some (.lst (p.map V.int)) ∧ IsT p ∧ p.length ≤ 5 ∧ ∀ (l : Addr) (vs : List V) (H' : Hp), H l = none → Same H H' → H' l = some (.lst vs) → vs.length = howR p m → Q (.ref l) H'
theorem sc_law_roots : FnScope ["p", "m"] ["p", "m"] (defScope s_law_roots) := ⟨rfl, rfl, rfl, by decide +kernel, rfl, by decide +kernel, by decide +kernel⟩
theorem nd_r_p_m_law_roots : (["r", "p", "m"] : List Str).Nodup := by decide +kernel
theorem ok_law_roots {f : Addr} {fd : FuncData} (F : Fun K "_law_roots" "_law_roots" s_law_roots f fd) (B : Bl mg) (c_law_every : Cal P w K mg base "_law_every" 1 ["many"] spEvery) (c_law_power : Cal P w K mg base "_law_power" 2 ["p", "m"] spPower) : FnOk P w K mg base CX0 3 f fd ["p", "m"] spRootsL := by
  refine F.ok sc_law_roots (fun vs H Q E h => ?_) (fun cdv A outer s H vs Q E hr h => ?_)
  · obtain ⟨a, p, m, rfl, ha, tp, lp, q⟩ := h
    rfl
  · obtain ⟨a, p, m, rfl, ha, tp, lp, q⟩ := h
    have hr_law_every : Room 1 _ := hr.mono (by decide)
    have hr_law_power : Room 2 _ := hr.mono (by decide)
    have hu := hu_of hr
    refine ⟨_, @pss_one _ _ _ (@ps_ret _ _ _ _ (@pe_comp _ _ _ _ _ _ _ _ _ _ _ (["r", "p", "m"]) (1) ([0, 1]) rfl .of (@pi_list _ _ _ _ (@pe_cal _ _ _ _ _ _ _ _ _ _ c_law_every hr_law_every (@pa_cons _ _ _ _ _ (@pe_lenL _ _ _ _ _ B.len (@pa_cons _ _ _ _ _ (pv 0) (@pa_nil _) (by rfl)) (by rfl) (by rfl)) (@pa_nil _) (by rfl)) (by rfl) (by decide) (by rfl) (by rfl))) (fun _ _ _ _ _ => @pg_name _ _ (0) _ nd_r_p_m_law_roots rfl (Or.inl rfl) (by first | exact .inl rfl | exact .inr rfl | assumption)) (fun _ _ _ _ _ => @pifs_one _ _ _ (@pt_cmpR _ _ _ _ _ _ _ _ (op_eqLK K 0 hu) (@pe_cal _ _ _ _ _ _ _ _ _ _ c_law_power hr_law_power (@pa_cons _ _ _ _ _ (pv 0) (@pa_cons _ _ _ _ _ (pv 2) (@pa_nil _) (by rfl)) (by rfl)) (by rfl) (by decide) (by rfl) (by rfl)) (pv 1) (nomark _))) (fun _ _ _ _ _ => (pv 0)) (by intro _; rfl))), ?_⟩
    have evp := evN_turns p.length (by omega)
    refine ⟨_, rfl, a, _, rfl, .inl (SqL.of ha), p.length, ?_, lp, fun F as H2 hF s2 h2F rows => ?_⟩
    · rw [List.length_map]; rfl
    have lenA := evN_many p.length (by omega) p.length (by omega)
    refine ⟨F, rfl, ⟨_, SqL.of h2F⟩, comp_list (K := K) (a := F) (xs := as.map V.ref) (fun i ys σ H5 => ∃ v : Option V, σ = [v, some (.ref a), some (.int (m : Int))] ∧ ys.length = ((evN p.length p.length).take i).countP (fun q => decide (powL q m = p)) ∧ Same H2 H5)
      ⟨none, rfl, rfl, Same.refl _⟩ (fun i ys σ H5 _ ⟨_, _, _, k⟩ => SqL.of (k _ _ h2F)) ?_ ?_⟩
    · rintro i x ys σ H5 hi ⟨v, rfl, ey, s5⟩
      obtain ⟨b, hb, rfl⟩ : ∃ b, as[i]? = some b ∧ x = V.ref b := by
        rw [List.getElem?_map] at hi
        cases e : as[i]? with
        | none => rw [e] at hi; cases hi
        | some a => rw [e] at hi; exact ⟨a, rfl, (Option.some.inj hi).symm⟩
      have il : i < (evN p.length p.length).length := by rw [← rows.1]; exact (List.getElem?_eq_some_iff.mp hb).1
      obtain ⟨r, hr⟩ : ∃ r, (evN p.length p.length)[i]? = some r := ⟨_, List.getElem?_eq_getElem il⟩
      obtain ⟨t1, t2, t3, t4⟩ := evp r (List.mem_of_getElem? hr)
      have hb5 := s5 _ _ (rows.2 i b r hb hr)
      have ly : ys.length ≤ 120 := by rw [ey]; exact Nat.le_trans List.countP_le_length (Nat.le_trans (List.length_take_le _ _) (by omega))
      refine ⟨_, rfl, _, rfl, b, r, (m : Int), rfl, ⟨hb5, ⟨t1, t2, t3⟩, by omega⟩, fun l t H6 hl s6 pw h6 => ?_⟩
      have s56 := s5.trans s6
      rw [pow_is pw] at h6
      refine ⟨_, rfl, l, a, _, _, _, rfl, rfl, SqL.of h6, SqL.of (s56 _ _ (s2 _ _ ha)), leq_ints _ _ _ _ _, _, rfl, ?_⟩
      have es : ((evN p.length p.length).take (i + 1)).countP (fun q => decide (powL q m = p)) = ((evN p.length p.length).take i).countP (fun q => decide (powL q m = p)) + if decide (powL r m = p) = true then 1 else 0 := by
        rw [take_succ_of hr, List.countP_append, List.countP_singleton]
      by_cases c : powL r m = p
      · rw [decide_eq_true c] at es ⊢
        exact iteT ⟨_, rfl, small1000 (by omega), _, rfl, by rw [List.length_append, ey, es]; rfl, s56⟩
      · rw [decide_eq_false c] at es ⊢
        exact iteF ⟨_, rfl, by rw [ey, es]; rfl, s56⟩
    · rintro ys σ H5 ⟨v, rfl, ey, s5⟩ D hD
      rw [List.length_map, rows.1, List.take_length, roots_cnt tp lp] at ey
      exact q D ys _ ((s2.trans s5).free hD) ((s2.trans s5).trans (Same.upd_new hD)) upd_same ey
def spOneNX (K : PySem.W.Frag) (qt qn : Addr) : Sp := fun vs H _ E => ∃ v m, vs = [v, .int m] ∧ ((NoTurnV K H v ∧ ∀ H', Same H H' → E (.ref qt) none H') ∨ (∃ a p, v = .ref a ∧ TurnAt H a p ∧ m < 1 ∧ ∀ H', Same H H' → E (.ref qn) none H'))
theorem okx_how_many_roots {f : Addr} {fd : FuncData} (F : Fun K "how_many_roots" "how_many_roots" s_how_many_roots f fd) (c_must_be_turn : CalX P w K mg base "must_be_turn" 3 ["thing"] (fun vs H Q E => spMust vs H Q E ∨ (spMustX K q_NoTurn) vs H Q E)) (c_must_be_from_one : CalX P w K mg base "must_be_from_one" 2 ["number"] (fun vs H Q E => spOne vs H Q E ∨ (spOneX q_NoNumber) vs H Q E)) : FnOk P w K mg base (CX1 P w) 4 f fd ["p", "m"] (spOneNX K q_NoTurn q_NoNumber) := by
  refine F.okx sc_how_many_roots (fun vs H Q E h => ?_) (fun cdv A outer s H vs Q E hr h => ?_)
  · obtain ⟨v, m, rfl, h⟩ := h
    rfl
  · obtain ⟨v, m, rfl, h⟩ := h
    have hr_must_be_turn : Room 3 _ := hr.mono (by decide)
    have hr_must_be_from_one : Room 2 _ := hr.mono (by decide)
    refine ⟨_, @pss_cons _ _ _ _ _ (@ps_expr _ _ _ _ (@pe_calx _ _ _ _ _ _ _ _ _ _ _ c_must_be_turn hr_must_be_turn (@passes_cx _ _ _ _ _ _ _ _ _ _ _ _ _ _ _ _ fun _ _ _ h => h) (@pa_cons _ _ _ _ _ (pv 0) (@pa_nil _) (by rfl)) (by rfl) (by decide) (by rfl) (by rfl)) (by rfl)) (@pss_cons _ _ _ _ _ (@ps_expr _ _ _ _ (@pe_calx _ _ _ _ _ _ _ _ _ _ _ c_must_be_from_one hr_must_be_from_one (@passes_cx _ _ _ _ _ _ _ _ _ _ _ _ _ _ _ _ fun _ _ _ h => h) (@pa_cons _ _ _ _ _ (pv 1) (@pa_nil _) (by rfl)) (by rfl) (by decide) (by rfl) (by rfl)) (by rfl)) (@pss_never _ _)), ?_⟩
    rcases h with ⟨no, k⟩ | ⟨a, p, rfl, tp, hm, k⟩
    · exact ⟨_, rfl, .inr ⟨v, rfl, no, k⟩⟩
    · refine ⟨_, rfl, .inl ⟨a, p, rfl, tp, fun H1 s1 => ?_⟩⟩
      exact ⟨_, rfl, .inr ⟨m, rfl, hm, k H1 s1⟩⟩
def spAsked18 (K : PySem.W.Frag) : Sp := fun vs H Q _ => ∃ v m, vs = [v, .int m] ∧ ((NoTurnV K H v ∧ ∀ H', Same H H' → Q (.str "NoTurn") H') ∨ (∃ a p, v = .ref a ∧ TurnAt H a p ∧ m < 1 ∧ ∀ H', Same H H' → Q (.str "NoNumber") H') ∨
  (∃ (a : Addr) (p : List Int) (k : Nat), v = .ref a ∧ m = (k : Int) ∧ TurnAt H a p ∧ 1 ≤ k ∧ ∀ H', Same H H' → Q (.int ((howR p k : Nat) : Int)) H'))
theorem sc_law_asked : FnScope ["p", "m", "found", "caught", "e"] ["p", "m"] (defScope s_law_asked) := ⟨rfl, rfl, rfl, by decide +kernel, rfl, by decide +kernel, by decide +kernel⟩
theorem ok_law_asked {f : Addr} {fd : FuncData} (F : Fun K "_law_asked" "_law_asked" s_law_asked f fd) (c_how_many_roots : CalX P w K mg base "how_many_roots" 4 ["p", "m"] (fun vs H Q E => spMany vs H Q E ∨ (spOneNX K q_NoTurn q_NoNumber) vs H Q E)) (c_law_word : Cal P w K mg base "_law_word" 1 ["caught"] (spWord q_NoTurn q_NoFit q_NoRounds q_NoNumber q_NoRoot q_TooMany q_NoKind q_NoText q_NoName q_NoRow)) (ER : ErrAll K mg q_TurnError [("NoTurn", q_NoTurn), ("NoFit", q_NoFit), ("NoRounds", q_NoRounds), ("NoNumber", q_NoNumber), ("NoRoot", q_NoRoot), ("TooMany", q_TooMany), ("NoKind", q_NoKind), ("NoText", q_NoText), ("NoName", q_NoName), ("NoRow", q_NoRow)]) : FnOk P w K mg base CX0 5 f fd ["p", "m"] (spAsked18 K) := by
  refine F.ok sc_law_asked (fun vs H Q E h => ?_) (fun cdv A outer s H vs Q E hr h => ?_)
  · obtain ⟨v, m, rfl, h⟩ := h
    rfl
  · obtain ⟨v, m, rfl, h⟩ := h
    have hr_how_many_roots : Room 4 _ := hr.mono (by decide)
    have hr_law_word : Room 1 _ := hr.mono (by decide)
    refine ⟨_, @pss_cons _ _ _ _ _ (@ps_set _ _ (2) _ _ _ _ sc_law_asked.nd rfl (Or.inl rfl) (@pe_non _ _ _) (by rfl) (by first | exact .inl rfl | exact .inr rfl | assumption)) (@pss_cons _ _ _ _ _ (@ps_set _ _ (3) _ _ _ _ sc_law_asked.nd rfl (Or.inl rfl) (@pe_non _ _ _) (by rfl) (by first | exact .inl rfl | exact .inr rfl | assumption)) (@pss_cons _ _ _ _ _ (@ps_try _ _ _ _ _ (4) _ _ _ _ _ _ _ (@px_set _ _ _ _ _ _ _ _ _ _ (2) _ _ _ c_how_many_roots hr_how_many_roots sc_law_asked.nd rfl (Or.inl rfl) (@pa_cons _ _ _ _ _ (pv 0) (@pa_cons _ _ _ _ _ (pv 1) (@pa_nil _) (by rfl)) (by rfl)) (by rfl) (by decide) (by rfl) (by rfl) (by rfl) (by first | exact .inl rfl | exact .inr rfl | assumption)) ER.top sc_law_asked.nd rfl rfl (fun _ => (@pss_one _ _ _ (@ps_set _ _ (3) _ _ _ _ sc_law_asked.nd rfl (Or.inl rfl) (pv 4) (by rfl) (by first | exact .inl rfl | exact .inr rfl | assumption)))) (by rfl) (by rfl) (by rfl) (by rfl) (by decide) (by first | exact .inl rfl | exact .inr rfl | assumption)) (@pss_cons _ _ _ _ _ (@ps_if _ _ _ _ _ _ _ _ (@pt_cmpR _ _ _ _ _ _ _ _ op_isN (pv 3) (@pe_non _ _ _) (nomark _)) (@pss_one _ _ _ (@ps_ret _ _ _ _ (pv 2))) (@pss_nil _)) (@pss_one _ _ _ (@ps_ret _ _ _ _ (@pe_cal _ _ _ _ _ _ _ _ _ _ c_law_word hr_law_word (@pa_cons _ _ _ _ _ (pv 3) (@pa_nil _) (by rfl)) (by rfl) (by decide) (by rfl) (by rfl))))))), ?_⟩
    rcases h with ⟨no, k⟩ | ⟨a, p, rfl, tp, hm, k⟩ | ⟨a, p, n, rfl, rfl, tp, n1, k⟩
    · refine ⟨_, rfl, _, rfl, .inr ⟨v, m, rfl, .inl ⟨no, fun H1 s1 => ⟨q_NoTurn, rfl, ER.exm ("NoTurn", q_NoTurn) (by simp), fun a ha => ?_⟩⟩⟩⟩
      refine ⟨_, rfl, ?_⟩
      refine ⟨_, rfl, rfl, _, rfl, ?_⟩
      refine iteF ?_
      refine ⟨_, rfl, a, "NoTurn", q_NoTurn, rfl, upd_same, by simp, fun H' s => k H' fun b o e => s b o ?_⟩
      rw [upd_ne (ne_of_none (s1 _ _ e) ha)]
      exact s1 _ _ e
    · refine ⟨_, rfl, _, rfl, .inr ⟨.ref a, m, rfl, .inr ⟨a, p, rfl, tp, hm, fun H1 s1 => ⟨q_NoNumber, rfl, ER.exm ("NoNumber", q_NoNumber) (by simp), fun a ha => ?_⟩⟩⟩⟩
      refine ⟨_, rfl, ?_⟩
      refine ⟨_, rfl, rfl, _, rfl, ?_⟩
      refine iteF ?_
      refine ⟨_, rfl, a, "NoNumber", q_NoNumber, rfl, upd_same, by simp, fun H' s => k H' fun b o e => s b o ?_⟩
      rw [upd_ne (ne_of_none (s1 _ _ e) ha)]
      exact s1 _ _ e
    · refine ⟨_, rfl, _, rfl, .inl ⟨a, p, n, rfl, tp, n1, fun H1 s1 => ?_⟩⟩
      refine ⟨_, rfl, rfl, _, rfl, ?_⟩
      exact iteT ⟨_, rfl, k H1 s1⟩
def spRight18 (K : PySem.W.Frag) : Sp := fun vs H Q _ => ∃ (a : Addr) (p : List Int) (m : Nat), vs = [.ref a, .int (m : Int)] ∧ TurnAt H a p ∧ 1 ≤ m ∧ ∀ H', Same H H' → Q (.bl true) H'
theorem sc_law_right : FnScope ["p", "m", "kept", "found"] ["p", "m"] (defScope s_law_right) := ⟨rfl, rfl, rfl, by decide +kernel, rfl, by decide +kernel, by decide +kernel⟩
theorem ok_law_right {f : Addr} {fd : FuncData} (F : Fun K "_law_right" "_law_right" s_law_right f fd) (B : Bl mg) (c_law_asked : Cal P w K mg base "_law_asked" 5 ["p", "m"] (spAsked18 K)) (c_law_how_many : Cal P w K mg base "_law_how_many" 3 ["p", "m"] spMany) (c_law_roots : Cal P w K mg base "_law_roots" 3 ["p", "m"] spRootsL) : FnOk P w K mg base CX0 6 f fd ["p", "m"] (spRight18 K) := by
  refine F.ok sc_law_right (fun vs H Q E h => ?_) (fun cdv A outer s H vs Q E hr h => ?_)
  · obtain ⟨a, p, m, rfl, tp, m1, q⟩ := h
    rfl
  · obtain ⟨a, p, m, rfl, tp, m1, q⟩ := h
    have hr_law_asked : Room 5 _ := hr.mono (by decide)
    have hr_law_how_many : Room 3 _ := hr.mono (by decide)
    have hr_law_roots : Room 3 _ := hr.mono (by decide)
    have hu := hu_of hr
    refine ⟨_, @pss_cons _ _ _ _ _ (@ps_set _ _ (2) _ _ _ _ sc_law_right.nd rfl (Or.inl rfl) (@pe_listOf _ _ _ _ _ B.list (@pa_cons _ _ _ _ _ (pv 0) (@pa_nil _) (by rfl)) (by rfl) (by rfl)) (by rfl) (by first | exact .inl rfl | exact .inr rfl | assumption)) (@pss_cons _ _ _ _ _ (@ps_set _ _ (3) _ _ _ _ sc_law_right.nd rfl (Or.inl rfl) (@pe_cal _ _ _ _ _ _ _ _ _ _ c_law_asked hr_law_asked (@pa_cons _ _ _ _ _ (pv 0) (@pa_cons _ _ _ _ _ (pv 1) (@pa_nil _) (by rfl)) (by rfl)) (by rfl) (by decide) (by rfl) (by rfl)) (by rfl) (by first | exact .inl rfl | exact .inr rfl | assumption)) (@pss_cons _ _ _ _ _ (@ps_if _ _ _ _ _ _ _ _ (@pw_or _ _ _ _ _ _ _ (@pt_not _ _ _ _ (@pt_val _ _ _ (@pe_isi _ _ _ _ _ _ B.isi (@pa_cons _ _ _ _ _ (pv 3) (@pa_cons _ _ _ _ _ (@pe_tyInt _ _ B.int (by rfl)) (@pa_nil _) (by rfl)) (by rfl)) (by rfl) (by rfl) (by rfl)) (by intro _; rfl))) (@pw_or _ _ _ _ _ _ _ (@pt_val _ _ _ (@pe_isi _ _ _ _ _ _ B.isi (@pa_cons _ _ _ _ _ (pv 3) (@pa_cons _ _ _ _ _ (@pe_tyBool _ _ B.bool (by rfl)) (@pa_nil _) (by rfl)) (by rfl)) (by rfl) (by rfl) (by rfl)) (by intro _; rfl)) (@pw_or _ _ _ _ _ _ _ (@pt_cmpR _ _ _ _ _ _ _ _ op_ne (pv 3) (@pe_cal _ _ _ _ _ _ _ _ _ _ c_law_how_many hr_law_how_many (@pa_cons _ _ _ _ _ (pv 0) (@pa_cons _ _ _ _ _ (pv 1) (@pa_nil _) (by rfl)) (by rfl)) (by rfl) (by decide) (by rfl) (by rfl)) (nomark _)) (@pw_or1 _ _ _ _ (@pt_cmpR _ _ _ _ _ _ _ _ (op_neL 0 hu) (pv 0) (pv 2) (nomark _)))))).pt (@pss_one _ _ _ (@ps_ret _ _ _ _ (@pe_bl _ _ _ _))) (@pss_nil _)) (@pss_one _ _ _ (@ps_ret _ _ _ _ (@pe_or _ _ _ _ _ _ _ (@pe_cmpR _ _ _ _ _ _ _ _ op_gt (@pe_lenL _ _ _ _ _ B.len (@pa_cons _ _ _ _ _ (pv 0) (@pa_nil _) (by rfl)) (by rfl) (by rfl)) (@pe_int _ _ _ _) (nomark _)) (@pe_one _ _ _ _ _ (@pe_cmpR _ _ _ _ _ _ _ _ op_eq (pv 3) (@pe_lenL _ _ _ _ _ B.len (@pa_cons _ _ _ _ _ (@pe_cal _ _ _ _ _ _ _ _ _ _ c_law_roots hr_law_roots (@pa_cons _ _ _ _ _ (pv 0) (@pa_cons _ _ _ _ _ (pv 1) (@pa_nil _) (by rfl)) (by rfl)) (by rfl) (by decide) (by rfl) (by rfl)) (@pa_nil _) (by rfl)) (by rfl) (by rfl)) (nomark _)))))))), ?_⟩
    refine ⟨_, rfl, a, _, rfl, .inl (SqL.of tp.1), fun k1 hk1 => ?_⟩
    have s1 : Same H (upd H k1 (.lst (p.map V.int))) := Same.upd_new hk1
    have h1k : (upd H k1 (.lst (p.map V.int))) k1 = some (.lst (p.map V.int)) := upd_same
    generalize (upd H k1 (.lst (p.map V.int))) = H1 at s1 h1k ⊢
    refine ⟨_, rfl, _, rfl, .ref a, (m : Int), rfl, .inr (.inr ⟨a, p, m, rfl, rfl, ⟨s1 _ _ tp.1, tp.2⟩, m1, fun H2 s2 => ?_⟩)⟩
    have s02 := s1.trans s2
    refine ⟨_, rfl, .int _, "int", _, true, rfl, .int _, kit_same K "int", true, rfl, iteF ?_⟩
    refine ⟨_, rfl, .int _, "bool", _, false, rfl, .int _, kit_int_bool K, false, rfl, iteF ?_⟩
    refine ⟨_, rfl, _, rfl, _, rfl, a, p, m, rfl, ⟨s02 _ _ tp.1, tp.2⟩, m1, fun H3 s3 => ⟨rfl, _, rfl, ?_⟩⟩
    have s03 := s02.trans s3
    refine iteNS rfl ?_
    refine ⟨_, rfl, _, rfl, a, k1, _, _, _, rfl, rfl, SqL.of (s03 _ _ tp.1), SqL.of ((s2.trans s3) _ _ h1k), leq_ints _ _ _ _ _, _, rfl, ?_⟩
    rw [decide_eq_true rfl]
    refine iteF ?_
    refine ⟨_, rfl, a, _, rfl, .inl (SqL.of (s03 _ _ tp.1)), _, _, rfl, rfl, ?_⟩
    rw [List.length_map]
    by_cases c : 5 < p.length
    · exact ⟨true, congrArg V.bl (decide_eq_true (show (5 : Int) < (p.length : Int) by omega)), iteT (q _ s03)⟩
    · refine ⟨false, congrArg V.bl (decide_eq_false (show ¬ (5 : Int) < (p.length : Int) by omega)), iteF ?_⟩
      refine ⟨_, rfl, _, rfl, _, rfl, a, p, m, rfl, s03 _ _ tp.1, tp.2.1, by omega, fun l vs H4 hl s4 h4 lv => ⟨l, _, rfl, .inl (SqL.of h4), rfl, ?_⟩⟩
      rw [lv, decide_eq_true rfl]
      exact q _ (s03.trans s4)
theorem joinF {R : St → Hp → Prop} {σ : St} {H : Hp} {A B : Prop} {b : Bool} (G : St → Hp → Prop) (rest : ∀ σ' H', G σ' H' → R σ' H') (hb : G σ H) (ha : (∀ σ' H', G σ' H' → R σ' H') → A) : if b = true then A else if false = true then B else R σ H := by
  cases b with
  | true => exact ha rest
  | false => exact rest σ H hb
theorem joinR {R : St → Hp → Prop} {σ : St} {H : Hp} {A : Prop} {b : Bool} (G : St → Hp → Prop) (rest : ∀ σ' H', G σ' H' → R σ' H') (hb : G σ H) (ha : (∀ σ' H', G σ' H' → R σ' H') → A) : if b = true then A else R σ H := by
  cases b with
  | true => exact ha rest
  | false => exact rest σ H hb
theorem at4 (x : Int) : ∃ b : Nat, atI (([6, 13, 13, 31] : List Int).map V.int) (x % 4) = some (.int (b : Int)) ∧ 1 ≤ b ∧ b ≤ 31 := by
  rcases (show x % 4 = 0 ∨ x % 4 = 1 ∨ x % 4 = 2 ∨ x % 4 = 3 by omega) with e | e | e | e <;> rw [e]
  · exact ⟨6, atI_nat (j := 0) rfl, by decide, by decide⟩
  · exact ⟨13, atI_nat (j := 1) rfl, by decide, by decide⟩
  · exact ⟨13, atI_nat (j := 2) rfl, by decide, by decide⟩
  · exact ⟨31, atI_nat (j := 3) rfl, by decide, by decide⟩
def spLaw (K : PySem.W.Frag) : Sp := fun vs H Q _ => ∃ (a : Addr) (ns : List Int), vs = [.ref a] ∧ SqL K H a (ns.map V.int) ∧ ns.length ≤ 63 ∧ ∀ H', Q (.bl true) H'
theorem sc_law : FnScope ["script", "k", "deck", "many", "m", "p", "bad", "text", "words"] ["script"] (defScope s_law) := ⟨rfl, rfl, rfl, by decide +kernel, rfl, by decide +kernel, by decide +kernel⟩
theorem nd_number_bad_law : (["number", "bad"] : List Str).Nodup := by decide +kernel
theorem ok_law {f : Addr} {fd : FuncData} (F : Fun K "law" "law" s_law f fd) (B : Bl mg) (c_law_deck : Cal P w K mg base "_law_deck" 2 ["cell", "many"] spDeck) (c_law_cell_at : Cal P w K mg base "_law_cell_at" 1 ["script", "k"] (spCell K)) (c_law_next : Cal P w K mg base "_law_next" 1 ["deck"] spNext) (c_law_m : Cal P w K mg base "_law_m" 2 ["deck"] spM) (c_law_turn : Cal P w K mg base "_law_turn" 2 ["deck", "many"] spTurnD) (c_law_power : Cal P w K mg base "_law_power" 2 ["p", "m"] spPower) (c_law_right : Cal P w K mg base "_law_right" 6 ["p", "m"] (spRight18 K)) (c_law_bad_turns : Cal P w K mg base "_law_bad_turns" 3 ["deck", "p"] (spSpoilt K 100)) (c_law_asked : Cal P w K mg base "_law_asked" 5 ["p", "m"] (spAsked18 K)) : FnOk P w K mg base CX0 7 f fd ["script"] (spLaw K) := by
  refine F.ok sc_law (fun vs H Q E h => ?_) (fun cdv A outer s H vs Q E hr h => ?_)
  · obtain ⟨sc, ns, rfl, hsc, hns, q⟩ := h
    rfl
  · obtain ⟨sc, ns, rfl, hsc, hns, q⟩ := h
    have hr_law_deck : Room 2 _ := hr.mono (by decide)
    have hr_law_cell_at : Room 1 _ := hr.mono (by decide)
    have hr_law_next : Room 1 _ := hr.mono (by decide)
    have hr_law_m : Room 2 _ := hr.mono (by decide)
    have hr_law_turn : Room 2 _ := hr.mono (by decide)
    have hr_law_power : Room 2 _ := hr.mono (by decide)
    have hr_law_right : Room 6 _ := hr.mono (by decide)
    have hr_law_bad_turns : Room 3 _ := hr.mono (by decide)
    have hr_law_asked : Room 5 _ := hr.mono (by decide)
    have hu := hu_of hr
    have hug : _ + 16 < cLine := Nat.lt_of_le_of_lt (Nat.add_le_add_left (by decide : 16 ≤ 64) _) hr.units
    refine ⟨_, @pss_cons _ _ _ _ _ (@ps_for _ _ _ _ _ _ _ _ PassesOwn.never rfl (@pi_range1 _ _ _ _ _ _ (by rfl) B.range (@pa_cons _ _ _ _ _ (@pe_max2 _ _ _ _ _ _ rfl B.max (@pa_cons _ _ _ _ _ (@pe_int _ _ _ _) (@pa_cons _ _ _ _ _ (@pe_min2 _ _ _ _ _ _ rfl B.min (@pa_cons _ _ _ _ _ (@pe_lenL _ _ _ _ _ B.len (@pa_cons _ _ _ _ _ (pv 0) (@pa_nil _) (by rfl)) (by rfl) (by rfl)) (@pa_cons _ _ _ _ _ (@pe_int _ _ _ _) (@pa_nil _) (by rfl)) (by rfl)) (by rfl) (by rfl) (by rfl)) (@pa_nil _) (by rfl)) (by rfl)) (by rfl) (by rfl) (by rfl)) (@pa_nil _) (by rfl)) (by rfl)) (@pg_name _ _ (1) _ sc_law.nd rfl (Or.inl rfl) (by first | exact .inl rfl | exact .inr rfl | assumption)) (@pss_cons _ _ _ _ _ (@ps_set _ _ (2) _ _ _ _ sc_law.nd rfl (Or.inl rfl) (@pe_cal _ _ _ _ _ _ _ _ _ _ c_law_deck hr_law_deck (@pa_cons _ _ _ _ _ (@pe_cal _ _ _ _ _ _ _ _ _ _ c_law_cell_at hr_law_cell_at (@pa_cons _ _ _ _ _ (pv 0) (@pa_cons _ _ _ _ _ (pv 1) (@pa_nil _) (by rfl)) (by rfl)) (by rfl) (by decide) (by rfl) (by rfl)) (@pa_cons _ _ _ _ _ (@pe_int _ _ _ _) (@pa_nil _) (by rfl)) (by rfl)) (by rfl) (by decide) (by rfl) (by rfl)) (by rfl) (by first | exact .inl rfl | exact .inr rfl | assumption)) (@pss_cons _ _ _ _ _ (@ps_set _ _ (3) _ _ _ _ sc_law.nd rfl (Or.inl rfl) (@pe_op _ _ _ _ _ _ _ _ op_mod (@pe_cal _ _ _ _ _ _ _ _ _ _ c_law_next hr_law_next (@pa_cons _ _ _ _ _ (pv 2) (@pa_nil _) (by rfl)) (by rfl) (by decide) (by rfl) (by rfl)) (@pe_ix _ _ _ _ _ _ _ ix_list (@pe_litsO _ _ _ [6, 13, 13, 31] rfl) (@pe_op _ _ _ _ _ _ _ _ op_mod (@pe_cal _ _ _ _ _ _ _ _ _ _ c_law_next hr_law_next (@pa_cons _ _ _ _ _ (pv 2) (@pa_nil _) (by rfl)) (by rfl) (by decide) (by rfl) (by rfl)) (@pe_int _ _ _ _)) (fun _ _ => rfl))) (by rfl) (by first | exact .inl rfl | exact .inr rfl | assumption)) (@pss_cons _ _ _ _ _ (@ps_set _ _ (4) _ _ _ _ sc_law.nd rfl (Or.inl rfl) (@pe_cal _ _ _ _ _ _ _ _ _ _ c_law_m hr_law_m (@pa_cons _ _ _ _ _ (pv 2) (@pa_nil _) (by rfl)) (by rfl) (by decide) (by rfl) (by rfl)) (by rfl) (by first | exact .inl rfl | exact .inr rfl | assumption)) (@pss_cons _ _ _ _ _ (@ps_if _ _ _ _ _ _ _ _ (@pw_and _ _ _ _ _ _ _ (@pt_cmpR _ _ _ _ _ _ _ _ op_eq (pv 1) (@pe_int _ _ _ _) (nomark _)) (@pw_and1 _ _ _ _ (@pt_cmpR _ _ _ _ _ _ _ _ op_eq (@pe_op _ _ _ _ _ _ _ _ op_mod (@pe_cal _ _ _ _ _ _ _ _ _ _ c_law_next hr_law_next (@pa_cons _ _ _ _ _ (pv 2) (@pa_nil _) (by rfl)) (by rfl) (by decide) (by rfl) (by rfl)) (@pe_int _ _ _ _)) (@pe_int _ _ _ _) (nomark _)))).pt (@pss_one _ _ _ (@ps_set _ _ (3) _ _ _ _ sc_law.nd rfl (Or.inl rfl) (@pe_int _ _ _ _) (by rfl) (by first | exact .inl rfl | exact .inr rfl | assumption))) (@pss_nil _)) (@pss_cons _ _ _ _ _ (@ps_set _ _ (5) _ _ _ _ sc_law.nd rfl (Or.inl rfl) (@pe_cal _ _ _ _ _ _ _ _ _ _ c_law_turn hr_law_turn (@pa_cons _ _ _ _ _ (pv 2) (@pa_cons _ _ _ _ _ (pv 3) (@pa_nil _) (by rfl)) (by rfl)) (by rfl) (by decide) (by rfl) (by rfl)) (by rfl) (by first | exact .inl rfl | exact .inr rfl | assumption)) (@pss_cons _ _ _ _ _ (@ps_if _ _ _ _ _ _ _ _ (@pt_cmpR _ _ _ _ _ _ _ _ op_eq (@pe_op _ _ _ _ _ _ _ _ op_mod (@pe_cal _ _ _ _ _ _ _ _ _ _ c_law_next hr_law_next (@pa_cons _ _ _ _ _ (pv 2) (@pa_nil _) (by rfl)) (by rfl) (by decide) (by rfl) (by rfl)) (@pe_int _ _ _ _)) (@pe_int _ _ _ _) (nomark _)) (@pss_one _ _ _ (@ps_set _ _ (5) _ _ _ _ sc_law.nd rfl (Or.inl rfl) (@pe_cal _ _ _ _ _ _ _ _ _ _ c_law_power hr_law_power (@pa_cons _ _ _ _ _ (pv 5) (@pa_cons _ _ _ _ _ (pv 4) (@pa_nil _) (by rfl)) (by rfl)) (by rfl) (by decide) (by rfl) (by rfl)) (by rfl) (by first | exact .inl rfl | exact .inr rfl | assumption))) (@pss_nil _)) (@pss_cons _ _ _ _ _ (@ps_if _ _ _ _ _ _ _ _ (@pt_not _ _ _ _ (@pt_val _ _ _ (@pe_cal _ _ _ _ _ _ _ _ _ _ c_law_right hr_law_right (@pa_cons _ _ _ _ _ (pv 5) (@pa_cons _ _ _ _ _ (pv 4) (@pa_nil _) (by rfl)) (by rfl)) (by rfl) (by decide) (by rfl) (by rfl)) (by intro _; rfl))) (@pss_one _ _ _ (@ps_ret _ _ _ _ (@pe_bl _ _ _ _))) (@pss_nil _)) (@pss_cons _ _ _ _ _ (@ps_for _ _ _ _ _ _ _ _ PassesOwn.never rfl (@pi_list _ _ _ _ (@pe_cal _ _ _ _ _ _ _ _ _ _ c_law_bad_turns hr_law_bad_turns (@pa_cons _ _ _ _ _ (pv 2) (@pa_cons _ _ _ _ _ (pv 5) (@pa_nil _) (by rfl)) (by rfl)) (by rfl) (by decide) (by rfl) (by rfl))) (@pg_name _ _ (6) _ sc_law.nd rfl (Or.inr rfl) (by first | exact .inl rfl | exact .inr rfl | assumption)) (@pss_cons _ _ _ _ _ (@ps_set _ _ (7) _ _ _ _ sc_law.nd rfl (Or.inl rfl) (@pe_repr _ _ _ _ _ hug hr.gd B.repr (@pa_cons _ _ _ _ _ (pv 6) (@pa_nil _) (by rfl)) (by rfl) (by rfl)) (by rfl) (by first | exact .inl rfl | exact .inr rfl | assumption)) (@pss_cons _ _ _ _ _ (@ps_setC _ (8) _ _ _ _ _ _ _ _ _ _ _ _ _ (["number", "bad"]) (1) ([6]) sc_law.nd rfl (Or.inl rfl) rfl .of (@pi_tup _ _ _ _ (@pe_tup _ _ _ _ _ (@pa_cons _ _ _ _ _ (pv 4) (@pa_cons _ _ _ _ _ (@pe_int _ _ _ _) (@pa_cons _ _ _ _ _ (@pe_un _ _ _ _ _ _ un_neg (@pe_int _ _ _ _)) (@pa_nil _) (by rfl)) (by rfl)) (by rfl)))) (fun _ _ _ _ _ => @pg_name _ _ (0) _ nd_number_bad_law rfl (Or.inl rfl) (by first | exact .inl rfl | exact .inr rfl | assumption)) (fun _ _ _ _ _ => (@pifs_nil _)) (fun _ _ _ _ _ => (@pe_cal _ _ _ _ _ _ _ _ _ _ c_law_asked hr_law_asked (@pa_cons _ _ _ _ _ (pv 1) (@pa_cons _ _ _ _ _ (pv 0) (@pa_nil _) (by rfl)) (by rfl)) (by rfl) (by decide) (by rfl) (by rfl))) (by rfl) (by intro _; rfl) (by first | exact .inl rfl | exact .inr rfl | assumption)) (@pss_one _ _ _ (@ps_if _ _ _ _ _ _ _ _ (@pw_or _ _ _ _ _ _ _ (@pt_cmpR _ _ _ _ _ _ _ _ (op_neL 0 hu) (pv 8) (@pe_op _ _ _ _ _ _ _ _ op_rep (@pe_lst _ _ _ _ (@pa_cons _ _ _ _ _ (@pe_str _ _ _ _) (@pa_nil _) (by rfl))) (@pe_int _ _ _ _)) (nomark _)) (@pw_or1 _ _ _ _ (@pt_cmpR _ _ _ _ _ _ _ _ op_ne (@pe_repr _ _ _ _ _ hug hr.gd B.repr (@pa_cons _ _ _ _ _ (pv 6) (@pa_nil _) (by rfl)) (by rfl) (by rfl)) (pv 7) (nomark _)))).pt (@pss_one _ _ _ (@ps_ret _ _ _ _ (@pe_bl _ _ _ _))) (@pss_nil _))))) (by intro _; rfl)) (@pss_one _ _ _ (@ps_for _ _ _ _ _ _ _ _ PassesOwn.never rfl (@pi_tup _ _ _ _ (@pe_tup _ _ _ _ _ (@pa_cons _ _ _ _ _ (@pe_int _ _ _ _) (@pa_cons _ _ _ _ _ (@pe_un _ _ _ _ _ _ un_neg (@pe_int _ _ _ _)) (@pa_cons _ _ _ _ _ (@pe_op _ _ _ _ _ _ _ _ op_sub (@pe_un _ _ _ _ _ _ un_neg (@pe_int _ _ _ _)) (@pe_op _ _ _ _ _ _ _ _ op_mod (@pe_cal _ _ _ _ _ _ _ _ _ _ c_law_cell_at hr_law_cell_at (@pa_cons _ _ _ _ _ (pv 0) (@pa_cons _ _ _ _ _ (pv 1) (@pa_nil _) (by rfl)) (by rfl)) (by rfl) (by decide) (by rfl) (by rfl)) (@pe_op _ _ _ _ _ _ _ _ op_pow (@pe_int _ _ _ _) (@pe_int _ _ _ _)))) (@pa_nil _) (by rfl)) (by rfl)) (by rfl)))) (@pg_name _ _ (6) _ sc_law.nd rfl (Or.inr rfl) (by first | exact .inl rfl | exact .inr rfl | assumption)) (@pss_one _ _ _ (@ps_if _ _ _ _ _ _ _ _ (@pt_cmpR _ _ _ _ _ _ _ _ op_ne (@pe_cal _ _ _ _ _ _ _ _ _ _ c_law_asked hr_law_asked (@pa_cons _ _ _ _ _ (pv 5) (@pa_cons _ _ _ _ _ (pv 6) (@pa_nil _) (by rfl)) (by rfl)) (by rfl) (by decide) (by rfl) (by rfl)) (@pe_str _ _ _ _) (nomark _)) (@pss_one _ _ _ (@ps_ret _ _ _ _ (@pe_bl _ _ _ _))) (@pss_nil _))) (by intro _; rfl))))))))))) (by intro _; rfl)) (@pss_one _ _ _ (@ps_ret _ _ _ _ (@pe_bl _ _ _ _))), ?_⟩
    refine ⟨_, rfl, sc, _, rfl, .inl hsc, _, 4, rfl, 1, _, rfl, _, rfl, ?_⟩
    obtain ⟨mx, hmx, hm1, hm2⟩ := maxmin (n := 4) (c := ((ns.map V.int).length : Int)) (by decide) (by omega)
    rw [hmx]
    refine ⟨by omega, by omega, for_range (lo := 0) (n := mx.toNat) (fun i σ H2 => ∃ v1 v2 v3 v4 v5 v6 v7 v8 : Option V, σ = [some (.ref sc), v1, v2, v3, v4, v5, v6, v7, v8] ∧ Same H H2)
      ⟨none, none, none, none, none, none, none, none, rfl, Same.refl H⟩ ?_ (fun σ H2 ⟨_, _, _, _, _, _, _, _, _, _⟩ => q H2)⟩
    rintro i σ H2 hi ⟨v1, v2, v3, v4, v5, v6, v7, v8, rfl, s02⟩
    refine ⟨_, rfl, _, rfl, sc, ns, _, rfl, s02.seq hsc, by omega, fun z => ?_⟩
    refine ⟨z, 320, rfl, by decide, fun g H3 hg s23 D3 => ?_⟩
    have hg0 : H g = none := s02.free hg
    have s03 := s02.trans s23
    refine ⟨_, rfl, g, rfl, D3, fun x1 H4 x10 D4 kb4 => ?_⟩
    have s04 : Same H H4 := s03.kb kb4 hg0
    refine ⟨(by show 4 ≤ sizeLine; decide), fun e he => ?_⟩
    have nge : e ≠ g := D4.ne he
    refine ⟨_, rfl, g, rfl, D4.upd nge.symm, fun x2 H5 x20 D5 kb5 => ⟨_, _, rfl, rfl, (by show (0 : Int) < 4; decide), ?_⟩⟩
    have h5e := kb5 e _ upd_same nge
    have s05 : Same H H5 := (s04.upd_r (s04.free he)).kb kb5 hg0
    obtain ⟨bv, hat, bv1, bv2⟩ := at4 x2
    refine ⟨e, _, _, _, rfl, rfl, SqL.of h5e, hat, _, _, rfl, rfl, (show (0 : Int) < (bv : Int) by omega), ?_⟩
    have c1 := Int.emod_nonneg x1 (show (bv : Int) ≠ 0 by omega)
    have c2 := Int.emod_lt_of_pos x1 (show (0 : Int) < (bv : Int) by omega)
    obtain ⟨n0, hn0⟩ := Int.eq_ofNat_of_zero_le c1
    refine ⟨_, rfl, g, rfl, D5, fun m H6 m1 m2 D6 kb6 => ?_⟩
    have s06 : Same H H6 := s05.kb kb6 hg0
    refine ⟨_, rfl, rfl, _, rfl, ?_⟩
    refine joinF (fun σ' H' => ∃ n : Nat, σ' = [some (.ref sc), some (.int ((0 : Int) + (i : Int))), some (.ref g), some (.int (n : Int)), some (.int (m : Int)), v5, v6, v7, v8] ∧ n ≤ 40 ∧ DeckAt H' g ∧ Same H H') ?_ ⟨n0, by rw [← Int.ofNat_eq_natCast, ← hn0]; rfl, by omega, D6, s06⟩ fun rest => ?_
    rotate_left
    · refine ⟨_, rfl, g, rfl, D6, fun x3 H7 x30 D7 kb7 => ⟨_, _, rfl, rfl, (by show (0 : Int) < 4; decide), rfl, _, rfl, ?_⟩⟩
      have s07 := s06.kb kb7 hg0
      refine ite2 (fun _ => rest _ _ ⟨40, rfl, by decide, D7, s07⟩) (fun _ => rest _ _ ⟨n0, by rw [← Int.ofNat_eq_natCast, ← hn0]; rfl, by omega, D7, s07⟩)
    rintro σ' H7 ⟨n, rfl, hn, D7, s07⟩
    refine ⟨_, rfl, _, rfl, g, n, rfl, D7, hn, fun pa0 p0 H9 hpa tp0 lp0 h9p D9 kb9 => ?_⟩
    have s09 := s07.kb kb9 hg0
    have npg0 : pa0 ≠ g := D7.ne hpa
    refine ⟨_, rfl, g, rfl, D9, fun x3 H10 x30 D10 kb10 => ⟨_, _, rfl, rfl, (by show (0 : Int) < 2; decide), rfl, _, rfl, ?_⟩⟩
    have s010 := s09.kb kb10 hg0
    have h10p := kb10 _ _ h9p npg0
    refine joinR (fun σ' H' => ∃ (pa : Addr) (p : List Int), σ' = [some (.ref sc), some (.int ((0 : Int) + (i : Int))), some (.ref g), some (.int (n : Int)), some (.int (m : Int)), some (.ref pa), v6, v7, v8] ∧ TurnAt H' pa p ∧ pa ≠ g ∧ DeckAt H' g ∧ Same H H') ?_ ⟨pa0, p0, rfl, ⟨h10p, tp0, by omega⟩, npg0, D10, s010⟩ fun rest => ?_
    rotate_left
    · refine ⟨_, rfl, _, rfl, pa0, p0, (m : Int), rfl, ⟨h10p, tp0, by omega⟩, fun qa t2 H11 hqa s11 pw h11 => ?_⟩
      have lt2 : t2.length = p0.length := pw.1
      exact rest _ _ ⟨qa, t2, rfl, ⟨h11, pow_isT tp0 pw, by omega⟩, D10.ne hqa, D10.same s11, s010.trans s11⟩
    rintro σ' H11 ⟨pa, p, rfl, tp, npg, D11, s011⟩
    refine ⟨_, rfl, _, rfl, pa, p, m, rfl, tp, m1, fun H12 s12 => ⟨true, rfl, iteF ?_⟩⟩
    have D12 := D11.same s12
    refine ⟨_, rfl, _, rfl, g, pa, p, rfl, D12, npg, ⟨s12 _ _ tp.1, tp.2⟩, fun l xs H15 hl k15 D15 h9l lx bads => ?_⟩
    have s015 : Same H H15 := (s011.trans s12).kb k15 hg0
    have t9 : TurnAt H15 pa p := ⟨k15 _ _ (s12 _ _ tp.1) npg, tp.2⟩
    refine ⟨l, rfl, ⟨_, SqL.of h9l⟩, for_list (K := K) (a := l) (xs := xs) (fun j σ H10 => ∃ v6 v7 v8 : Option V, σ = [some (.ref sc), some (.int ((0 : Int) + (i : Int))), some (.ref g), some (.int (n : Int)), some (.int (m : Int)), some (.ref pa), v6, v7, v8] ∧ Same H15 H10)
      ⟨_, _, _, rfl, Same.refl H15⟩ (fun j σ H10 _ ⟨_, _, _, _, s⟩ => SqL.of (s _ _ h9l)) ?_ ?_⟩
    · rintro j v σ H10 hj ⟨v6, v7, v8, rfl, s10⟩
      obtain ⟨nt, d, hd⟩ := ((bads.keep (hole_same _ _ _)).keep s10) v (List.mem_of_getElem? hj)
      refine ⟨_, rfl, v, d, rfl, hd, ?_⟩
      refine ⟨_, rfl, _, rfl, (show 3 ≤ sizeLine by decide), fun t ht => ?_⟩
      obtain ⟨H11, e11⟩ : ∃ Hn, Hn = upd H10 t (.tup [V.int (m : Int), V.int 0, V.int (-1)]) := ⟨_, rfl⟩
      have s11 : Same H10 H11 := e11 ▸ Same.upd_new ht
      have h11t : H11 t = some (.tup (([(m : Int), 0, -1] : List Int).map V.int)) := by rw [e11, upd_same]; rfl
      rw [← e11]
      clear e11
      refine ⟨t, rfl, ⟨_, SqT.of h11t⟩, comp_tup (K := K) (a := t) (xs := ([(m : Int), 0, -1] : List Int).map V.int) (fun a ys σ H12 => ∃ v0 : Option V, σ = [v0, some v] ∧ ys = List.replicate a (V.str "NoTurn") ∧ Same H11 H12)
        ⟨none, rfl, rfl, Same.refl H11⟩ (fun a ys σ H12 _ ⟨_, _, _, s⟩ => SqT.of (s _ _ h11t)) ?_ ?_⟩
      · rintro a y ys σ H12 ha ⟨v0, rfl, rfl, s12⟩
        have al : a < 3 := (List.getElem?_eq_some_iff.mp ha).1
        obtain ⟨y, hy, rfl⟩ := getElem_int ha
        refine ⟨_, rfl, _, rfl, v, y, rfl, .inl ⟨nt.keep (s11.trans s12), fun H13 s13 => ?_⟩⟩
        exact ⟨small1000 (by rw [List.length_replicate]; omega), _, rfl, by rw [List.replicate_succ'], s12.trans s13⟩
      · rintro ys σ H12 ⟨v0, rfl, rfl, s12⟩ w hw
        obtain ⟨H13, e13⟩ : ∃ Hn, Hn = upd H12 w (.lst (List.replicate (([(m : Int), 0, -1] : List Int).map V.int).length (V.str "NoTurn"))) := ⟨_, rfl⟩
        have s13 : Same H12 H13 := e13 ▸ Same.upd_new hw
        have h13w : H13 w = some (.lst [.str "NoTurn", .str "NoTurn", .str "NoTurn"]) := by rw [e13, upd_same]; rfl
        rw [← e13]
        clear e13
        refine ⟨_, rfl, (show 1 ≤ sizeLine by decide), fun e1 he1 => ?_⟩
        refine ⟨e1, 3, _, rfl, rfl, upd_same, by decide, by decide, (show 3 ≤ sizeLine by decide), fun e2 he2 => ?_⟩
        have sw := (Same.upd_new (o := .lst [.str "NoTurn"]) he1).trans (Same.upd_new (o := .lst [.str "NoTurn", .str "NoTurn", .str "NoTurn"]) he2)
        refine ⟨w, e2, [.str "NoTurn", .str "NoTurn", .str "NoTurn"], [.str "NoTurn", .str "NoTurn", .str "NoTurn"], true, rfl, rfl, SqL.of (sw _ _ h13w), SqL.of upd_same, leq_self K _ _ _ rfl (by decide), _, rfl, ?_⟩
        have sa := ((s11.trans s12).trans s13).trans sw
        refine iteF ⟨_, rfl, v, d, rfl, hd.keep sa, _, rfl, rfl, _, rfl, ?_⟩
        exact iteNS rfl ⟨_, _, _, rfl, s10.trans sa⟩
    · rintro σ H10 ⟨v6, v7, v8, rfl, s10⟩
      have s010 := s015.trans s10
      refine ⟨_, rfl, _, rfl, _, rfl, _, rfl, sc, ns, _, rfl, s010.seq hsc, by omega, fun z2 => ?_⟩
      refine ⟨_, _, rfl, rfl, ⟨by decide, by decide, by decide⟩, _, _, rfl, rfl, (show (0 : Int) < 10 ^ (29 : Int).toNat by decide), _, _, rfl, rfl, (show 3 ≤ sizeLine by decide), fun t ht => ?_⟩
      have zb := Int.emod_nonneg z2 (show (10 ^ (29 : Int).toNat : Int) ≠ 0 by decide)
      obtain ⟨zz, hzz⟩ : ∃ x : Int, x = z2 % 10 ^ (29 : Int).toNat := ⟨_, rfl⟩
      rw [← hzz] at zb
      obtain ⟨H11, e11⟩ : ∃ Hn, Hn = upd H10 t (.tup [V.int 0, V.int (-1), V.int (-1 - z2 % 10 ^ (29 : Int).toNat)]) := ⟨_, rfl⟩
      have s11 : Same H10 H11 := e11 ▸ Same.upd_new ht
      have h11t : H11 t = some (.tup (([0, -1, -1 - zz] : List Int).map V.int)) := by rw [e11, upd_same, hzz]; rfl
      rw [← e11]
      clear e11 hzz
      refine ⟨t, rfl, ⟨_, SqT.of h11t⟩, for_tupT (K := K) (a := t) (xs := ([0, -1, -1 - zz] : List Int).map V.int) (fun j σ H12 => ∃ v6 : Option V, σ = [some (.ref sc), some (.int ((0 : Int) + (i : Int))), some (.ref g), some (.int (n : Int)), some (.int (m : Int)), some (.ref pa), v6, v7, v8] ∧ Same H11 H12)
        ⟨_, rfl, Same.refl H11⟩ (fun j σ H12 _ ⟨_, _, s⟩ => SqT.of (s _ _ h11t)) ?_ ?_⟩
      · rintro j v σ H12 hj ⟨v6, rfl, s12⟩
        obtain ⟨y, hy, rfl⟩ := getElem_int hj
        have y0 : y < 1 := by
          have := List.mem_of_getElem? hy
          simp only [List.mem_cons, List.not_mem_nil, or_false] at this
          omega
        have s912 := s10.trans (s11.trans s12)
        refine ⟨_, rfl, _, rfl, .ref pa, y, rfl, .inr (.inl ⟨pa, p, rfl, ⟨s912 _ _ t9.1, t9.2⟩, y0, fun H13 s13 => ⟨rfl, _, rfl, ?_⟩⟩)⟩
        exact iteNS rfl ⟨_, rfl, s12.trans s13⟩
      · rintro σ H12 ⟨v6, rfl, s12⟩
        exact ⟨_, _, _, _, _, _, _, _, rfl, s010.trans (s11.trans s12)⟩
end
end My
namespace My
open PySem L2 Mth
theorem all_mk {l : PySem.W.OpenLaw} {w : World} {K : PySem.W.Frag} {h : Heap} {mg : Str → Option Value} {fa f0 f1 f2 f3 f4 f5 f6 f7 f8 f9 f10 f11 f12 f13 f14 f15 f16 f17 f18 f19 f20 f21 f22 f23 f24 f25 f26 f27 f28 f29 f30 f31 : Addr} {q_TurnError q_NoTurn q_NoFit q_NoRounds q_NoNumber q_NoRoot q_TooMany q_NoKind q_NoText q_NoName q_NoRow : Addr} {tk0 : Tok} (X : K.In h) (G : h.Ns mainGlobals mg) (hfa : mg "law" = some (.ref fa))
    (u0 : Fu K "is_whole" s_is_whole f0)
    (u1 : Fu K "must_be_from_one" s_must_be_from_one f1)
    (u2 : Fu K "greatest_part" s_greatest_part f2)
    (u3 : Fu K "walk_ring" s_walk_ring f3)
    (u4 : Fu K "walk_rings" s_walk_rings f4)
    (u5 : Fu K "sort_by_length" s_sort_by_length f5)
    (u6 : Fu K "is_turn" s_is_turn f6)
    (u7 : Fu K "must_be_turn" s_must_be_turn f7)
    (u8 : Fu K "right_numbers" s_right_numbers f8)
    (u9 : Fu K "ways_to_follow" s_ways_to_follow f9)
    (u10 : Fu K "count_joins" s_count_joins f10)
    (u11 : Fu K "how_many_roots" s_how_many_roots f11)
    (u12 : Fu K "_law_cell_at" s_law_cell_at f12)
    (u13 : Fu K "_law_stir" s_law_stir f13)
    (u14 : Fu K "_law_deck" s_law_deck f14)
    (u15 : Fu K "_law_next" s_law_next f15)
    (u16 : Fu K "_law_turn" s_law_turn f16)
    (u17 : Fu K "_law_m" s_law_m f17)
    (u18 : Fu K "_law_rounds" s_law_rounds f18)
    (u19 : Fu K "_law_power" s_law_power f19)
    (u20 : Fu K "_law_counts" s_law_counts f20)
    (u21 : Fu K "_law_rights" s_law_rights f21)
    (u22 : Fu K "_law_woven" s_law_woven f22)
    (u23 : Fu K "_law_how_many" s_law_how_many f23)
    (u24 : Fu K "_law_every" s_law_every f24)
    (u25 : Fu K "_law_roots" s_law_roots f25)
    (u26 : Fu K "_law_word" s_law_word f26)
    (u27 : Fu K "_law_spoilt" s_law_spoilt f27)
    (u28 : Fu K "_law_bad_turns" s_law_bad_turns f28)
    (u29 : Fu K "_law_asked" s_law_asked f29)
    (u30 : Fu K "_law_right" s_law_right f30)
    (u31 : Fu K "law" s_law f31)
    (m0 : PySem.W.nsIn K mainGlobals "MOST_THINGS" = some (some (.int 40 tk0)))
    (zz : Fre K ["len", "isinstance", "int", "bool", "list", "range", "sum", "min", "max", "enumerate", "zip", "sorted", "tuple", "str", "repr", "all", "any", "set", "dict", "ValueError"])
    (uT : PySem.W.nsIn K mainGlobals "TurnError" = some (some (.ref q_TurnError)))
    (uTb : PySem.W.mroIn K q_TurnError (.type "BaseException") = some true)
    (uTc : PySem.W.isClsIn K q_TurnError = true)
    (uTt : PySem.W.typeIn K (.ref q_TurnError) = some (.type "type"))
    (uG : PySem.W.specialIn K (.builtin "object.__class__") "__get__" = some (some (.builtin "getset_descriptor.__get__")))
    (uK : PySem.W.takesIn K (.builtin "object.__class__") = some true)
    (uC : ClFs K q_TurnError [(("NoTurn" : Str), q_NoTurn), (("NoFit" : Str), q_NoFit), (("NoRounds" : Str), q_NoRounds), (("NoNumber" : Str), q_NoNumber), (("NoRoot" : Str), q_NoRoot), (("TooMany" : Str), q_TooMany), (("NoKind" : Str), q_NoKind), (("NoText" : Str), q_NoText), (("NoName" : Str), q_NoName), (("NoRow" : Str), q_NoRow)])
    (uP : PrsI K [(("NoTurn" : Str), q_NoTurn), (("NoFit" : Str), q_NoFit), (("NoRounds" : Str), q_NoRounds), (("NoNumber" : Str), q_NoNumber), (("NoRoot" : Str), q_NoRoot), (("TooMany" : Str), q_TooMany), (("NoKind" : Str), q_NoKind), (("NoText" : Str), q_NoText), (("NoName" : Str), q_NoName), (("NoRow" : Str), q_NoRow)] 0 [(("NoTurn" : Str), q_NoTurn), (("NoFit" : Str), q_NoFit), (("NoRounds" : Str), q_NoRounds), (("NoNumber" : Str), q_NoNumber), (("NoRoot" : Str), q_NoRoot), (("TooMany" : Str), q_TooMany), (("NoKind" : Str), q_NoKind), (("NoText" : Str), q_NoText), (("NoName" : Str), q_NoName), (("NoRow" : Str), q_NoRow)])
    : ∃ fd : FuncData, (∀ (s : Shared) (v : Value), BindsTo s fd ⟨[v], []⟩ [("script", v)]) ∧ ∀ base : Heap, K.In base → base.Ns mainGlobals mg → FnOk l.prog w K mg base CX0 7 fa fd ["script"] (spLaw K) := by
  obtain ⟨d0, a0, F0⟩ := u0
  obtain ⟨d1, a1, F1⟩ := u1
  obtain ⟨d2, a2, F2⟩ := u2
  obtain ⟨d3, a3, F3⟩ := u3
  obtain ⟨d4, a4, F4⟩ := u4
  obtain ⟨d5, a5, F5⟩ := u5
  obtain ⟨d6, a6, F6⟩ := u6
  obtain ⟨d7, a7, F7⟩ := u7
  obtain ⟨d8, a8, F8⟩ := u8
  obtain ⟨d9, a9, F9⟩ := u9
  obtain ⟨d10, a10, F10⟩ := u10
  obtain ⟨d11, a11, F11⟩ := u11
  obtain ⟨d12, a12, F12⟩ := u12
  obtain ⟨d13, a13, F13⟩ := u13
  obtain ⟨d14, a14, F14⟩ := u14
  obtain ⟨d15, a15, F15⟩ := u15
  obtain ⟨d16, a16, F16⟩ := u16
  obtain ⟨d17, a17, F17⟩ := u17
  obtain ⟨d18, a18, F18⟩ := u18
  obtain ⟨d19, a19, F19⟩ := u19
  obtain ⟨d20, a20, F20⟩ := u20
  obtain ⟨d21, a21, F21⟩ := u21
  obtain ⟨d22, a22, F22⟩ := u22
  obtain ⟨d23, a23, F23⟩ := u23
  obtain ⟨d24, a24, F24⟩ := u24
  obtain ⟨d25, a25, F25⟩ := u25
  obtain ⟨d26, a26, F26⟩ := u26
  obtain ⟨d27, a27, F27⟩ := u27
  obtain ⟨d28, a28, F28⟩ := u28
  obtain ⟨d29, a29, F29⟩ := u29
  obtain ⟨d30, a30, F30⟩ := u30
  obtain ⟨d31, a31, F31⟩ := u31
  have e := hfa.symm.trans (PySem.W.mg_of X G a31)
  cases e
  obtain ⟨z0, z1, z2, z3, z4, z5, z6, z7, z8, z9, z10, z11, z12, z13, z14, z15, z16, z17, z18, z19, _⟩ := zz
  have zn {y : Str} (z : PySem.W.nsIn K mainGlobals y = some none) := PySem.W.mg_none_of X G z
  have B : Bl mg := ⟨zn z0, zn z1, zn z2, zn z3, zn z4, zn z5, zn z6, zn z7, zn z8, zn z9, zn z10, zn z11, zn z12, zn z13, zn z14, zn z15, zn z16, zn z17, zn z18, zn z19⟩
  have mt : ∃ t, mg "MOST_THINGS" = some (.int 40 t) := ⟨_, PySem.W.mg_of X G m0⟩
  have ER : ErrAll K mg q_TurnError [(("NoTurn" : Str), q_NoTurn), (("NoFit" : Str), q_NoFit), (("NoRounds" : Str), q_NoRounds), (("NoNumber" : Str), q_NoNumber), (("NoRoot" : Str), q_NoRoot), (("TooMany" : Str), q_TooMany), (("NoKind" : Str), q_NoKind), (("NoText" : Str), q_NoText), (("NoName" : Str), q_NoName), (("NoRow" : Str), q_NoRow)] := errAll_mk X G uT uTb uTc uTt uG uK uC uP (show (["NoTurn", "NoFit", "NoRounds", "NoNumber", "NoRoot", "TooMany", "NoKind", "NoText", "NoName", "NoRow"] : List Str).Nodup by decide +kernel)
  have ES : ∀ p ∈ [(("NoTurn" : Str), q_NoTurn), (("NoFit" : Str), q_NoFit), (("NoRounds" : Str), q_NoRounds), (("NoNumber" : Str), q_NoNumber), (("NoRoot" : Str), q_NoRoot), (("TooMany" : Str), q_TooMany), (("NoKind" : Str), q_NoKind), (("NoText" : Str), q_NoText), (("NoName" : Str), q_NoName), (("NoRow" : Str), q_NoRow)], ErrS K p.2 := fun p hp => ⟨(uC.get p hp).s, (uC.get p hp).b⟩
  have e_NoTurn : Err K mg "NoTurn" q_NoTurn := ER.err ("NoTurn", q_NoTurn) (by simp)
  have e_NoFit : Err K mg "NoFit" q_NoFit := ER.err ("NoFit", q_NoFit) (by simp)
  have e_NoRounds : Err K mg "NoRounds" q_NoRounds := ER.err ("NoRounds", q_NoRounds) (by simp)
  have e_NoNumber : Err K mg "NoNumber" q_NoNumber := ER.err ("NoNumber", q_NoNumber) (by simp)
  have e_NoRoot : Err K mg "NoRoot" q_NoRoot := ER.err ("NoRoot", q_NoRoot) (by simp)
  have e_TooMany : Err K mg "TooMany" q_TooMany := ER.err ("TooMany", q_TooMany) (by simp)
  have e_NoKind : Err K mg "NoKind" q_NoKind := ER.err ("NoKind", q_NoKind) (by simp)
  have e_NoText : Err K mg "NoText" q_NoText := ER.err ("NoText", q_NoText) (by simp)
  have e_NoName : Err K mg "NoName" q_NoName := ER.err ("NoName", q_NoName) (by simp)
  have e_NoRow : Err K mg "NoRow" q_NoRow := ER.err ("NoRow", q_NoRow) (by simp)
  have b0 := F0.binds (ps := ["thing"]) fun _ _ _ _ _ _ us hl => match us, hl with | [_], _ => rfl
  have b1 := F1.binds (ps := ["number"]) fun _ _ _ _ _ _ us hl => match us, hl with | [_], _ => rfl
  have b2 := F2.binds (ps := ["a", "b"]) fun _ _ _ _ _ _ us hl => match us, hl with | [_, _], _ => rfl
  have b3 := F3.binds (ps := ["p", "first"]) fun _ _ _ _ _ _ us hl => match us, hl with | [_, _], _ => rfl
  have b4 := F4.binds (ps := ["p"]) fun _ _ _ _ _ _ us hl => match us, hl with | [_], _ => rfl
  have b5 := F5.binds (ps := ["rings"]) fun _ _ _ _ _ _ us hl => match us, hl with | [_], _ => rfl
  have b6 := F6.binds (ps := ["thing"]) fun _ _ _ _ _ _ us hl => match us, hl with | [_], _ => rfl
  have b7 := F7.binds (ps := ["thing"]) fun _ _ _ _ _ _ us hl => match us, hl with | [_], _ => rfl
  have b8 := F8.binds (ps := ["length", "m", "most"]) fun _ _ _ _ _ _ us hl => match us, hl with | [_, _, _], _ => rfl
  have b9 := F9.binds (ps := ["left", "part", "length"]) fun _ _ _ _ _ _ us hl => match us, hl with | [_, _, _], _ => rfl
  have b10 := F10.binds (ps := ["length", "many", "m"]) fun _ _ _ _ _ _ us hl => match us, hl with | [_, _, _], _ => rfl
  have b11 := F11.binds (ps := ["p", "m"]) fun _ _ _ _ _ _ us hl => match us, hl with | [_, _], _ => rfl
  have b12 := F12.binds (ps := ["script", "k"]) fun _ _ _ _ _ _ us hl => match us, hl with | [_, _], _ => rfl
  have b13 := F13.binds (ps := ["cell", "k"]) fun _ _ _ _ _ _ us hl => match us, hl with | [_, _], _ => rfl
  have b14 := F14.binds (ps := ["cell", "many"]) fun _ _ _ _ _ _ us hl => match us, hl with | [_, _], _ => rfl
  have b15 := F15.binds (ps := ["deck"]) fun _ _ _ _ _ _ us hl => match us, hl with | [_], _ => rfl
  have b16 := F16.binds (ps := ["deck", "many"]) fun _ _ _ _ _ _ us hl => match us, hl with | [_, _], _ => rfl
  have b17 := F17.binds (ps := ["deck"]) fun _ _ _ _ _ _ us hl => match us, hl with | [_], _ => rfl
  have b18 := F18.binds (ps := ["p"]) fun _ _ _ _ _ _ us hl => match us, hl with | [_], _ => rfl
  have b19 := F19.binds (ps := ["p", "m"]) fun _ _ _ _ _ _ us hl => match us, hl with | [_, _], _ => rfl
  have b20 := F20.binds (ps := ["p"]) fun _ _ _ _ _ _ us hl => match us, hl with | [_], _ => rfl
  have b21 := F21.binds (ps := ["l", "m", "most"]) fun _ _ _ _ _ _ us hl => match us, hl with | [_, _, _], _ => rfl
  have b22 := F22.binds (ps := ["l", "many", "rights"]) fun _ _ _ _ _ _ us hl => match us, hl with | [_, _, _], _ => rfl
  have b23 := F23.binds (ps := ["p", "m"]) fun _ _ _ _ _ _ us hl => match us, hl with | [_, _], _ => rfl
  have b24 := F24.binds (ps := ["many"]) fun _ _ _ _ _ _ us hl => match us, hl with | [_], _ => rfl
  have b25 := F25.binds (ps := ["p", "m"]) fun _ _ _ _ _ _ us hl => match us, hl with | [_, _], _ => rfl
  have b26 := F26.binds (ps := ["caught"]) fun _ _ _ _ _ _ us hl => match us, hl with | [_], _ => rfl
  have b27 := F27.binds (ps := ["deck", "p"]) fun _ _ _ _ _ _ us hl => match us, hl with | [_, _], _ => rfl
  have b28 := F28.binds (ps := ["deck", "p"]) fun _ _ _ _ _ _ us hl => match us, hl with | [_, _], _ => rfl
  have b29 := F29.binds (ps := ["p", "m"]) fun _ _ _ _ _ _ us hl => match us, hl with | [_, _], _ => rfl
  have b30 := F30.binds (ps := ["p", "m"]) fun _ _ _ _ _ _ us hl => match us, hl with | [_, _], _ => rfl
  obtain ⟨oc, od, kV, dc, pm, an, cd, ct, sl, rfl, lk, hcd⟩ := id F31.ex
  refine ⟨PySem.W.fnOf "law" "law" (defArgs s_law) (defBody s_law) (defScope s_law) .none kV dc pm an cd ct, fun s v => .of_eq rfl, fun base _ _ => ?_⟩
  have c_is_whole : Cal l.prog w K mg base "is_whole" 1 ["thing"] (spWhole K) := cal_mk X G a0 F0 b0 (ok_whole F0 B)
  have cx_must_be_from_one : CalX l.prog w K mg base "must_be_from_one" 2 ["number"] (fun vs H Q E => spOne vs H Q E ∨ (spOneX q_NoNumber) vs H Q E) := calx_mk X G a1 F1 b1 (FnOk.or (FnOk.lift (ok_one F1 c_is_whole)) (okx_must_be_from_one F1 c_is_whole e_NoNumber))
  have c_must_be_from_one : Cal l.prog w K mg base "must_be_from_one" 2 ["number"] spOne := cal_mk X G a1 F1 b1 (ok_one F1 c_is_whole)
  have c_greatest_part : Cal l.prog w K mg base "greatest_part" 1 ["a", "b"] spGcd := cal_mk X G a2 F2 b2 (ok_gcd F2)
  have c_walk_ring : Cal l.prog w K mg base "walk_ring" 1 ["p", "first"] spRing := cal_mk X G a3 F3 b3 (ok_ring F3)
  have c_walk_rings : Cal l.prog w K mg base "walk_rings" 2 ["p"] spRings := cal_mk X G a4 F4 b4 (ok_rings F4 B c_walk_ring)
  have c_sort_by_length : Cal l.prog w K mg base "sort_by_length" 1 ["rings"] spSortR := cal_mk X G a5 F5 b5 (ok_sortR F5 B)
  have c_is_turn : Cal l.prog w K mg base "is_turn" 2 ["thing"] (orSp spIsTurn (spTurnX K)) := cal_mk X G a6 F6 b6 (fn_or (ok_isTurn F6 B mt c_is_whole) (ok_is_turn F6 B mt c_is_whole))
  have cx_must_be_turn : CalX l.prog w K mg base "must_be_turn" 3 ["thing"] (fun vs H Q E => spMust vs H Q E ∨ (spMustX K q_NoTurn) vs H Q E) := calx_mk X G a7 F7 b7 (FnOk.or (FnOk.lift (ok_must F7 (cal_l c_is_turn))) (okx_must_be_turn F7 c_is_turn e_NoTurn))
  have c_must_be_turn : Cal l.prog w K mg base "must_be_turn" 3 ["thing"] spMust := cal_mk X G a7 F7 b7 (ok_must F7 (cal_l c_is_turn))
  have c_right_numbers : Cal l.prog w K mg base "right_numbers" 2 ["length", "m", "most"] spRights := cal_mk X G a8 F8 b8 (ok_right_numbers F8 B c_greatest_part)
  have c_ways_to_follow : Cal l.prog w K mg base "ways_to_follow" 1 ["left", "part", "length"] spFollow := cal_mk X G a9 F9 b9 (ok_ways_to_follow F9 B)
  have c_count_joins : Cal l.prog w K mg base "count_joins" 3 ["length", "many", "m"] spJoins := cal_mk X G a10 F10 b10 (ok_count_joins F10 B c_right_numbers c_ways_to_follow)
  have cx_how_many_roots : CalX l.prog w K mg base "how_many_roots" 4 ["p", "m"] (fun vs H Q E => spMany vs H Q E ∨ (spOneNX K q_NoTurn q_NoNumber) vs H Q E) := calx_mk X G a11 F11 b11 (FnOk.or (FnOk.lift (ok_how_many_roots F11 B c_must_be_turn c_must_be_from_one c_sort_by_length c_walk_rings c_count_joins)) (okx_how_many_roots F11 cx_must_be_turn cx_must_be_from_one))
  have c_how_many_roots : Cal l.prog w K mg base "how_many_roots" 4 ["p", "m"] spMany := cal_mk X G a11 F11 b11 (ok_how_many_roots F11 B c_must_be_turn c_must_be_from_one c_sort_by_length c_walk_rings c_count_joins)
  have c_law_cell_at : Cal l.prog w K mg base "_law_cell_at" 1 ["script", "k"] (spCell K) := cal_mk X G a12 F12 b12 (ok_cell F12 B)
  have c_law_stir : Cal l.prog w K mg base "_law_stir" 1 ["cell", "k"] spStir := cal_mk X G a13 F13 b13 (ok_stir F13)
  have c_law_deck : Cal l.prog w K mg base "_law_deck" 2 ["cell", "many"] spDeck := cal_mk X G a14 F14 b14 (ok_deck F14 B c_law_stir)
  have c_law_next : Cal l.prog w K mg base "_law_next" 1 ["deck"] spNext := cal_mk X G a15 F15 b15 (ok_next F15)
  have c_law_turn : Cal l.prog w K mg base "_law_turn" 2 ["deck", "many"] spTurnD := cal_mk X G a16 F16 b16 (ok_turnD F16 B c_law_next)
  have c_law_m : Cal l.prog w K mg base "_law_m" 2 ["deck"] spM := cal_mk X G a17 F17 b17 (ok_m F17 B c_law_next)
  have c_law_rounds : Cal l.prog w K mg base "_law_rounds" 1 ["p"] spRings := cal_mk X G a18 F18 b18 (ok_law_rounds F18 B)
  have c_law_power : Cal l.prog w K mg base "_law_power" 2 ["p", "m"] spPower := cal_mk X G a19 F19 b19 (ok_law_power F19 B c_law_rounds)
  have c_law_counts : Cal l.prog w K mg base "_law_counts" 2 ["p"] spCounts := cal_mk X G a20 F20 b20 (ok_law_counts F20 B c_law_rounds)
  have c_law_rights : Cal l.prog w K mg base "_law_rights" 1 ["l", "m", "most"] spRightsL := cal_mk X G a21 F21 b21 (ok_law_rights F21 B)
  have c_law_woven : Cal l.prog w K mg base "_law_woven" 1 ["l", "many", "rights"] spWoven := cal_mk X G a22 F22 b22 (ok_law_woven F22 B)
  have c_law_how_many : Cal l.prog w K mg base "_law_how_many" 3 ["p", "m"] spMany := cal_mk X G a23 F23 b23 (ok_law_how_many F23 c_law_counts c_law_woven c_law_rights)
  have c_law_every : Cal l.prog w K mg base "_law_every" 1 ["many"] spEvery := cal_mk X G a24 F24 b24 (ok_law_every F24 B)
  have c_law_roots : Cal l.prog w K mg base "_law_roots" 3 ["p", "m"] spRootsL := cal_mk X G a25 F25 b25 (ok_law_roots F25 B c_law_every c_law_power)
  have c_law_word : Cal l.prog w K mg base "_law_word" 1 ["caught"] (spWord q_NoTurn q_NoFit q_NoRounds q_NoNumber q_NoRoot q_TooMany q_NoKind q_NoText q_NoName q_NoRow) := cal_mk X G a26 F26 b26 (ok_law_word F26 B ER)
  have c_law_spoilt : Cal l.prog w K mg base "_law_spoilt" 2 ["deck", "p"] (spSpoilt K 40) := cal_mk X G a27 F27 b27 (ok_law_spoilt F27 B c_law_next)
  have c_law_bad_turns : Cal l.prog w K mg base "_law_bad_turns" 3 ["deck", "p"] (spSpoilt K 100) := cal_mk X G a28 F28 b28 (ok_law_bad_turns F28 B c_law_spoilt)
  have c_law_asked : Cal l.prog w K mg base "_law_asked" 5 ["p", "m"] (spAsked18 K) := cal_mk X G a29 F29 b29 (ok_law_asked F29 cx_how_many_roots c_law_word ER)
  have c_law_right : Cal l.prog w K mg base "_law_right" 6 ["p", "m"] (spRight18 K) := cal_mk X G a30 F30 b30 (ok_law_right F30 B c_law_asked c_law_how_many c_law_roots)
  exact ok_law F31 B c_law_deck c_law_cell_at c_law_next c_law_m c_law_turn c_law_power c_law_right c_law_bad_turns c_law_asked
theorem walk {l : PySem.W.OpenLaw} {q : Program} {loose : List Str} {XP : (Str → Option Value) → Heap → Prop} {YP : World → Heap → Prop} {d : DefRec} {K : Params → PySem.W.Frag} (hn : l.most = some 63) (hdf : d.params.defaults = [])
    (hY : ∀ (w : World) (h : Heap), YP w h → (K w.params).In h)
    (F : ∀ (w : World) (mg : Str → Option Value) (fa : Addr) (h : Heap), (K w.params).In h → h.Ns mainGlobals mg → mg d.name = some (.ref fa) →
      ∃ fd : FuncData, (∀ (s : Shared) (u : Value), BindsTo s fd ⟨[u], []⟩ [("script", u)]) ∧ ∀ base : Heap, (K w.params).In base → base.Ns mainGlobals mg → FnOk l.prog w (K w.params) mg base CX0 7 fa fd ["script"] (spLaw (K w.params))) :
    PySem.W.WalkO q loose XP YP l.row.toRowW d [] (fun f vs => PySem.call f vs) :=
  L2.walk_of (n := 63) (k := 7) (x := "script") (CX := fun _ => CX0) (sp := fun w => spLaw (K w.params)) hn (by decide) hdf ⟨rfl, by decide, by decide, rfl⟩ hY F (fun _ _ a ns hl _ hS => ⟨a, ns, rfl, hS, hl, fun _ => rfl⟩) fun _ _ _ _ _ z => z
end My
abbrev PySem.W.Fast.tw90343872475197607 : Type := PySem.Params
theorem PySem.W.Fast.te90343872475197607 : PySem.Params = PySem.W.Fast.tw90343872475197607 := rfl
open PySem PySem.W PyProof.Rows L2
set_option maxRecDepth 100000 in
set_option maxHeartbeats 0 in
theorem PySem.Challenge.cw_turnroots_k18_roots_counted_holds : PySem.Challenge.rw_turnroots_k18_roots_counted.Holds := by
  w_on; o_law; k_head; (case hw => w_witness2)
  k_fill
  refine My.walk (l := PySem.Challenge.rw_turnroots_k18_roots_counted) rfl rfl (fun w h Y => PySem.W.kIn_of Y) ?F
  case F =>
    intro w mg fa h KX G hmg
    refine' My.all_mk KX G hmg ?_ ?_ ?_ ?_ ?_ ?_ ?_ ?_ ?_ ?_ ?_ ?_ ?_ ?_ ?_ ?_ ?_ ?_ ?_ ?_ ?_ ?_ ?_ ?_ ?_ ?_ ?_ ?_ ?_ ?_ ?_ ?_ ?_ ?_ ?_ ?_ ?_ ?_ ?_ ?_ ?_ ?_
    all_goals first
      | k_is
      | (refine' fu_mk ?a ?l ?c ?k; (case a => k_is); (case l => k_is); (case c => k_is); (case k => k_is))
      | ((repeat (refine' And.intro (ClF.mk ?n ?e ?g ?h ?c ?b ?o ?i ?t ?u ?v ?s) ?_; (case n => k_is); (case e => k_exc); (case g => k_is); (case h => k_is); (case c => k_is); (case b => k_is); (case o => k_is); (case i => k_is); (case t => k_is); (case u => k_is); (case v => k_is); (case s => k_is))); exact trivial)
      | ((repeat (refine' And.intro ?n ?_; (case n => k_is))); exact trivial)
      | ((repeat (refine' And.intro ?zp ?_; (case zp => ((repeat (refine' And.intro ?n ?_; (case n => k_is))); exact trivial)))); exact trivial)
      | skip
#print axioms PySem.Challenge.cw_turnroots_k18_roots_counted_holds