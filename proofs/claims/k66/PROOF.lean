import PyProof.Rows.All
import Wide.All
import OpenK.AllK
import Wide.FinOn
import Lean
import PyProof.EqAt
import PyProof.EqKinds
import PyProof.TupleCall
import PyProof.ZipIter
import PyProof.ConsumeS
import PyProof.StrCalls2
import PyProof.StrWalks
import PyProof.SliceStr2
import PyProof.StrBlock
import PyProof.StrBlockL
import PyProof.ListIndex
import PyProof.StrLawsTight
import PyProof.StrLawsChain
import PyProof.StrLaws
import PyProof.StrLawsFirst
import PyProof.StationsW
import PyProof.ExcClass3
import PyProof.NsDelKeeps
import PyProof.RulesAs
import PyProof.ExcBaseAll.ValueError
import PyProof.ExcArgsOwn
import PyProof.ExcAttrAll.ValueError
import KE.KTryMore
import KE.RegKTryMore
import KE.RegKIsAll
import PyProof.Rows.Range3
import PyProof.Rows.SumGenD
import PyProof.Rows.RuleM_int
import PyProof.EnumMake
import PyProof.EnumFor
import PyProof.EnumStmt
import PyProof.Rows.EnumRows
import KE.KRevIter
import PyProof.ListNew
import PyProof.CollectIter
import PyProof.ListRange
import PyProof.CallStr
import PyProof.StrBlock2
import PyProof.Rows.StrMadeLen
import PyProof.Rows.SetFrom
import PyProof.SetRoads
import PyProof.MeetsStr2
import KE.KRevSl
import PyProof.Conv_int
import PySem.Challenge.RW_cluemaker_k66_fillings_moved
set_option Elab.async false
set_option linter.all false
set_option maxRecDepth 100000
namespace L2
open PySem PySem.Spec PyProof.Rows
abbrev Key := Sum Int Str
def keyIs : Key → Value → Bool
  | .inl k, v => Value.isInt k v
  | .inr x, v => Value.isStrOf x v
def keyH (w : World) : Key → Int
  | .inl k => hashInt k
  | .inr x => hashStr w x
theorem keyIs_shape : ∀ {k : Key} {v : Value}, keyIs k v = true → (∃ i t, k = Sum.inl i ∧ v = Value.int i t) ∨ (∃ x t, k = Sum.inr x ∧ v = Value.str x t)
  | .inl i, v, h => by
    obtain ⟨t, e⟩ := Value.isInt_shape (k := i) (v := v) h
    exact .inl ⟨i, t, rfl, e⟩
  | .inr x, v, h => by
    obtain ⟨t, e⟩ := Value.isStrOf_shape (x := x) (v := v) h
    exact .inr ⟨x, t, rfl, e⟩
theorem keyIs_int (i : Int) (t : Tok) : keyIs (.inl i) (.int i t) = true := by simp [keyIs, Value.isInt]
theorem keyIs_str (x : Str) (t : Tok) : keyIs (.inr x) (.str x t) = true := by simp [keyIs, Value.isStrOf]
theorem key_ll (a b : Int) : decide ((Sum.inl a : Key) = Sum.inl b) = (a == b) := by
  by_cases e : a = b
  · subst e; simp
  · have h : ¬ (Sum.inl a : Key) = Sum.inl b := fun q => e (Sum.inl.inj q)
    rw [decide_eq_false h]
    exact (beq_eq_false_iff_ne.mpr e).symm
theorem key_rr (a b : Str) : decide ((Sum.inr a : Key) = Sum.inr b) = decide (a = b) := by
  by_cases e : a = b
  · subst e; simp
  · have h : ¬ (Sum.inr a : Key) = Sum.inr b := fun q => e (Sum.inr.inj q)
    rw [decide_eq_false h, decide_eq_false e]
theorem key_lr (a : Int) (b : Str) : decide ((Sum.inl a : Key) = Sum.inr b) = false := decide_eq_false (fun q => nomatch q)
theorem key_rl (a : Str) (b : Int) : decide ((Sum.inr a : Key) = Sum.inl b) = false := decide_eq_false (fun q => nomatch q)
def mixKind (prog : Program) (w : World) : PySem.KeyKind prog w Key where
  is := keyIs
  hash := keyH w
  inj := fun v a b ha hb => by
    rcases keyIs_shape ha with ⟨i, t, rfl, rfl⟩ | ⟨x, t, rfl, rfl⟩
    · rcases keyIs_shape hb with ⟨j, u, rfl, e⟩ | ⟨y, u, rfl, e⟩
      · injection e with e1 _; rw [e1]
      · exact nomatch e
    · rcases keyIs_shape hb with ⟨j, u, rfl, e⟩ | ⟨y, u, rfl, e⟩
      · exact nomatch e
      · injection e with e1 _; rw [e1]
  byValue := fun k v h => by
    rcases keyIs_shape h with ⟨i, t, rfl, rfl⟩ | ⟨x, t, rfl, rfl⟩ <;> rfl
  pyHash := fun hv h => by
    rcases keyIs_shape hv with ⟨i, t, rfl, rfl⟩ | ⟨x, t, rfl, rfl⟩
    · exact wpAny_pyHash_int h
    · exact wpAny_pyHash_str h
  eqBool := fun hu hv h => by
    rcases keyIs_shape hu with ⟨i, t, rfl, rfl⟩ | ⟨x, t, rfl, rfl⟩
    · rcases keyIs_shape hv with ⟨j, u, rfl, rfl⟩ | ⟨y, u, rfl, rfl⟩
      · rw [key_ll] at h; exact wpAny_eqBool_int h
      · rw [key_lr] at h; exact SeqAt.EqAt.int_str i t y u _ _ _ _ h
    · rcases keyIs_shape hv with ⟨j, u, rfl, rfl⟩ | ⟨y, u, rfl, rfl⟩
      · rw [key_rl] at h; exact SeqAt.EqAt.str_int x t j u _ _ _ _ h
      · rw [key_rr] at h; exact wpAny_eqBool_str h
  «strs» := fun k x t v h => by
    rcases keyIs_shape h with ⟨i, u, rfl, e⟩ | ⟨y, u, rfl, e⟩
    · exact nomatch e
    · injection e with e1 _
      subst e1
      cases v <;> rfl
theorem mixKind_int (prog : Program) (w : World) (i : Int) (t : Tok) : (mixKind prog w).is (.inl i) (.int i t) = true := keyIs_int i t
theorem mixKind_str (prog : Program) (w : World) (x : Str) (t : Tok) : (mixKind prog w).is (.inr x) (.str x t) = true := keyIs_str x t
end L2
namespace L2
open PySem PySem.Spec PyProof.Rows
inductive V where
  | non | bl (b : Bool) | int (i : Int) | str (x : Str) | byt (b : Array UInt8) | flt (b : UInt64) | ref (a : Addr) | ty (n : String)
  deriving DecidableEq
def RelV : V → Value → Prop
  | .non, u => u = Value.none
  | .bl b, u => u = Value.bool b
  | .int i, u => ∃ t, u = Value.int i t
  | .str x, u => ∃ t, u = Value.str x t
  | .byt b, u => ∃ t, u = Value.bytes b t
  | .flt b, u => ∃ t, u = Value.float b t
  | .ref a, u => u = Value.ref a
  | .ty n, u => u = Value.type n
abbrev Vals : List V → List Value → Prop := Paired RelV
theorem Vals.length {xs : List V} {us : List Value} (r : Vals xs us) : xs.length = us.length := Paired.length r
theorem Vals.get : ∀ {xs : List V} {us : List Value} {i : Nat} {x : V}, Vals xs us → xs[i]? = some x → ∃ u, us[i]? = some u ∧ RelV x u
  | _, _, _, _, .nil, e => by simp at e
  | _, _, 0, _, .cons r _, e => by simp at e; subst e; exact ⟨_, rfl, r⟩
  | _, _, i + 1, x, .cons _ t, e => by
    obtain ⟨u, h1, h2⟩ := Vals.get (i := i) (x := x) t (by simpa using e)
    exact ⟨u, by simpa using h1, h2⟩
theorem Vals.append : ∀ {xs ys : List V} {us ws : List Value}, Vals xs us → Vals ys ws → Vals (xs ++ ys) (us ++ ws)
  | _, _, _, _, .nil, s => s
  | _, _, _, _, .cons r t, s => .cons r (Vals.append t s)
theorem Vals.take : ∀ {xs : List V} {us : List Value} (n : Nat), Vals xs us → Vals (xs.take n) (us.take n)
  | _, _, 0, _ => .nil
  | _, _, _ + 1, .nil => .nil
  | _, _, n + 1, .cons r t => .cons r (Vals.take n t)
theorem Vals.drop : ∀ {xs : List V} {us : List Value} (n : Nat), Vals xs us → Vals (xs.drop n) (us.drop n)
  | _, _, 0, r => r
  | _, _, _ + 1, .nil => .nil
  | _, _, n + 1, .cons _ t => Vals.drop n t
def RelO : Option V → Option Value → Prop
  | some v, some u => RelV v u
  | none, none => True
  | _, _ => False
def KV {κ : Type} : List (κ × V) → List (κ × Value) → Prop := Paired fun (p : κ × V) (q : κ × Value) => p.1 = q.1 ∧ RelV p.2 q.2
def kV : Key → V
  | .inl i => .int i
  | .inr x => .str x
inductive HO where
    | lst (xs : List V)
    | tup (xs : List V)
    | dK (kvs : List (Key × V)) | dT (kvs : List (List Key × V))
    | set (S : Int → Bool) (n : Nat)
    | ins (C dx : Addr) (fs : List (Str × V))
    | own (x : Addr)
    | xd (fs : List (Str × V))
    | met (f x : Addr)
    | rng (lo hi : Int)
    | frz (o : Obj) (u : HO)
    | tbl (ps : Array Value)
    | ext (φ : Heap → Prop)
abbrev Hp := Addr → Option HO
def upd (H : Hp) (a : Addr) (o : HO) : Hp := fun b => if b = a then some o else H b
theorem upd_same {H : Hp} {a : Addr} {o : HO} : upd H a o a = some o := by unfold upd; rw [if_pos rfl]
theorem upd_ne {H : Hp} {a b : Addr} {o : HO} (h : b ≠ a) : upd H a o b = H b := by unfold upd; rw [if_neg h]
theorem ne_of {H : Hp} {a b : Addr} {o u : HO} (h : H a = some o) (h' : H b = some u) (d : o ≠ u) : a ≠ b := by
  intro e; subst e; rw [h] at h'; exact d (Option.some.inj h')
theorem ne_of_none {H : Hp} {a b : Addr} {o : HO} (h : H a = some o) (h' : H b = none) : a ≠ b := by
  intro e; subst e; rw [h] at h'; cases h'
section
variable (P : Program) (w : World)
def ObjOk (H : Hp) (h : Heap) (a : Addr) : HO → Prop
  | .lst xs => xs.length ≤ sizeLine ∧ ∃ (its : List Value) (n : Nat), Vals xs its ∧ h.get? a = some { cls := .type "list", data := .seq its.toArray n }
  | .tup xs => xs.length ≤ sizeLine ∧ ∃ its : List Value, Vals xs its ∧ IsTup h a its.toArray
  | .dK kvs => kvs.length ≤ sizeLine ∧ (a == sysModules) = false ∧ ∃ vs, KV kvs vs ∧ h.DictOf (mixKind P w) a vs
  | .dT kvs => kvs.length ≤ sizeLine ∧ (a == sysModules) = false ∧ ∃ xs : List (List Key × Addr × Value),
      Paired (fun (p : List Key × V) (q : List Key × Addr × Value) => p.1 = q.1 ∧ H q.2.1 = some (.tup (p.1.map kV)) ∧ RelV p.2 q.2.2) kvs xs ∧
      ∃ o es ep, h.get? a = some o ∧ o.ExactDict ∧ o.data = .dict es ep ∧ es.toList = xs.map (entryOfKey (tupleKind (mixKind P w))) ∧ (xs.map (·.1)).Nodup
  | .set S n => h.SetOf (intKind P w) a S n
  | .ins C dx fs => H dx = some (.own a) ∧ fs.length ≤ 1000 ∧ dx ≠ a ∧ h.get? a = some (PySem.W.instObj C dx) ∧
      ∃ mA, h.Ns1 dx mA ∧ (∀ f, RelO (fs.lookup f) (mA f)) ∧ PySem.Within mA (fs.map (·.1))
  | .own _ => ∃ o, h.get? a = some o
  | .xd fs => ∃ mA, h.Ns1 a mA ∧ ∀ f, RelO (fs.lookup f) (mA f)
  | .rng lo hi => ∃ t u v, h.get? a = some { cls := .type "range", data := .fields #[.int lo t, .int hi u, .int 1 v] }
  | .frz o u => h.get? a = some o ∧ ObjOk H h a u
  | .tbl ps => h.get? a = some { cls := .none, data := .fields ps }
  | .met f x => h.get? a = some (PySem.W.methodObj (.ref f) (.ref x))
  | .ext φ => φ h ∧ (∃ o, h.get? a = some o) ∧ ∀ h1 h2 : Heap, φ h1 → (∀ o, h1.get? a = some o → h2.get? a = some o) → φ h2
def HOk (H : Hp) (h : Heap) : Prop := ∀ a o, H a = some o → ObjOk P w H h a o
end
section
variable {P : Program} {w : World} {H H' : Hp} {h h' : Heap} {a : Addr} {o : HO}
theorem ObjOk.lt (x : ObjOk P w H h a o) : a < h.objs.size := by
  cases o with
  | lst xs => obtain ⟨_, _, _, _, e⟩ := x; exact Heap.lt_size e
  | tup xs => obtain ⟨_, _, _, p⟩ := x; exact p.lt
  | dK kvs => obtain ⟨_, _, _, _, o, _, _, e, _⟩ := x; exact Heap.lt_size e
  | dT kvs => obtain ⟨_, _, _, _, o, _, _, e, _⟩ := x; exact Heap.lt_size e
  | set S n => obtain ⟨o, _, _, _, e, _⟩ := x; exact Heap.lt_size e
  | ins C dx fs => obtain ⟨_, _, _, e, _⟩ := x; exact Heap.lt_size e
  | own y => obtain ⟨_, e⟩ := x; exact Heap.lt_size e
  | xd fs => obtain ⟨_, ⟨_, _, _, e, _⟩, _⟩ := x; exact Heap.lt_size e
  | rng lo hi => obtain ⟨_, _, _, e⟩ := x; exact Heap.lt_size e
  | frz ob u => obtain ⟨e, _⟩ := x; exact Heap.lt_size e
  | tbl ps => exact Heap.lt_size (show h.get? a = some _ from x)
  | met f y => exact Heap.lt_size (show h.get? a = some _ from x)
  | ext φ => obtain ⟨_, ⟨_, e⟩, _⟩ := x; exact Heap.lt_size e
theorem Paired.mapP {α β : Type} {F G : α → β → Prop} : ∀ {l₁ : List α} {l₂ : List β}, Paired F l₁ l₂ → (∀ a b, F a b → G a b) → Paired G l₁ l₂
  | _, _, .nil, _ => .nil
  | _, _, .cons r t, f => .cons (f _ _ r) (Paired.mapP t f)
theorem ObjOk.stay (x : ObjOk P w H h a o) (k : ∀ b u, (b = a ∨ H b = some (.own a)) → h.get? b = some u → h'.get? b = some u)
    (ho : ∀ b, H b = some (.own a) → H' b = some (.own a)) (ht : ∀ b xs, H b = some (.tup xs) → H' b = some (.tup xs)) : ObjOk P w H' h' a o := by
  induction o with
  | lst xs => obtain ⟨z, its, n, r, e⟩ := x; exact ⟨z, its, n, r, k _ _ (.inl rfl) e⟩
  | tup xs => obtain ⟨z, its, r, ob, e, c⟩ := x; exact ⟨z, its, r, ob, k _ _ (.inl rfl) e, c⟩
  | dK kvs => obtain ⟨z, y, vs, r, ob, es, ep, e, c⟩ := x; exact ⟨z, y, vs, r, ob, es, ep, k _ _ (.inl rfl) e, c⟩
  | dT kvs =>
    obtain ⟨z, y, xs, r, ob, es, ep, e, c⟩ := x
    exact ⟨z, y, xs, Paired.mapP r fun p q z => ⟨z.1, ht _ _ z.2.1, z.2.2⟩, ob, es, ep, k _ _ (.inl rfl) e, c⟩
  | set S n => obtain ⟨ob, es, ep, t, e, c⟩ := x; exact ⟨ob, es, ep, t, k _ _ (.inl rfl) e, c⟩
  | ins C dx fs =>
    obtain ⟨d, z, ne, e, mA, ⟨od, es, ep, e2, c⟩, r⟩ := x
    exact ⟨ho _ d, z, ne, k _ _ (.inl rfl) e, mA, ⟨od, es, ep, k _ _ (.inr d) e2, c⟩, r⟩
  | own y => obtain ⟨ob, e⟩ := x; exact ⟨ob, k _ _ (.inl rfl) e⟩
  | xd fs => obtain ⟨mA, ⟨od, es, ep, e, c⟩, r⟩ := x; exact ⟨mA, ⟨od, es, ep, k _ _ (.inl rfl) e, c⟩, r⟩
  | rng lo hi => obtain ⟨t, u, v, e⟩ := x; exact ⟨t, u, v, k _ _ (.inl rfl) e⟩
  | frz ob u ih => obtain ⟨e, q⟩ := x; exact ⟨k _ _ (.inl rfl) e, ih q⟩
  | tbl ps =>
    have e : h.get? a = some { cls := .none, data := .fields ps } := x
    show h'.get? a = some { cls := .none, data := .fields ps }
    exact k a _ (.inl rfl) e
  | met f y =>
    have e : h.get? a = some (PySem.W.methodObj (.ref f) (.ref y)) := x
    show h'.get? a = some (PySem.W.methodObj (.ref f) (.ref y))
    exact k a _ (.inl rfl) e
  | ext φ => obtain ⟨p, ⟨o, e⟩, st⟩ := x; exact ⟨st _ _ p fun o q => k _ _ (.inl rfl) q, ⟨o, k _ _ (.inl rfl) e⟩, st⟩
theorem HOk.lt (x : HOk P w H h) (e : H a = some o) : a < h.objs.size := (x a o e).lt
theorem HOk.fresh (x : HOk P w H h) (e : h.objs.size ≤ a) : H a = none := by
  cases q : H a with
  | none => rfl
  | some u => exact absurd (Nat.lt_of_lt_of_le (x.lt q) e) (Nat.lt_irrefl _)
theorem HOk.kept (x : HOk P w H h) (k : ∀ b u, h.get? b = some u → h'.get? b = some u) : HOk P w H h' := fun a o e =>
  (x a o e).stay (fun b u _ q => k b u q) (fun _ q => q) fun _ _ q => q
theorem HOk.laid (x : HOk P w H h) (k : ∀ b u, h.get? b = some u → h'.get? b = some u) (hp : h.objs.size ≤ a) (new : ObjOk P w (upd H a o) h' a o) : HOk P w (upd H a o) h' := fun b u e => by
  have hn := x.fresh hp
  by_cases hb : b = a
  · subst hb; rw [upd_same] at e; cases e; exact new
  · rw [upd_ne hb] at e
    exact (x b u e).stay (fun c v _ q => k c v q) (fun c q => by rw [upd_ne (ne_of_none q hn)]; exact q) fun c xs q => by rw [upd_ne (ne_of_none q hn)]; exact q
end
def Rd (H : Hp) (a : Addr) (u : HO) : Prop := H a = some u ∨ ∃ o, H a = some (.frz o u)
theorem Rd.ok {P : Program} {w : World} {H : Hp} {h : Heap} {a : Addr} {u : HO} (r : Rd H a u) (x : HOk P w H h) : ObjOk P w H h a u := by
  rcases r with r | ⟨o, r⟩
  · exact x a u r
  · obtain ⟨_, q⟩ := x a _ r
    exact q
def Mut : Option HO → Prop
  | some (.lst _) => True
  | some (.dK _) => True
  | some (.dT _) => True
  | some (.set _ _) => True
  | some (.ins _ _ _) => True
  | some (.ext _) => True
  | _ => False
section
variable {P : Program} {w : World} {H : Hp} {h h' : Heap} {x e : Addr} {o' : HO}
theorem HOk.write (ok : HOk P w H h) (mu : Mut (H x)) (he : e = x ∨ H e = some (.own x)) (k : ∀ b u, b ≠ e → h.get? b = some u → h'.get? b = some u) (heo : ∃ u, h'.get? e = some u)
    (new : ObjOk P w (upd H x o') h' x o') : HOk P w (upd H x o') h' := fun b u q => by
  have nown : ∀ c y, H c = some (.own y) → c ≠ x := fun c y r z => by subst z; rw [r] at mu; exact mu
  have ntup : ∀ c xs, H c = some (.tup xs) → c ≠ x := fun c xs r z => by subst z; rw [r] at mu; exact mu
  by_cases hb : b = x
  · subst hb; rw [upd_same] at q; cases q; exact new
  · rw [upd_ne hb] at q
    by_cases hbe : b = e
    · have q' : H b = some (.own x) := by
        rcases he with z | z
        · exact absurd (hbe.trans z) hb
        · rw [hbe]; exact z
      rw [q] at q'; cases q'
      obtain ⟨v, hv⟩ := heo
      exact ⟨v, by rw [hbe]; exact hv⟩
    · refine (ok b u q).stay (fun c v hc r => k c v ?_ r) (fun c r => by rw [upd_ne (nown c b r)]; exact r) fun c xs r => by rw [upd_ne (ntup c xs r)]; exact r
      rcases hc with rfl | hc
      · exact hbe
      · rintro rfl
        rcases he with z | z
        · exact nown c b hc z
        · rw [hc] at z; cases z; exact hb rfl
end
structure Un (fs ex : List Addr) (H H' : Hp) (h h' : Heap) : Prop where
  keep : ∀ b o, h.get? b = some o → H b = none → b ∉ fs → b ∉ ex → h'.get? b = some o
  slot : ∀ b o, h.get? b = some o → H b = none → b ∈ fs → b ∉ ex → ∃ sl, h'.get? b = some { o with slots := sl }
  free : ∀ b o, h.get? b = some o → H b = none → b ∉ ex → H' b = none
  there : ∀ b o, h.get? b = some o → b ∉ ex → ∃ o', h'.get? b = some o'
  tups : ∀ b xs, H b = some (.tup xs) → H' b = some (.tup xs)
  frzs : ∀ b o u, H b = some (.frz o u) → H' b = some (.frz o u)
  tbls : ∀ b ps, H b = some (.tbl ps) → ∃ more, H' b = some (.tbl (ps ++ more))
section
variable {fs fs' ex ex' : List Addr} {H H1 H2 : Hp} {h h1 h2 h' : Heap} {a x e : Addr} {o : HO}
theorem Un.any (u : Un fs ex H H1 h h1) {b : Addr} {ob : Obj} (q : h.get? b = some ob) (n : H b = none) (hx : b ∉ ex) : ∃ sl, h1.get? b = some { ob with slots := sl } := by
  by_cases hb : b ∈ fs
  · exact u.slot b ob q n hb hx
  · exact ⟨ob.slots, u.keep b ob q n hb hx⟩
theorem Un.kept (k : ∀ b u, h.get? b = some u → h'.get? b = some u) : Un fs ex H H h h' :=
  ⟨fun b ob q _ _ _ => k b ob q, fun b ob q _ _ _ => ⟨ob.slots, k b ob q⟩, fun _ _ _ n _ => n, fun b ob q _ => ⟨ob, k b ob q⟩, fun _ _ q => q, fun _ _ _ q => q, fun _ ps q => ⟨#[], by rw [q]; simp⟩⟩
theorem Un.refl : Un fs ex H H h h := Un.kept fun _ _ q => q
theorem Un.laid (k : ∀ b u, h.get? b = some u → h'.get? b = some u) (hp : h.objs.size ≤ a) (hn : H a = none) : Un fs ex H (upd H a o) h h' where
  keep := fun b u q _ _ _ => k b u q
  slot := fun b u q _ _ _ => ⟨u.slots, k b u q⟩
  free := fun b u q n _ => by rw [upd_ne (Nat.ne_of_lt (Nat.lt_of_lt_of_le (Heap.lt_size q) hp))]; exact n
  there := fun b u q _ => ⟨u, k b u q⟩
  tups := fun b xs q => by rw [upd_ne (ne_of_none q hn)]; exact q
  frzs := fun b u xs q => by rw [upd_ne (ne_of_none q hn)]; exact q
  tbls := fun b ps q => ⟨#[], by rw [upd_ne (ne_of_none q hn), q]; simp⟩
theorem Un.write (mu : Mut (H x)) (he : e = x ∨ H e = some (.own x)) (k : ∀ b u, b ≠ e → h.get? b = some u → h'.get? b = some u) (heo : ∃ u, h'.get? e = some u) : Un fs ex H (upd H x o) h h' := by
  have hx : ∀ b, H b = none → b ≠ x := fun b n z => by subst z; rw [n] at mu; exact mu
  have hb : ∀ b, H b = none → b ≠ e := fun b n z => by
    subst z
    rcases he with r | r
    · exact hx b n r
    · rw [n] at r; cases r
  have hm : ∀ b u, H b = some u → ¬ Mut (some u) → b ≠ x := fun b u q nm z => by subst z; rw [q] at mu; exact nm mu
  refine ⟨fun b u q n _ _ => k b u (hb b n) q, fun b u q n _ _ => ⟨u.slots, k b u (hb b n) q⟩, fun b u q n _ => by rw [upd_ne (hx b n)]; exact n, fun b u q _ => ?_,
    fun b xs q => by rw [upd_ne (hm b _ q fun z => z)]; exact q, fun b u xs q => by rw [upd_ne (hm b _ q fun z => z)]; exact q, fun b ps q => ⟨#[], by rw [upd_ne (hm b _ q fun z => z), q]; simp⟩⟩
  by_cases hbe : b = e
  · subst hbe; exact heo
  · exact ⟨u, k b u hbe q⟩
end
def trk (h : Heap) (H : Hp) : List Addr := (List.range h.objs.size).filter fun a => (H a).isSome
def hidT (h : Heap) (H : Hp) : Heap := PySem.W.hideAll h (trk h H)
theorem hidT_size (h : Heap) (H : Hp) : (hidT h H).objs.size = h.objs.size := PySem.W.hideAll_size _ _
theorem hidT_get {h : Heap} {H : Hp} {b : Addr} {o : Obj} (e : h.get? b = some o) (n : H b = none) : (hidT h H).get? b = some o :=
  PySem.W.hideAll_get _ e fun hm => by
    have q : (H b).isSome = true := (List.mem_filter.mp hm).2
    rw [n] at q; simp at q
theorem of_hidT {h : Heap} {H : Hp} {b : Addr} {o : Obj} (e : (hidT h H).get? b = some o) : h.get? b = some o ∧ H b = none := by
  have e' : h.get? b = some o := PySem.W.of_hideAll (trk h H) e
  refine ⟨e', ?_⟩
  cases q : H b with
  | none => rfl
  | some x =>
    have hm : b ∈ trk h H := List.mem_filter.mpr ⟨List.mem_range.mpr (Heap.lt_size e'), by simp [q]⟩
    have z : (hidT h H).get? b = none := PySem.W.hideAll_none (trk h H) hm
    rw [z] at e; cases e
end L2
namespace L2
open PySem PySem.Spec PyProof.Rows
structure Mod (K : PySem.W.Frag) (mg : Str → Option Value) (base : Heap) : Prop where
  kin : K.In base
  glob : base.Ns mainGlobals mg
  blt : ∃ mb, base.Ns builtinsNs mb ∧ ∀ x : Str, x ≠ "__name__" → mb x = bootBuiltins x
  nolimit : base.NoLimit
structure Cx where
  prog : Program
  w : World
  K : PySem.W.Frag
  mg : Str → Option Value
  base : Heap
  A : Around
  N : List Str
  s₀ : Shared
  H₀ : Hp
  env : Env
  outer : List Env
  stack : List Env
  ex : List Addr
  fn : Str → Bool
  calm : Bool
  pn : List (Addr × Obj)
  xe : Value → Shared → Prop
def frs (l : List Env) : List Addr := l.filterMap (·.frame)
abbrev Cx.fs (X : Cx) : List Addr := frs X.outer
def Vis (sc : Scope) (x : Str) : Prop := sc.names.lookup x = some .local ∨ sc.names.lookup x = some .cell ∨ sc.names.lookup x = some .free
def Loc (sc : Scope) (x : Str) : Prop := sc.names.lookup x = some .local ∨ sc.names.lookup x = some .cell
def Look (env : Env) (h : Heap) (m : Str → Option Value) (x : Str) (u : Value) : Prop :=
  (env.kindOf x = some .local ∧ m x = some u) ∨ ((env.kindOf x = some .cell ∨ env.kindOf x = some .free) ∧ ∃ c, env.cells.lookup x = some c ∧ h.IsCell c (some u))
structure Cx.Ok (X : Cx) : Prop where
  mod : Mod X.K X.mg X.base
  kind : X.env.scope.kind = .function
  glob : X.env.globals = mainGlobals
  blt : X.env.builtins = builtinsNs
  above : X.s₀.heap.objs.size ≤ X.env.locals
  inj : ∀ x y c, X.env.cells.lookup x = some c → X.env.cells.lookup y = some c → x = y
  has : ∀ x, (X.env.kindOf x = some .cell ∨ X.env.kindOf x = some .free) → ∃ c, X.env.cells.lookup x = some c
  cab : ∀ x c, X.fn x = true → X.env.cells.lookup x = some c → X.s₀.heap.objs.size ≤ c
  hd : X.calm = true → X.A.handled = none
  frames : X.A.frames = some X.stack
  stk : X.stack = X.outer ∨ (X.stack = X.env :: X.outer ∧ X.env.frame = some X.env.locals)
  exf : ∀ b ∈ X.ex, b ≠ X.env.locals ∧ ∀ x c, X.env.cells.lookup x = some c → c ≠ b
  bs : ∀ b o, X.base.get? b = some o → X.s₀.heap.get? b = some o ∧ X.H₀ b = none
  bsz : X.base.objs.size ≤ X.s₀.heap.objs.size
  noex : ∀ b o, X.base.get? b = some o → b ∉ X.ex
  exfs : ∀ b ∈ X.ex, b ∉ X.fs
  funs : X.s₀.heap.FunFrames X.base X.outer
  frf : ∀ b ∈ X.fs, X.H₀ b = none
structure Inv (X : Cx) (pins : List (Addr × Obj)) (σ : List (Option V)) (H : Hp) (s : Shared) : Prop where
  ok : X.Ok
  os : s.os = X.s₀.os
  bare : AllBare s.gens
  base : Un X.fs X.ex X.H₀ H X.s₀.heap s.heap
  loc : ∃ m, s.heap.Ns X.env.locals m ∧ ∀ (i : Nat) (x : Str) (v : V), X.N[i]? = some x → σ[i]? = some (some v) → Vis X.env.scope x → ∃ u, RelV v u ∧ Look X.env s.heap m x u
  cell : ∀ x c, X.env.cells.lookup x = some c → ∃ v, s.heap.IsCell c v
  free : H X.env.locals = none
  freeC : ∀ x c, X.env.cells.lookup x = some c → H c = none
  pin : ∀ p ∈ X.pn ++ pins, s.heap.get? p.1 = some p.2 ∧ H p.1 = none ∧ p.1 ≠ X.env.locals ∧ p.1 ∉ X.fs ∧ ∀ v, p.2.data ≠ .cell v
  hok : HOk X.prog X.w H s.heap
  len : σ.length = X.N.length
section
variable {X : Cx} {pins : List (Addr × Obj)} {σ : List (Option V)} {H H' : Hp} {s : Shared} {h' : Heap}
theorem Cx.Ok.nofr (ok : X.Ok) {b : Addr} {o : Obj} (e : X.base.get? b = some o) : b ∉ X.fs := fun hb => by
  have := (ok.funs.mem hb).1
  rw [e] at this; cases this
theorem Inv.bs (I : Inv X pins σ H s) : ∀ b o, X.base.get? b = some o → s.heap.get? b = some o ∧ H b = none := fun b o e =>
  ⟨I.base.keep b o (I.ok.bs b o e).1 (I.ok.bs b o e).2 (I.ok.nofr e) (I.ok.noex b o e), I.base.free b o (I.ok.bs b o e).1 (I.ok.bs b o e).2 (I.ok.noex b o e)⟩
theorem Inv.bk (I : Inv X pins σ H s) : ∀ b o, X.base.get? b = some o → s.heap.get? b = some o := fun b o e => (I.bs b o e).1
theorem Inv.mod (I : Inv X pins σ H s) : Mod X.K X.mg X.base := I.ok.mod
theorem Inv.kIn (I : Inv X pins σ H s) : X.K.In s.heap := I.ok.mod.kin.keeps I.bk
theorem Inv.lt (I : Inv X pins σ H s) : X.env.locals < s.heap.objs.size := let ⟨_, hn, _⟩ := I.loc; hn.lt
theorem Inv.sz (I : Inv X pins σ H s) : X.s₀.heap.objs.size ≤ s.heap.objs.size := Nat.le_trans I.ok.above (Nat.le_of_lt I.lt)
theorem Inv.nofs (I : Inv X pins σ H s) {a : Addr} (h : s.heap.objs.size ≤ a) : a ∉ X.fs := fun hb => by
  obtain ⟨_, o, ho, _⟩ := I.ok.funs.mem hb
  exact absurd (Nat.lt_of_lt_of_le (Heap.lt_size ho) (Nat.le_trans I.sz h)) (Nat.lt_irrefl _)
theorem Inv.cne (I : Inv X pins σ H s) : ∀ x c, X.env.cells.lookup x = some c → c ≠ X.env.locals := fun x c e z => by
  obtain ⟨v, o, ho, hd⟩ := I.cell x c e
  obtain ⟨m, ⟨o', es, ep, ho', hd', _⟩, _⟩ := I.loc
  rw [z, ho'] at ho; cases ho; rw [hd'] at hd; cases hd
theorem Inv.funs (I : Inv X pins σ H s) : s.heap.FunFrames X.base X.outer := by
  have all : ∀ (l : List Env), (∀ b ∈ frs l, b ∈ X.fs) → X.s₀.heap.FunFrames X.base l → s.heap.FunFrames X.base l := by
    intro l
    induction l with
    | nil => intro _ _; trivial
    | cons env r ih =>
      intro hs hl
      obtain ⟨hk, ⟨L, o, hf, hn, ho, hd⟩, hr⟩ := hl
      have hL : L ∈ X.fs := hs L (by unfold frs; rw [List.filterMap_cons, hf]; exact List.mem_cons_self)
      obtain ⟨sl, e⟩ := I.base.slot L o ho (I.ok.frf L hL) hL fun z => I.ok.exfs L z hL
      exact ⟨hk, ⟨L, _, hf, hn, e, hd⟩, ih (fun b hb => hs b (by unfold frs; rw [List.filterMap_cons, hf]; exact List.mem_cons_of_mem _ hb)) hr⟩
  exact all X.outer (fun _ hb => hb) I.ok.funs
theorem Inv.stack (I : Inv X pins σ H s) : s.heap.FunFrames X.base X.stack := by
  rcases I.ok.stk with e | ⟨e, hf⟩
  · rw [e]; exact I.funs
  · rw [e]
    obtain ⟨m, hn, _⟩ := I.loc
    refine .cons (by rw [I.ok.kind]; decide) hf hn ?_ I.funs
    exact Heap.get?_none_of_le (Nat.le_trans I.ok.bsz I.ok.above)
theorem Inv.stkSub (I : Inv X pins σ H s) : ∀ b ∈ frs X.stack, b ∈ X.env.locals :: X.fs := fun b hb => by
  rcases I.ok.stk with e | ⟨e, hf⟩
  · rw [e] at hb; exact List.mem_cons_of_mem _ hb
  · rw [e] at hb
    unfold frs at hb
    rw [List.filterMap_cons, hf] at hb
    exact hb
theorem Inv.stkFree (I : Inv X pins σ H s) : ∀ b ∈ frs X.stack, H b = none := fun b hb => by
  rcases List.mem_cons.mp (I.stkSub b hb) with e | hb
  · rw [e]; exact I.free
  · obtain ⟨_, o, ho, _⟩ := I.ok.funs.mem hb
    exact I.base.free b o ho (I.ok.frf b hb) fun z => I.ok.exfs b z hb
theorem Inv.step {g' : Array GenState} {t' : Nat} {d' : Drawn} {ch : List Addr} (I : Inv X pins σ H s)
    (hch : ∀ b ∈ ch, (b ∈ X.ex ∨ X.s₀.heap.objs.size ≤ b) ∧ b ≠ X.env.locals ∧ (∀ x c, X.env.cells.lookup x = some c → c ≠ b) ∧ ∀ p ∈ X.pn ++ pins, p.1 ≠ b)
    (keep : ∀ b o, b ≠ X.env.locals → b ∉ X.fs → b ∉ ch → s.heap.get? b = some o → H b = none → h'.get? b = some o)
    (slot : ∀ b o, b ≠ X.env.locals → b ∈ X.fs → b ∉ ch → s.heap.get? b = some o → H b = none → ∃ sl, h'.get? b = some { o with slots := sl }) (free : ∀ b o, b ∉ ch → s.heap.get? b = some o → H b = none → H' b = none)
    (there : ∀ b o, b ∉ ch → s.heap.get? b = some o → ∃ o', h'.get? b = some o')
    (tups : ∀ b xs, H b = some (.tup xs) → H' b = some (.tup xs)) (frzs : ∀ b o u, H b = some (.frz o u) → H' b = some (.frz o u)) (tbls : ∀ b ps, H b = some (.tbl ps) → ∃ more, H' b = some (.tbl (ps ++ more)))
    (ns : ∀ m, s.heap.Ns X.env.locals m → h'.Ns X.env.locals m) (hok : HOk X.prog X.w H' h') (hg : AllBare g') :
    Inv X pins σ H' { s with heap := h', gens := g', drawn := d', toks := t' } := by
  have neL : ∀ b o, X.s₀.heap.get? b = some o → b ≠ X.env.locals := fun b o e => Nat.ne_of_lt (Nat.lt_of_lt_of_le (Heap.lt_size e) I.ok.above)
  have neC : ∀ b o, X.s₀.heap.get? b = some o → b ∉ X.ex → b ∉ ch := fun b o e hx hb => by
    rcases (hch b hb).1 with z | z
    · exact hx z
    · exact absurd (Nat.lt_of_lt_of_le (Heap.lt_size e) z) (Nat.lt_irrefl _)
  have cellK : ∀ x c, X.env.cells.lookup x = some c → ∀ v, s.heap.IsCell c v → h'.IsCell c v := fun x c e v ⟨o, ho, hd⟩ => by
    have nch : c ∉ ch := fun z => (hch c z).2.2.1 x c e rfl
    by_cases hc : c ∈ X.fs
    · obtain ⟨sl, q⟩ := slot c o (I.cne x c e) hc nch ho (I.freeC x c e)
      exact ⟨_, q, hd⟩
    · exact ⟨o, keep c o (I.cne x c e) hc nch ho (I.freeC x c e), hd⟩
  refine ⟨I.ok, I.os, hg, ⟨fun b o e n hb hx => ?_, fun b o e n hb hx => ?_, fun b o e n hx => ?_, fun b o e hx => ?_, fun b xs e => tups b xs (I.base.tups b xs e), fun b o xs e => frzs b o xs (I.base.frzs b o xs e), fun b ps e => ?_⟩, ?_, fun x c e => ?_, ?_, fun x c e => ?_, fun p hp => ?_, hok, I.len⟩
  · exact keep b o (neL b o e) hb (neC b o e hx) (I.base.keep b o e n hb hx) (I.base.free b o e n hx)
  · obtain ⟨sl, e1⟩ := I.base.slot b o e n hb hx
    obtain ⟨sl', e2⟩ := slot b _ (neL b o e) hb (neC b o e hx) e1 (I.base.free b o e n hx)
    exact ⟨sl', e2⟩
  · obtain ⟨o', e1⟩ := I.base.there b o e hx
    exact free b o' (neC b o e hx) e1 (I.base.free b o e n hx)
  · obtain ⟨o', e1⟩ := I.base.there b o e hx
    exact there b o' (neC b o e hx) e1
  · obtain ⟨m1, e1⟩ := I.base.tbls b ps e
    obtain ⟨m2, e2⟩ := tbls b _ e1
    exact ⟨m1 ++ m2, by rw [e2, Array.append_assoc]⟩
  · obtain ⟨m, hn, hl⟩ := I.loc
    refine ⟨m, ns m hn, fun i x v e1 e2 e3 => ?_⟩
    obtain ⟨u, r, l⟩ := hl i x v e1 e2 e3
    refine ⟨u, r, ?_⟩
    rcases l with l | ⟨k, c, e, z⟩
    · exact .inl l
    · exact .inr ⟨k, c, e, cellK x c e _ z⟩
  · obtain ⟨v, z⟩ := I.cell x c e
    exact ⟨v, cellK x c e v z⟩
  · obtain ⟨m, ⟨o, _, _, ho, _⟩, _⟩ := I.loc
    exact free _ o (fun z => (hch _ z).2.1 rfl) ho I.free
  · obtain ⟨v, o, ho, hd⟩ := I.cell x c e
    exact free c o (fun z => (hch c z).2.2.1 x c e rfl) ho (I.freeC x c e)
  · obtain ⟨e, n, ne, nf, d⟩ := I.pin p hp
    have nch : p.1 ∉ ch := fun z => (hch p.1 z).2.2.2 p hp rfl
    exact ⟨keep p.1 p.2 ne nf nch e n, free p.1 p.2 nch e n, ne, nf, d⟩
theorem Inv.un {t' : Nat} (I : Inv X pins σ H s) (u : Un X.fs [] H H' s.heap h') (hok : HOk X.prog X.w H' h') : Inv X pins σ H' { s with heap := h', toks := t' } := by
  obtain ⟨m, ⟨o, es, ep, ho, r⟩, _⟩ := id I.loc
  obtain ⟨sl, hL⟩ := u.any ho I.free (by simp)
  exact I.step (g' := s.gens) (d' := s.drawn) (ch := []) (fun _ z => nomatch z) (fun b o _ hb _ e n => u.keep b o e n hb (by simp)) (fun b o _ hb _ e n => u.slot b o e n hb (by simp)) (fun b o _ e n => u.free b o e n (by simp)) (fun b o _ e => u.there b o e (by simp)) u.tups u.frzs u.tbls (fun m' hm => by
    obtain ⟨o', es', ep', ho', r'⟩ := hm
    rw [ho] at ho'; cases ho'
    exact ⟨_, es', ep', hL, r'⟩) hok I.bare
theorem Inv.call {g' : Array GenState} {t' : Nat} {d' : Drawn} {ch : List Addr} (I : Inv X pins σ H s) (u : Un (frs X.stack) ch H H' s.heap h') (hok : HOk X.prog X.w H' h') (hg : AllBare g')
    (hch : ∀ b ∈ ch, (b ∈ X.ex ∨ X.s₀.heap.objs.size ≤ b) ∧ b ≠ X.env.locals ∧ (∀ x c, X.env.cells.lookup x = some c → c ≠ b) ∧ ∀ p ∈ X.pn ++ pins, p.1 ≠ b) :
    Inv X pins σ H' { s with heap := h', gens := g', drawn := d', toks := t' } := by
  obtain ⟨m, ⟨o, es, ep, ho, r⟩, _⟩ := id I.loc
  obtain ⟨sl, hL⟩ := u.any ho I.free fun z => (hch _ z).2.1 rfl
  exact I.step (ch := ch) hch (fun b o hL hb hc e n => u.keep b o e n (fun z => (List.mem_cons.mp (I.stkSub b z)).elim hL hb) hc) (fun b o _ _ hc e n => u.any e n hc) (fun b o hc e n => u.free b o e n hc) (fun b o hc e => u.there b o e hc) u.tups u.frzs u.tbls (fun m' hm => by
    obtain ⟨o', es', ep', ho', r'⟩ := hm
    rw [ho] at ho'; cases ho'
    exact ⟨_, es', ep', hL, r'⟩) hok hg
theorem Inv.turned {t' : Nat} {it : Addr} (I : Inv X pins σ H s) (k : ∀ b o, b ≠ it → s.heap.get? b = some o → h'.get? b = some o) (hn : H it = none) (hL : it ≠ X.env.locals)
    (h1 : it ∈ X.ex ∨ X.s₀.heap.objs.size ≤ it) (h2 : ∀ x c, X.env.cells.lookup x = some c → c ≠ it) (h3 : ∀ p ∈ X.pn ++ pins, p.1 ≠ it) : Inv X pins σ H { s with heap := h', toks := t' } := by
  have nit : ∀ b u, H b = some u → b ≠ it := fun b u e z => by rw [z, hn] at e; cases e
  refine I.step (g' := s.gens) (d' := s.drawn) (ch := [it]) (fun b hb => ?_) (fun b o _ _ hc e _ => k b o (fun z => hc (by simp [z])) e) (fun b o _ _ hc e _ => ⟨o.slots, k b o (fun z => hc (by simp [z])) e⟩) (fun _ _ _ _ n => n)
    (fun b o hc e => ⟨o, k b o (fun z => hc (by simp [z])) e⟩) (fun _ _ e => e) (fun _ _ _ e => e) (fun b ps e => ⟨#[], by rw [e]; simp⟩) (fun m hm => ?_) (fun b u e => ?_) I.bare
  · have e : b = it := by simpa using hb
    subst e
    exact ⟨h1, hL, h2, h3⟩
  · obtain ⟨o, es, ep, ho, r⟩ := hm
    exact ⟨o, es, ep, k _ o (Ne.symm hL) ho, r⟩
  · refine (I.hok b u e).stay (fun c v hc q => k c v ?_ q) (fun _ q => q) fun _ _ q => q
    rcases hc with z | z
    · rw [z]; exact nit b u e
    · exact nit c _ z
theorem Inv.tok (I : Inv X pins σ H s) (t : Nat) : Inv X pins σ H { s with toks := t } := I.un (h' := s.heap) (t' := t) Un.refl I.hok
theorem Inv.kept {t' : Nat} (I : Inv X pins σ H s) (k : ∀ b u, s.heap.get? b = some u → h'.get? b = some u) : Inv X pins σ H { s with heap := h', toks := t' } := I.un (Un.kept k) (I.hok.kept k)
theorem Inv.laid {a : Addr} {o : HO} {t' : Nat} (I : Inv X pins σ H s) (k : ∀ b u, s.heap.get? b = some u → h'.get? b = some u) (hp : s.heap.objs.size ≤ a) (new : ObjOk X.prog X.w (upd H a o) h' a o) :
    Inv X pins σ (upd H a o) { s with heap := h', toks := t' } := I.un (Un.laid k hp (I.hok.fresh hp)) (I.hok.laid k hp new)
theorem Inv.write {x e : Addr} {o : HO} {t' : Nat} (I : Inv X pins σ H s) (mu : Mut (H x)) (he : e = x ∨ H e = some (.own x)) (k : ∀ b u, b ≠ e → s.heap.get? b = some u → h'.get? b = some u) (heo : ∃ u, h'.get? e = some u)
    (new : ObjOk X.prog X.w (upd H x o) h' x o) : Inv X pins σ (upd H x o) { s with heap := h', toks := t' } := I.un (Un.write mu he k heo) (I.hok.write mu he k heo new)
theorem Inv.pins_of {pins' : List (Addr × Obj)} (I : Inv X pins σ H s) (h : ∀ p ∈ pins', s.heap.get? p.1 = some p.2 ∧ H p.1 = none ∧ p.1 ≠ X.env.locals ∧ p.1 ∉ X.fs ∧ ∀ v, p.2.data ≠ .cell v) : Inv X pins' σ H s :=
  ⟨I.ok, I.os, I.bare, I.base, I.loc, I.cell, I.free, I.freeC, fun p hp => (List.mem_append.mp hp).elim (fun z => I.pin p (List.mem_append_left _ z)) (h p), I.hok, I.len⟩
theorem nodup_ix {N : List Str} (hN : N.Nodup) {i j : Nat} {x : Str} (a : N[i]? = some x) (b : N[j]? = some x) : i = j := by
  obtain ⟨h1, e1⟩ := List.getElem?_eq_some_iff.mp a
  obtain ⟨h2, e2⟩ := List.getElem?_eq_some_iff.mp b
  exact (List.getElem_inj hN).mp (e1.trans e2.symm)
theorem store_ok2 {M : Model} {A : Around} {E : Value → Shared → Prop} {i : Nat} {x : Str} {v : V} {u : Value} {Q : Unit → Shared → Prop} (I : Inv X pins σ H s) (hN : X.N.Nodup) (hi : X.N[i]? = some x) (hx : Loc X.env.scope x) (r : RelV v u)
    (h : ∀ s', Inv X pins (σ.set i (some v)) H s' → (∃ a, Heap.SameBut a s.heap s'.heap ∧ (a = X.env.locals ∨ X.env.cells.lookup x = some a)) → Q () s') (hf : X.fn x = true ∨ X.env.scope.names.lookup x = some .local := by first | exact .inl rfl | exact .inr rfl | assumption) : wpAny M A (storeName X.env x u) Q E s := by
  obtain ⟨m, hn, hl⟩ := id I.loc
  have hcls : (X.env.scope.kind == .class || (X.env.scope.kind == .module && X.env.locals != X.env.globals)) = false := by rw [I.ok.kind]; rfl
  have hiσ : i < σ.length := by rw [I.len]; exact (List.getElem?_eq_some_iff.mp hi).1
  have cne := I.cne
  have tracked : ∀ {a : Addr} {h' : Heap}, (∃ o, s.heap.get? a = some o ∧ H a = none) → Heap.SameBut a s.heap h' → HOk X.prog X.w H h' := fun {a h'} ha hs b ob e => by
    obtain ⟨_, _, hfree⟩ := ha
    refine (I.hok b ob e).stay (fun c w' hc q => (hs.2 c ?_).trans q) (fun _ q => q) fun _ _ q => q
    rintro rfl
    rcases hc with rfl | hc
    · rw [hfree] at e; cases e
    · rw [hfree] at hc; cases hc
  rcases hx with hk | hk
  · refine wpAny_storeName_local hk hn (fun h' hn' hs => ?_) hcls
    obtain ⟨oL, _, _, hoL, _⟩ := id hn
    refine h _ ⟨I.ok, I.os, I.bare, ⟨fun b o e n hb hx => ?_, fun b o e n hb hx => ?_, I.base.free, fun b o e hx => ?_, I.base.tups, I.base.frzs, I.base.tbls⟩, ⟨_, hn', fun j y v' e1 e2 e3 => ?_⟩, fun y c e => ?_, I.free, I.freeC, fun p hp => ?_, tracked ⟨oL, hoL, I.free⟩ hs, by simpa using I.len⟩ ⟨_, hs, .inl rfl⟩
    · exact (hs.2 b (Nat.ne_of_lt (Nat.lt_of_lt_of_le (Heap.lt_size e) I.ok.above))).trans (I.base.keep b o e n hb hx)
    · obtain ⟨sl, e1⟩ := I.base.slot b o e n hb hx
      exact ⟨sl, (hs.2 b (Nat.ne_of_lt (Nat.lt_of_lt_of_le (Heap.lt_size e) I.ok.above))).trans e1⟩
    · obtain ⟨o', e1⟩ := I.base.there b o e hx
      exact ⟨o', (hs.2 b (Nat.ne_of_lt (Nat.lt_of_lt_of_le (Heap.lt_size e) I.ok.above))).trans e1⟩
    · by_cases hj : j = i
      · subst hj
        rw [hi] at e1; cases e1
        rw [List.getElem?_set_self hiσ] at e2
        cases e2
        exact ⟨u, r, .inl ⟨hk, by simp⟩⟩
      · rw [List.getElem?_set_ne (Ne.symm hj)] at e2
        obtain ⟨u', r', q⟩ := hl j y v' e1 e2 e3
        refine ⟨u', r', ?_⟩
        rcases q with ⟨k, e⟩ | ⟨k, c, e, z⟩
        · refine .inl ⟨k, ?_⟩
          have : y ≠ x := fun e => hj (nodup_ix hN e1 (e ▸ hi))
          simp [this, e]
        · exact .inr ⟨k, c, e, z.sameBut hs (cne y c e)⟩
    · obtain ⟨w', z⟩ := I.cell y c e
      exact ⟨w', z.sameBut hs (cne y c e)⟩
    · obtain ⟨e, n, ne, nf, d⟩ := I.pin p hp
      exact ⟨(hs.2 p.1 ne).trans e, n, ne, nf, d⟩
  · have hfn : X.fn x = true := by
      rcases hf with z | z
      · exact z
      · rw [z] at hk; cases hk
    obtain ⟨c, hc⟩ := I.ok.has x (.inl hk)
    obtain ⟨w', z⟩ := I.cell x c hc
    refine wpAny_storeName_cell I.ok.kind hk hc z (fun h' hc' hs => ?_)
    obtain ⟨oc, hoc, hocd⟩ := id z
    refine h { s with heap := h' } ⟨I.ok, I.os, I.bare, ⟨fun b o e n hb hx => ?_, fun b o e n hb hx => ?_, I.base.free, fun b o e hx => ?_, I.base.tups, I.base.frzs, I.base.tbls⟩, ⟨m, hn.sameBut hs (Ne.symm (cne x c hc)), fun j y v' e1 e2 e3 => ?_⟩, fun y c' e => ?_, I.free, I.freeC, fun p hp => ?_, tracked ⟨oc, hoc, I.freeC x c hc⟩ hs, by simpa using I.len⟩ ⟨c, hs, .inr hc⟩
    · exact (hs.2 b (Nat.ne_of_lt (Nat.lt_of_lt_of_le (Heap.lt_size e) (I.ok.cab x c hfn hc)))).trans (I.base.keep b o e n hb hx)
    · obtain ⟨sl, e1⟩ := I.base.slot b o e n hb hx
      exact ⟨sl, (hs.2 b (Nat.ne_of_lt (Nat.lt_of_lt_of_le (Heap.lt_size e) (I.ok.cab x c hfn hc)))).trans e1⟩
    · obtain ⟨o', e1⟩ := I.base.there b o e hx
      exact ⟨o', (hs.2 b (Nat.ne_of_lt (Nat.lt_of_lt_of_le (Heap.lt_size e) (I.ok.cab x c hfn hc)))).trans e1⟩
    · by_cases hj : j = i
      · subst hj
        rw [hi] at e1; cases e1
        rw [List.getElem?_set_self hiσ] at e2
        cases e2
        exact ⟨u, r, .inr ⟨.inl hk, c, hc, hc'⟩⟩
      · rw [List.getElem?_set_ne (Ne.symm hj)] at e2
        obtain ⟨u', r', q⟩ := hl j y v' e1 e2 e3
        refine ⟨u', r', ?_⟩
        rcases q with q | ⟨k, c', e, z'⟩
        · exact .inl q
        · refine .inr ⟨k, c', e, z'.sameBut hs ?_⟩
          rintro rfl
          exact hj (nodup_ix hN e1 (I.ok.inj _ _ _ e hc ▸ hi))
    · by_cases hcc : c' = c
      · subst hcc; exact ⟨_, hc'⟩
      · obtain ⟨w2, z2⟩ := I.cell y c' e
        exact ⟨w2, z2.sameBut hs hcc⟩
    · obtain ⟨e, n, ne, nf, d⟩ := I.pin p hp
      refine ⟨(hs.2 p.1 ?_).trans e, n, ne, nf, d⟩
      intro q
      rw [q, hoc] at e
      have q' : oc = p.2 := Option.some.inj e
      exact d w' (by rw [← q']; exact hocd)
theorem store_ok {M : Model} {A : Around} {E : Value → Shared → Prop} {i : Nat} {x : Str} {v : V} {u : Value} {Q : Unit → Shared → Prop} (I : Inv X pins σ H s) (hN : X.N.Nodup) (hi : X.N[i]? = some x) (hx : Loc X.env.scope x) (r : RelV v u)
    (h : ∀ s', Inv X pins (σ.set i (some v)) H s' → Q () s') (hf : X.fn x = true ∨ X.env.scope.names.lookup x = some .local := by first | exact .inl rfl | exact .inr rfl | assumption) : wpAny M A (storeName X.env x u) Q E s :=
  store_ok2 I hN hi hx r (fun s' I' _ => h s' I') hf
theorem Inv.call' {s' : Shared} {ch : List Addr} (I : Inv X pins σ H s) (ho : s'.os = s.os) (u : Un (frs X.stack) ch H H' s.heap s'.heap) (hok : HOk X.prog X.w H' s'.heap) (hg : AllBare s'.gens)
    (hch : ∀ b ∈ ch, (b ∈ X.ex ∨ X.s₀.heap.objs.size ≤ b) ∧ b ≠ X.env.locals ∧ (∀ x c, X.env.cells.lookup x = some c → c ≠ b) ∧ ∀ p ∈ X.pn ++ pins, p.1 ≠ b) : Inv X pins σ H' s' := by
  obtain ⟨h', g', d', t', o'⟩ := s'
  have e : o' = s.os := ho
  subst e
  exact I.call (g' := g') (t' := t') (d' := d') u hok hg hch
end
abbrev XK := Value → Option Addr → Hp → Prop
abbrev St := List (Option V)
abbrev VK := V → Hp → Prop
abbrev TE := St → Hp → VK → Prop
abbrev TT := St → Hp → (Bool → Hp → Prop) → Prop
abbrev TA := St → Hp → (List V → Hp → Prop) → Prop
structure Ends where
  nx : St → Hp → Prop
  rt : VK
  bk : St → Hp → Prop := fun _ _ => False
  ct : St → Hp → Prop := fun _ _ => False
abbrev TS := Ends → St → Hp → Prop
def EP (X : Cx) (pins : List (Addr × Obj)) (σ : St) (Q : VK) (u : Value) (s' : Shared) : Prop := ∃ v H', Inv X pins σ H' s' ∧ RelV v u ∧ Q v H'
def TP (X : Cx) (pins : List (Addr × Obj)) (σ : St) (Q : Bool → Hp → Prop) (b : Bool) (s' : Shared) : Prop := ∃ H', Inv X pins σ H' s' ∧ Q b H'
def AP (X : Cx) (pins : List (Addr × Obj)) (σ : St) (Q : List V → Hp → Prop) (us : List Value) (s' : Shared) : Prop := ∃ vs H', Inv X pins σ H' s' ∧ Vals vs us ∧ Q vs H'
def SP (X : Cx) (pins : List (Addr × Obj)) (D : Ends) (f : Flow) (s' : Shared) : Prop :=
  match f with
  | .next => ∃ σ' H', Inv X pins σ' H' s' ∧ D.nx σ' H'
  | .brk => ∃ σ' H', Inv X pins σ' H' s' ∧ D.bk σ' H'
  | .cont => ∃ σ' H', Inv X pins σ' H' s' ∧ D.ct σ' H'
  | .ret u => ∃ v σ' H', Inv X pins σ' H' s' ∧ RelV v u ∧ D.rt v H'
def PE (X : Cx) (e : Expr) (t : TE) : Prop :=
  ∀ (pins : List (Addr × Obj)) (s : Shared) (σ : St) (H : Hp) (Q : VK), Inv X pins σ H s → t σ H Q → wpAny (model X.prog X.w) X.A (eval e X.env) (EP X pins σ Q) X.xe s
def PT (X : Cx) (e : Expr) (t : TT) : Prop :=
  ∀ (pins : List (Addr × Obj)) (s : Shared) (σ : St) (H : Hp) (Q : Bool → Hp → Prop), Inv X pins σ H s → t σ H Q → wpAny (model X.prog X.w) X.A (isTrue e X.env (eval e X.env)) (TP X pins σ Q) X.xe s
def PW (X : Cx) (e : Expr) (t : TT) : Prop :=
  ∀ (whole : Sem Value) (pins : List (Addr × Obj)) (s : Shared) (σ : St) (H : Hp) (Q : Bool → Hp → Prop), Inv X pins σ H s → t σ H Q → wpAny (model X.prog X.w) X.A (isTrue e X.env whole) (TP X pins σ Q) X.xe s
theorem PW.pt {X : Cx} {e : Expr} {t : TT} (h : PW X e t) : PT X e t := h _
def PA (X : Cx) (es : List Expr) (t : TA) : Prop :=
  ∀ (pos : Pos) (pins : List (Addr × Obj)) (s : Shared) (σ : St) (H : Hp) (Q : List V → Hp → Prop), Inv X pins σ H s → t σ H Q → wpAny (model X.prog X.w) X.A (spliced (backTo pos (starEach es X.env))) (AP X pins σ Q) X.xe s
def PS (X : Cx) (st : Stmt) (t : TS) : Prop :=
  ∀ (pins : List (Addr × Obj)) (s : Shared) (σ : St) (H : Hp) (D : Ends), Inv X pins σ H s → t D σ H → wpAny (model X.prog X.w) X.A (exec st X.env) (SP X pins D) X.xe s
def PSs (X : Cx) (st : List Stmt) (t : TS) : Prop :=
  ∀ (pins : List (Addr × Obj)) (s : Shared) (σ : St) (H : Hp) (D : Ends), Inv X pins σ H s → t D σ H → wpAny (model X.prog X.w) X.A (execs st X.env) (SP X pins D) X.xe s
theorem thn {α : Type} {t : Sem α} {Q Q' : α → Shared → Prop} {M : Model} {A : Around} {E : Value → Shared → Prop} {s : Shared} (h : wpAny M A t Q E s) (hQ : ∀ a s, Q a s → Q' a s) : wpAny M A t Q' E s := wpAny_mono h hQ fun _ _ x => x
end L2
namespace L2
open PySem PySem.Spec PyProof.Rows
section
variable {X : Cx}
def tVar (i : Nat) : TE := fun σ H Q => ∃ v, σ[i]? = some (some v) ∧ Q v H
def tC (v : V) : TE := fun _ H Q => Q v H
theorem pe_var {i : Nat} {x : Str} {pos : Pos} (hN : X.N[i]? = some x) (hv : Vis X.env.scope x) (hd : (x == ("__debug__" : Str)) = false := by decide) (hcd : (x == ("__classdict__" : Str)) = false := by decide) : PE X (.Name x pos) (tVar i) := by
  intro pins s σ H Q I h
  obtain ⟨v, e, h⟩ := h
  obtain ⟨m, hn, hl⟩ := I.loc
  obtain ⟨u, r, l⟩ := hl i x v hN e hv
  have fin : EP X pins σ Q u s := ⟨v, H, I, r, h⟩
  rcases l with ⟨hk, hm⟩ | ⟨hk, c, hc, hcell⟩
  · exact wpAny_Name (wpAny_loadName_local I.ok.kind hk hn hm fin) hd
  · rcases hk with hk | hk
    · exact wpAny_Name (wpAny_loadName_cell I.ok.kind hk hc hcell fin) hd
    · exact wpAny_Name (wpAny_loadName_free I.ok.kind hk hc hcell fin hcd) hd
theorem pe_int {i j pos} : PE X (.Constant (.int i) j pos) (tC (.int i)) := fun _ _ _ H _ I h => wpAny_Constant_int ⟨.int i, H, I.tok _, ⟨_, rfl⟩, h⟩
theorem pe_bl {b j pos} : PE X (.Constant (.bool b) j pos) (tC (.bl b)) := fun _ _ _ H _ I h => Constant_bool ⟨.bl b, H, I, rfl, h⟩
theorem pe_non {j pos} : PE X (.Constant .none j pos) (tC .non) := fun _ _ _ H _ I h => Constant_none ⟨.non, H, I, rfl, h⟩
theorem pe_str {x j pos} : PE X (.Constant (.str x) j pos) (tC (.str x)) := fun _ _ _ H _ I h => Calls.Constant_str ⟨.str x, H, I.tok _, ⟨_, rfl⟩, h⟩
def Gl (X : Cx) (x : Str) : Prop := X.env.kindOf x = some .globalImplicit
theorem ld_glob {E : Value → Shared → Prop} {pins : List (Addr × Obj)} {s : Shared} {σ : St} {H : Hp} {x : Str} {u : Value} {pos : Pos} {Q : Value → Shared → Prop} (I : Inv X pins σ H s) (hg : Gl X x) (hm : X.mg x = some u) (h : Q u s)
    (hd : (x == ("__debug__" : Str)) = false := by decide) : wpAny (model X.prog X.w) X.A (eval (.Name x pos) X.env) Q E s :=
  Calls.Name_function_global I.ok.kind hg (Calls.loadGlobal_global (by rw [I.ok.glob]; exact I.mod.glob.keeps I.bk) hm h) hd
theorem ld_blt {E : Value → Shared → Prop} {pins : List (Addr × Obj)} {s : Shared} {σ : St} {H : Hp} {x : Str} {u : Value} {pos : Pos} {Q : Value → Shared → Prop} (I : Inv X pins σ H s) (hg : Gl X x) (hm : X.mg x = none) (hv : bootBuiltins x = some u) (h : Q u s)
    (hn : x ≠ "__name__" := by decide) (hd : (x == ("__debug__" : Str)) = false := by decide) : wpAny (model X.prog X.w) X.A (eval (.Name x pos) X.env) Q E s := by
  obtain ⟨mb, h1, h2⟩ := I.mod.blt
  exact Calls.Name_function_global I.ok.kind hg (Calls.loadGlobal_builtin (by rw [I.ok.glob]; exact I.mod.glob.keeps I.bk) hm (by rw [I.ok.blt]; exact h1.keeps I.bk) ((h2 x hn).trans hv) h) hd
theorem pe_glob {x : Str} {v : V} {u : Value} {pos : Pos} (hg : Gl X x) (hm : X.mg x = some u) (r : RelV v u) (hd : (x == ("__debug__" : Str)) = false := by decide) : PE X (.Name x pos) (tC v) :=
  fun _ _ _ H _ I h => ld_glob I hg hm ⟨v, H, I, r, h⟩ hd
theorem pe_bltn {x : Str} {v : V} {u : Value} {pos : Pos} (hg : Gl X x) (hm : X.mg x = none) (hv : bootBuiltins x = some u) (r : RelV v u) (hn : x ≠ "__name__" := by decide) (hd : (x == ("__debug__" : Str)) = false := by decide) : PE X (.Name x pos) (tC v) :=
  fun _ _ _ H _ I h => ld_blt I hg hm hv ⟨v, H, I, r, h⟩ hn hd
variable {a b : Expr} {ta tb : TE} {pos : Pos}
def tB (t : TE) : TT := fun σ H Q => t σ H fun x H1 => ∃ c, x = .bl c ∧ Q c H1
theorem pt_val {e : Expr} {t : TE} (h : PE X e t) (he : ∀ whole, isTrue e X.env whole = (do let v ← whole; standAt e.pos; holding [v] (truthy v)) := by intro _; rfl) : PT X e (tB t) := by
  intro pins s σ H Q I hw
  refine isTrue_plain (thn (h pins s σ H _ I hw) fun v s1 ⟨x, H1, I1, r1, q1⟩ => ?_) (he _)
  obtain ⟨d, rfl, q⟩ := q1
  cases r1
  exact wpAny_truthy_bool ⟨H1, I1, q⟩
variable {tA tB' : TT} {rest : List Expr}
def tAnd (t u : TT) : TT := fun σ H Q => t σ H fun c H1 => if c = true then u σ H1 Q else Q false H1
def tOr (t u : TT) : TT := fun σ H Q => t σ H fun c H1 => if c = true then Q true H1 else u σ H1 Q
def tNot (t : TT) : TT := fun σ H Q => t σ H fun c H1 => Q (!c) H1
theorem pw_and1 (ha : PT X a tA) : PW X (.BoolOp .And [a] pos) tA := by
  intro wh pins s σ H Q I h
  refine isTrue_and (thn (ha pins s σ H Q I h) fun c s1 e => ?_)
  cases c with
  | true => exact isTrue_and_nil e
  | false => exact e
theorem pw_or1 (ha : PT X a tA) : PW X (.BoolOp .Or [a] pos) tA := by
  intro wh pins s σ H Q I h
  refine isTrue_or (thn (ha pins s σ H Q I h) fun c s1 e => ?_)
  cases c with
  | false => exact isTrue_or_nil e
  | true => exact e
theorem pw_and (ha : PT X a tA) (hb : PW X (.BoolOp .And (b :: rest) pos) tB') : PW X (.BoolOp .And (a :: b :: rest) pos) (tAnd tA tB') := by
  intro wh pins s σ H Q I h
  refine isTrue_and (thn (ha pins s σ H _ I h) fun c s1 ⟨H1, I1, q1⟩ => ?_)
  cases c with
  | true => exact hb wh pins s1 σ H1 Q I1 q1
  | false => exact ⟨H1, I1, q1⟩
theorem pw_or (ha : PT X a tA) (hb : PW X (.BoolOp .Or (b :: rest) pos) tB') : PW X (.BoolOp .Or (a :: b :: rest) pos) (tOr tA tB') := by
  intro wh pins s σ H Q I h
  refine isTrue_or (thn (ha pins s σ H _ I h) fun c s1 ⟨H1, I1, q1⟩ => ?_)
  cases c with
  | true => exact ⟨H1, I1, q1⟩
  | false => exact hb wh pins s1 σ H1 Q I1 q1
theorem pt_not (ha : PT X a tA) : PT X (.UnaryOp .Not a pos) (tNot tA) := by
  intro pins s σ H Q I h
  exact isTrue_not (ha pins s σ H (fun c H1 => Q (!c) H1) I h)
def tAndV (ta tb : TE) : TE := fun σ H Q => ta σ H fun x H1 => ∃ c, x = .bl c ∧ if c = true then tb σ H1 Q else Q (.bl false) H1
def tOrV (ta tb : TE) : TE := fun σ H Q => ta σ H fun x H1 => ∃ c, x = .bl c ∧ if c = true then Q (.bl true) H1 else tb σ H1 Q
def tNotV (ta : TE) : TE := fun σ H Q => ta σ H fun x H1 => ∃ c, x = .bl c ∧ Q (.bl (!c)) H1
theorem pe_one {op} {t : TE} (h : PE X a t) : PE X (.BoolOp op [a] pos) t := fun pins s σ H Q I hw => BoolOp_one (h pins s σ H Q I hw)
theorem pe_and (ha : PE X a ta) (hb : PE X (.BoolOp .And (b :: rest) pos) tb) : PE X (.BoolOp .And (a :: b :: rest) pos) (tAndV ta tb) := by
  intro pins s σ H Q I h
  refine BoolOp_and (thn (ha pins s σ H _ I h) fun v s1 ⟨x, H1, I1, r1, q1⟩ => ?_)
  obtain ⟨c, rfl, q1⟩ := q1
  cases r1
  refine wpAny_truthy_bool ?_
  cases c with
  | true => exact hb pins s1 σ H1 Q I1 q1
  | false => exact ⟨.bl false, H1, I1, rfl, q1⟩
theorem pe_not (ha : PE X a ta) : PE X (.UnaryOp .Not a pos) (tNotV ta) := by
  intro pins s σ H Q I h
  refine UnaryOp_ (thn (ha pins s σ H _ I h) fun v s1 ⟨x, H1, I1, r1, q1⟩ => ?_)
  obtain ⟨c, rfl, q1⟩ := q1
  cases r1
  exact not_of (wpAny_truthy_bool ⟨.bl (!c), H1, I1, rfl, q1⟩)
def tIf (t : TT) (ta tb : TE) : TE := fun σ H Q => t σ H fun c H1 => if c = true then ta σ H1 Q else tb σ H1 Q
theorem pe_ifExp {c : Expr} (hc : PT X c tA) (ha : PE X a ta) (hb : PE X b tb) : PE X (.IfExp c a b pos) (tIf tA ta tb) := by
  intro pins s σ H Q I h
  refine wpAny_IfExp (thn (hc pins s σ H _ I h) fun d s1 ⟨H1, I1, q1⟩ => ?_)
  cases d with
  | true => exact ha pins s1 σ H1 Q I1 q1
  | false => exact hb pins s1 σ H1 Q I1 q1
end
end L2
namespace L2
open PySem PySem.Spec PyProof.Rows
def SqL (K : PySem.W.Frag) (H : Hp) (a : Addr) (xs : List V) : Prop :=
  Rd H a (.lst xs) ∨
    ∃ (o : Obj) (its : Array Value) (n : Nat), K.lookup a = some o ∧ o.cls = .type "list" ∧ o.dict = none ∧ o.data = .seq its n ∧ its.size ≤ sizeLine ∧ Vals xs its.toList
def SqT (K : PySem.W.Frag) (H : Hp) (a : Addr) (xs : List V) : Prop :=
  Rd H a (.tup xs) ∨
    ∃ (o : Obj) (its : Array Value) (n : Nat), K.lookup a = some o ∧ o.cls = .type "tuple" ∧ o.data = .seq its n ∧ its.size ≤ sizeLine ∧ Vals xs its.toList
def absV : Value → Option V
  | .none => some .non
  | .bool b => some (.bl b)
  | .int i _ => some (.int i)
  | .str x _ => some (.str x)
  | .bytes b _ => some (.byt b)
  | .float b _ => some (.flt b)
  | .ref a => some (.ref a)
  | .type n => some (.ty n)
  | _ => none
theorem RelV.abs {x : V} {u : Value} (r : RelV x u) : absV u = some x := by
  cases x with
  | non => cases r; rfl
  | bl _ => cases r; rfl
  | int _ => obtain ⟨t, rfl⟩ := r; rfl
  | str _ => obtain ⟨t, rfl⟩ := r; rfl
  | byt _ => obtain ⟨t, rfl⟩ := r; rfl
  | flt _ => obtain ⟨t, rfl⟩ := r; rfl
  | ref _ => cases r; rfl
  | ty _ => cases r; rfl
theorem RelV.inj {x y : V} {u : Value} (r : RelV x u) (q : RelV y u) : x = y := Option.some.inj (r.abs.symm.trans q.abs)
theorem Vals.inj : ∀ {xs ys : List V} {us : List Value}, Vals xs us → Vals ys us → xs = ys
  | _, _, _, .nil, .nil => rfl
  | _, _, _, .cons r t, .cons r' t' => by rw [r.inj r', Vals.inj t t']
section
variable {X : Cx} {pins : List (Addr × Obj)} {σ : St} {H : Hp} {s : Shared} {a : Addr} {xs ys : List V}
theorem SqL.of {K : PySem.W.Frag} (h : H a = some (.lst xs)) : SqL K H a xs := .inl (.inl h)
theorem SqT.of {K : PySem.W.Frag} (h : H a = some (.tup xs)) : SqT K H a xs := .inl (.inl h)
theorem Inv.list (I : Inv X pins σ H s) (h : SqL X.K H a xs) : ∃ its : List Value, Vals xs its ∧ PlainL s.heap a its.toArray ∧ xs.length ≤ sizeLine := by
  rcases h with h | ⟨o, its, n, hk, hc, hd, hs, hz, r⟩
  · obtain ⟨z, its, n, r, e⟩ := h.ok I.hok
    exact ⟨its, r, ⟨_, n, e, rfl, rfl, rfl⟩, z⟩
  · refine ⟨its.toList, r, ⟨o, n, I.kIn a o hk, hc, hd, by simpa using hs⟩, ?_⟩
    have e := r.length
    simp only [Array.length_toList] at e
    omega
theorem Inv.tuple (I : Inv X pins σ H s) (h : SqT X.K H a xs) : ∃ its : List Value, Vals xs its ∧ IsTup s.heap a its.toArray ∧ xs.length ≤ sizeLine := by
  rcases h with h | ⟨o, its, n, hk, hc, hs, hz, r⟩
  · obtain ⟨z, its, r, p⟩ := h.ok I.hok
    exact ⟨its, r, p, z⟩
  · refine ⟨its.toList, r, ⟨o, I.kIn a o hk, hc, n, by simpa using hs⟩, ?_⟩
    have e := r.length
    simp only [Array.length_toList] at e
    omega
theorem Inv.list_inj (I : Inv X pins σ H s) (h : SqL X.K H a xs) (h' : SqL X.K H a ys) : xs = ys := by
  obtain ⟨its, r, ⟨o, n, e, _, _, d⟩, _⟩ := I.list h
  obtain ⟨its', r', ⟨o', n', e', _, _, d'⟩, _⟩ := I.list h'
  rw [e] at e'; cases e'
  rw [d] at d'
  injection d' with d1 _
  have : its = its' := by simpa using congrArg Array.toList d1
  subst this
  exact r.inj r'
end
abbrev Cx.wish (X : Cx) (E : Value → Shared → Prop) : Cx := { X with xe := E }
abbrev Cx.nox (X : Cx) : Cx := X.wish fun _ _ => False
theorem Cx.Ok.wish {X : Cx} (ok : X.Ok) (E : Value → Shared → Prop) : (X.wish E).Ok :=
  ⟨ok.mod, ok.kind, ok.glob, ok.blt, ok.above, ok.inj, ok.has, ok.cab, ok.hd, ok.frames, ok.stk, ok.exf, ok.bs, ok.bsz, ok.noex, ok.exfs, ok.funs, ok.frf⟩
theorem Cx.Ok.unwish {X : Cx} {E : Value → Shared → Prop} (ok : (X.wish E).Ok) : X.Ok :=
  ⟨ok.mod, ok.kind, ok.glob, ok.blt, ok.above, ok.inj, ok.has, ok.cab, ok.hd, ok.frames, ok.stk, ok.exf, ok.bs, ok.bsz, ok.noex, ok.exfs, ok.funs, ok.frf⟩
section
variable {X : Cx} {pins : List (Addr × Obj)} {σ : St} {H : Hp} {s : Shared} {E : Value → Shared → Prop}
theorem Inv.wish (I : Inv X pins σ H s) (E : Value → Shared → Prop) : Inv (X.wish E) pins σ H s := ⟨I.ok.wish E, I.os, I.bare, I.base, I.loc, I.cell, I.free, I.freeC, I.pin, I.hok, I.len⟩
theorem Inv.unwish (I : Inv (X.wish E) pins σ H s) : Inv X pins σ H s := ⟨I.ok.unwish, I.os, I.bare, I.base, I.loc, I.cell, I.free, I.freeC, I.pin, I.hok, I.len⟩
theorem SP.unwish {D : Ends} {f : Flow} {s' : Shared} (h : SP (X.wish E) pins D f s') : SP X pins D f s' := by
  cases f with
  | next => obtain ⟨σ', H', I, q⟩ := h; exact ⟨σ', H', I.unwish, q⟩
  | brk => obtain ⟨σ', H', I, q⟩ := h; exact ⟨σ', H', I.unwish, q⟩
  | cont => obtain ⟨σ', H', I, q⟩ := h; exact ⟨σ', H', I.unwish, q⟩
  | ret u => obtain ⟨v, σ', H', I, r, q⟩ := h; exact ⟨v, σ', H', I.unwish, r, q⟩
theorem PSs.nox {st : List Stmt} {t : TS} (h : PSs X.nox st t) : PSs X st t := fun pins s σ H D I hw =>
  wpAny_mono (h pins s σ H D (I.wish _) hw) (fun _ _ q => q.unwish) fun _ _ z => False.elim z
end
section
variable {X : Cx} {st : Stmt} {rest : List Stmt} {t u : TS} {e : Expr} {te : TE} {pos : Pos}
def tNext : TS := fun D σ H => D.nx σ H
def tSeq (t u : TS) : TS := fun D σ H => t { D with nx := u D } σ H
theorem pss_nil : PSs X [] tNext := fun _ _ σ H _ I h => wpAny_execs_nil ⟨σ, H, I, h⟩
theorem pss_cons (h1 : PS X st t) (h2 : PSs X rest u) : PSs X (st :: rest) (tSeq t u) := by
  intro pins s σ H D I h
  refine wpAny_execs_cons (thn (h1 pins s σ H { D with nx := u D } I h) fun f s1 q => ?_)
  cases f with
  | next =>
    obtain ⟨σ', H', I', q⟩ := q
    exact h2 pins s1 σ' H' D I' q
  | ret v => exact q
  | brk => exact q
  | cont => exact q
theorem pss_one (h1 : PS X st t) : PSs X [st] t := by
  intro pins s σ H D I h
  refine wpAny_execs_cons (thn (h1 pins s σ H D I h) fun f s1 q => ?_)
  cases f with
  | next => exact wpAny_execs_nil q
  | ret v => exact q
  | brk => exact q
  | cont => exact q
theorem Inv.quiet {pins : List (Addr × Obj)} {σ : St} {H : Hp} {s : Shared} (I : Inv X pins σ H s) : interactive X.env = false := by simp [interactive, I.ok.kind]
def tDrop (te : TE) : TS := fun D σ H => te σ H fun _ H1 => D.nx σ H1
theorem ps_expr (he : PE X e te) (hs : swapsWith e none pos.line X.env = pure false := by rfl) : PS X (.Expr e pos) (tDrop te) := by
  intro pins s σ H D I h
  exact wpAny_Expr_any (thn (he pins s σ H _ I h) fun v s1 ⟨x, H1, I1, r1, q1⟩ => ⟨σ, H1, I1, q1⟩) I.quiet hs
def tRet (te : TE) : TS := fun D σ H => te σ H D.rt
theorem ps_ret (he : PE X e te) : PS X (.Return (some e) pos) (tRet te) := by
  intro pins s σ H D I h
  exact wpAny_Return_some (thn (he pins s σ H _ I h) fun v s1 ⟨x, H1, I1, r1, q1⟩ => ⟨x, σ, H1, I1, r1, q1⟩)
def tRetN : TS := fun D _ H => D.rt .non H
def tIfS (c : TT) (t u : TS) : TS := fun D σ H => c σ H fun b H1 => if b = true then t D σ H1 else u D σ H1
theorem ps_if {c : Expr} {a b : List Stmt} {tc : TT} (hc : PT X c tc) (ha : PSs X a t) (hb : PSs X b u) : PS X (.If c a b pos) (tIfS tc t u) := by
  intro pins s σ H D I h
  refine wpAny_If (thn (hc pins s σ H _ I h) fun d s1 ⟨H1, I1, q1⟩ => ?_)
  cases d with
  | true => exact ha pins s1 σ H1 D I1 q1
  | false => exact hb pins s1 σ H1 D I1 q1
end
abbrev TG := V → St → Hp → (St → Hp → Prop) → Prop
abbrev TGs := List V → St → Hp → (St → Hp → Prop) → Prop
def PG (X : Cx) (target : Expr) (t : TG) : Prop :=
  ∀ (pins : List (Addr × Obj)) (s : Shared) (σ : St) (H : Hp) (v : V) (u : Value) (Q : St → Hp → Prop), Inv X pins σ H s → RelV v u → t v σ H Q →
    wpAny (model X.prog X.w) X.A (assign target X.env u) (fun _ s' => ∃ σ' H', Inv X pins σ' H' s' ∧ Q σ' H') X.xe s
def PGs (X : Cx) (ts : List Expr) (t : TGs) : Prop :=
  ∀ (pins : List (Addr × Obj)) (s : Shared) (σ : St) (H : Hp) (vs : List V) (us : List Value) (Q : St → Hp → Prop), Inv X pins σ H s → Vals vs us → t vs σ H Q →
    wpAny (model X.prog X.w) X.A (assignInOrder ((assignEach ts X.env).map (·.2)) us) (fun _ s' => ∃ σ' H', Inv X pins σ' H' s' ∧ Q σ' H') X.xe s
abbrev TSet := V → V → V → Hp → (Hp → Prop) → Prop
def PSet (X : Cx) (t : TSet) : Prop :=
  ∀ (pins : List (Addr × Obj)) (s : Shared) (σ : St) (H : Hp) (o i v : V) (ov iv u : Value) (Q : Hp → Prop), Inv X pins σ H s → RelV o ov → RelV i iv → RelV v u → t o i v H Q →
    wpAny (model X.prog X.w) X.A (setItem ov iv u) (fun _ s' => ∃ H', Inv X pins σ H' s' ∧ Q H') X.xe s
section
variable {X : Cx} {pos : Pos}
def gName (i : Nat) : TG := fun v σ H Q => Q (σ.set i (some v)) H
theorem pg_name {i : Nat} {x : Str} (hN : X.N.Nodup) (hi : X.N[i]? = some x) (hx : Loc X.env.scope x) (hf : X.fn x = true ∨ X.env.scope.names.lookup x = some .local := by first | exact .inl rfl | exact .inr rfl | assumption) : PG X (.Name x pos) (gName i) := by
  intro pins s σ H v u Q I r h
  exact wpAny_assign_Name (store_ok I hN hi hx r (fun s' I' => ⟨_, H, I', h⟩) hf)
def gNil : TGs := fun vs σ H Q => vs = [] ∧ Q σ H
def gCons (t : TG) (u : TGs) : TGs := fun vs σ H Q => ∃ v r, vs = v :: r ∧ t v σ H fun σ' H' => u r σ' H' Q
theorem pgs_nil : PGs X [] gNil := by
  intro pins s σ H vs us Q I r h
  obtain ⟨e, h⟩ := h
  subst e
  cases r
  exact assignInOrder_nil ⟨σ, H, I, h⟩
theorem pgs_cons {e : Expr} {es : List Expr} {t : TG} {u : TGs} (h1 : PG X e t) (h2 : PGs X es u)
    (hs : (assignEach (e :: es) X.env).map (·.2) = assign e X.env :: (assignEach es X.env).map (·.2) := by rfl) : PGs X (e :: es) (gCons t u) := by
  intro pins s σ H vs us Q I r h
  obtain ⟨v, vr, e1, h⟩ := h
  subst e1
  cases r with
  | cons r rr =>
    rw [hs]
    refine assignInOrder_cons (thn (h1 pins s σ H _ _ _ I r h) fun _ s1 ⟨σ1, H1, I1, q1⟩ => ?_)
    exact h2 pins s1 σ1 H1 _ _ Q I1 rr q1
def gTup (K : PySem.W.Frag) (n : Nat) (t : TGs) : TG := fun v σ H Q => ∃ a xs, v = .ref a ∧ SqT K H a xs ∧ xs.length = n ∧ t xs σ H Q
theorem pg_tup {es : List Expr} {k : Nat} {t : TGs} {n : Nat} (hc : X.calm = true) (h : PGs X es t)
    (hn : (assignEach es X.env).length = n := by rfl) (hst : (assignEach es X.env).findIdx? (·.1) = none := by rfl) : PG X (.Tuple es k pos) (gTup X.K n t) := by
  intro pins s σ H v u Q I r hw
  obtain ⟨a, xs, e1, hq, hl, hw⟩ := hw
  subst e1
  cases r
  obtain ⟨its, rv, ht, hz⟩ := I.tuple hq
  refine assign_Tuple_tuple (I.ok.hd hc) ht (by simp [hn, ← hl, rv.length]) hst fun h' hx => ?_
  have I1 : Inv X pins σ H { s with heap := h' } := I.kept (t' := s.toks) fun b o e => hx b o (Nat.ne_of_lt (Heap.lt_size e)) e
  exact h pins _ σ H xs _ Q I1 (by simpa using rv) hw
def gSub (to ti : TE) (t : TSet) : TG := fun v σ H Q => to σ H fun o H1 => ti σ H1 fun i H2 => t o i v H2 fun H3 => Q σ H3
theorem pg_sub {o i : Expr} {to ti : TE} {t : TSet} (ho : PE X o to) (hi : PE X i ti) (hs : PSet X t)
    (ha : ∀ v, assign (.Subscript o i pos) X.env v = (do
      let ov ← holding [v] (eval o X.env)
      let iv ← holding [v, ov] (eval i X.env)
      standAt pos
      holding [v, ov, iv] (setItem ov iv v)
      release [v, ov, iv] []) := by intro _; rfl) : PG X (.Subscript o i pos) (gSub to ti t) := by
  intro pins s σ H v u Q I r h
  rw [ha]
  refine wpAny_bind (wpAny_holding (thn (ho pins s σ H _ I h) fun ov s1 ⟨x, H1, I1, r1, q1⟩ => ?_))
  refine wpAny_bind (wpAny_holding (thn (hi pins s1 σ H1 _ I1 q1) fun iv s2 ⟨y, H2, I2, r2, q2⟩ => ?_))
  refine wpAny_bind (wpAny_standAt (wpAny_bind (wpAny_holding (thn (hs pins s2 σ H2 x y v ov iv u _ I2 r1 r2 r q2) fun _ s3 ⟨H3, I3, q3⟩ => ?_))))
  exact wpAny_release ⟨σ, H3, I3, q3⟩
def tAsg (te : TE) (g : TG) : TS := fun D σ H => te σ H fun x H1 => g x σ H1 D.nx
theorem ps_asg {tg e : Expr} {te : TE} {g : TG} (he : PE X e te) (hg : PG X tg g) (hs : swapsWithSole [tg] e pos.line X.env = pure false := by rfl) (hw : swappedStores [tg] e X.env = pure none := by rfl)
    (h1 : (assignEach [tg] X.env).map (·.2) = [assign tg X.env] := by rfl) : PS X (.Assign [tg] e pos) (tAsg te g) := by
  intro pins s σ H D I h
  refine wpAny_Assign_stores (thn (he pins s σ H _ I h) fun v s1 ⟨x, H1, I1, r1, q1⟩ => ?_) hs hw
  rw [h1]
  exact thn (hg pins s1 σ H1 x v _ I1 r1 q1) fun _ s2 q => q
theorem ps_set {i : Nat} {x : Str} {e : Expr} {te : TE} {pos' : Pos} (hN : X.N.Nodup) (hi : X.N[i]? = some x) (hx : Loc X.env.scope x) (he : PE X e te) (hs : swapsWith e (some (.Name x pos')) pos.line X.env = pure false := by rfl) (hf : X.fn x = true ∨ X.env.scope.names.lookup x = some .local := by first | exact .inl rfl | exact .inr rfl | assumption) :
    PS X (.Assign [.Name x pos'] e pos) (tAsg te (gName i)) := by
  intro pins s σ H D I h
  refine wpAny_Assign_Name (thn (he pins s σ H _ I h) fun v s1 ⟨y, H1, I1, r1, q1⟩ => ?_) hs
  exact store_ok I1 hN hi hx r1 (fun s2 I2 => ⟨_, H1, I2, q1⟩) hf
def tPar (i j : Nat) (ta : TA) : TS := fun D σ H => ta σ H fun vs H1 => ∃ v w, vs = [v, w] ∧ D.nx ((σ.set i (some v)).set j (some w)) H1
theorem ps_par {i j : Nat} {x y : Str} {a b : Expr} {ta : TA} {px py pt : Pos} {kt k2 pt2} (hc : X.calm = true) (hN : X.N.Nodup) (hi : X.N[i]? = some x) (hj : X.N[j]? = some y) (hij : i ≠ j)
    (hx : X.env.scope.names.lookup x = some .local) (hy : X.env.scope.names.lookup y = some .local) (ha : PA X [a, b] ta)
    (hw : swappedStores [.Tuple [.Name x px, .Name y py] kt pt] (.Tuple [a, b] k2 pt2) X.env = pure (some [x, y]))
    (hs : swapsWithSole [.Tuple [.Name x px, .Name y py] kt pt] (.Tuple [a, b] k2 pt2) pos.line X.env = pure false := by rfl) :
    PS X (.Assign [.Tuple [.Name x px, .Name y py] kt pt] (.Tuple [a, b] k2 pt2) pos) (tPar i j ta) := by
  intro pins s σ H D I h
  rw [exec_Assign_arm]
  refine wpAny_bind (wpAny_standAt ?_)
  rw [hs]
  refine wpAny_bind (wpAny_pure ?_)
  rw [if_neg (by decide)]
  refine wpAny_bind (Tuple_ (thn (ha _ pins s σ H _ I h) fun us s1 ⟨vs, H1, I1, r1, q1⟩ => ?_))
  obtain ⟨v, w, e1, q1⟩ := q1
  subst e1
  obtain ⟨u1, u2, rfl, rv, rw'⟩ : ∃ u1 u2, us = [u1, u2] ∧ RelV v u1 ∧ RelV w u2 := by
    cases r1 with
    | cons p q =>
      cases q with
      | cons p' q' =>
        cases q'
        exact ⟨_, _, rfl, p, p'⟩
  refine wpAny_newObj_type ?_ (by show 2 ≤ sizeLine; decide)
  have I2 : Inv X pins σ H1 { s1 with heap := s1.heap.push { cls := .type "tuple", data := .seq [u1, u2].toArray } } := I1.kept (t' := s1.toks) fun b o e => Heap.get?_push_of_some _ e
  rw [hw]
  refine wpAny_bind (wpAny_pure ?_)
  show wpAny (model X.prog X.w) X.A (do rule "assign.swapped-stores"; let items ← unpackItems (.ref s1.heap.objs.size) 2 none; assignInOrder [fun v => bindName X.env y v, fun v => bindName X.env x v] items.reverse; pure Flow.next) _ _ _
  refine wpAny_bind (wpAny_rule (wpAny_bind (unpackItems_tuple (items := #[u1, u2]) (I.ok.hd hc) (IsTup.new s1.heap _) fun h' hx' => ?_)))
  have I3 := I2.kept (h' := h') (t' := s1.toks) fun b o e => hx' b o (Nat.ne_of_lt (Heap.lt_size e)) e
  show wpAny _ _ (assignInOrder [fun v => bindName X.env y v, fun v => bindName X.env x v] [u2, u1] >>= fun _ => pure Flow.next) _ _ _
  refine wpAny_bind (assignInOrder_cons (wpAny_bindName (store_ok I3 hN hj (.inl hy) rw' (fun s2 I4 => ?_) (.inr hy))))
  refine assignInOrder_cons (wpAny_bindName (store_ok I4 hN hi (.inl hx) rv (fun s3 I5 => assignInOrder_nil (wpAny_pure ?_)) (.inr hx)))
  rw [List.set_comm _ _ (Ne.symm hij)] at I5
  exact ⟨_, H1, I5, q1⟩
end
structure It where
  go : Nat → Hp → Prop
  yld : Nat → Hp → V → Hp → Prop
  stop : Nat → Hp → Prop
def FpOk (X : Cx) (pins : List (Addr × Obj)) (H : Hp) (b : Addr) : Prop :=
  H b = none ∧ b ≠ X.env.locals ∧ b ∉ X.fs ∧ (b ∈ X.ex ∨ X.s₀.heap.objs.size ≤ b) ∧ (∀ x c, X.env.cells.lookup x = some c → c ≠ b) ∧ ∀ p ∈ X.pn ++ pins, p.1 ≠ b
theorem Inv.fpOk {X : Cx} {pins : List (Addr × Obj)} {σ : St} {H H' : Hp} {s : Shared} {b : Addr} (I : Inv X pins σ H s) (hb : s.heap.objs.size ≤ b) (hn : H' b = none) : FpOk X pins H' b := by
  refine ⟨hn, Nat.ne_of_gt (Nat.lt_of_lt_of_le I.lt hb), I.nofs hb, .inr (Nat.le_trans I.sz hb), fun x c e z => ?_, fun p hp z => ?_⟩
  · obtain ⟨v, q⟩ := I.cell x c e
    exact absurd (Nat.lt_of_lt_of_le q.lt (by rw [z]; exact hb)) (Nat.lt_irrefl _)
  · exact absurd (Nat.lt_of_lt_of_le (Heap.lt_size (I.pin p hp).1) (by rw [z]; exact hb)) (Nat.lt_irrefl _)
structure Turn (P : Program) (w : World) (K : PySem.W.Frag) (tg : Expr) (J : It) (fp : List Addr) (it : Addr) (tn : Nat → Heap → Prop) : Prop where
  mem : it ∈ fp
  obj : ∀ i h, tn i h → ∀ b ∈ fp, ∃ o, h.get? b = some o ∧ ∀ v, o.data ≠ .cell v
  keep : ∀ i h h', tn i h → (∀ b ∈ fp, ∀ o, h.get? b = some o → h'.get? b = some o) → tn i h'
  item : ∀ (X : Cx), X.prog = P → X.w = w → X.K = K → X.calm = true → ∀ (i : Nat) (pins : List (Addr × Obj)) (s : Shared) (σ : St) (H : Hp) (E : Value → Shared → Prop), Inv X pins σ H s → (∀ b ∈ fp, FpOk X pins H b) → tn i s.heap → J.go i H →
    wpAny (model P w) X.A (pyNext (.ref it)) (fun r s1 => ∃ u, r = some u ∧
      wpAny (model P w) X.A (letOwnedTupleGo tg (.ref it) u) (fun _ s2 => ∃ x H', Inv X pins σ H' s2 ∧ RelV x u ∧ J.yld i H x H' ∧ tn (i + 1) s2.heap ∧ ∀ b ∈ fp, H' b = none) E s1) E s
  done : ∀ (X : Cx), X.prog = P → X.w = w → X.K = K → X.calm = true → ∀ (i : Nat) (pins : List (Addr × Obj)) (s : Shared) (σ : St) (H : Hp) (E : Value → Shared → Prop), Inv X pins σ H s → (∀ b ∈ fp, FpOk X pins H b) → tn i s.heap → J.stop i H →
    wpAny (model P w) X.A (pyNext (.ref it)) (fun r s1 => r = none ∧ Inv X pins σ H s1) E s
  self : ∀ (A : Around) (i : Nat) (s : Shared) (Q : Value → Shared → Prop) (E : Value → Shared → Prop), tn i s.heap → Q (.ref it) s → wpAny (model P w) A (pyIter (.ref it)) Q E s
abbrev TI := St → Hp → (It → Hp → Prop) → Prop
def PIE (X : Cx) (pins : List (Addr × Obj)) (σ : St) (tg : Expr) (R : It → Hp → Prop) (itv : Value) (s2 : Shared) : Prop :=
  ∃ (it : Addr) (fp : List Addr) (tn : Nat → Heap → Prop) (J : It) (H' : Hp), itv = .ref it ∧ Inv X pins σ H' s2 ∧ Turn X.prog X.w X.K tg J fp it tn ∧ tn 0 s2.heap ∧ (∀ b ∈ fp, FpOk X pins H' b) ∧ R J H'
def PI (X : Cx) (tg iter : Expr) (wi : TI) : Prop :=
  ∀ (pins : List (Addr × Obj)) (s : Shared) (σ : St) (H : Hp) (R : It → Hp → Prop), Inv X pins σ H s → wi σ H R →
    wpAny (model X.prog X.w) X.A (eval iter X.env) (fun v s1 => wpAny (model X.prog X.w) X.A (pyIter v) (PIE X pins σ tg R) X.xe s1) X.xe s
theorem go_of {M : Model} {A : Around} {E : Value → Shared → Prop} {s : Shared} {tg : Expr} {it : Addr} {u : Value} {o : Obj} {n : String} {vs : Array Value} {Q : Unit → Shared → Prop} (ho : s.heap.get? it = some o) (hc : o.cls = .type n) (hd : o.data = .fields vs)
    (hn : ["enumerate", "zip", "dict_itemiterator", "dict_reverseitemiterator", "odict_iterator", "itertools.zip_longest", "itertools.pairwise"].contains n = false) (hQ : Q () s) : wpAny M A (letOwnedTupleGo tg (.ref it) u) Q E s := by
  unfold letOwnedTupleGo
  cases tg <;> first
    | exact wpAny_pure hQ
    | (cases u <;> first
        | exact wpAny_pure hQ
        | (refine wpAny_bind (wpAny_load ho ?_)
           rw [hc, hd]
           show wpAny M A (if (["enumerate", "zip", "dict_itemiterator", "dict_reverseitemiterator", "odict_iterator", "itertools.zip_longest", "itertools.pairwise"].contains n && vs[0]? == some (rawInt _)) = true then _ else _) Q E s
           rw [if_neg (by intro h; rw [hn, Bool.false_and] at h; cases h)]
           exact wpAny_pure hQ))
def Itl (K : PySem.W.Frag) (a : Addr) : It :=
  ⟨fun i H => ∃ xs x, SqL K H a xs ∧ xs[i]? = some x, fun i H x H' => H' = H ∧ ∀ xs, SqL K H a xs → xs[i]? = some x, fun i H => ∃ xs, SqL K H a xs ∧ xs.length ≤ i⟩
def Itr (lo : Int) (n : Nat) : It := ⟨fun i _ => i < n, fun i H x H' => H' = H ∧ x = .int (lo + i), fun i _ => n ≤ i⟩
theorem turn_list {P : Program} {w : World} {K : PySem.W.Frag} {tg : Expr} (a it : Addr) : Turn P w K tg (Itl K a) [it] it (fun i h => h.IsListIter it a i) where
  mem := by simp
  obj := fun i h st b hb => by
    have e : b = it := by simpa using hb
    subst e
    obtain ⟨o, e, c, d⟩ := st
    exact ⟨o, e, fun v z => by rw [d] at z; cases z⟩
  keep := fun i h h' st k => st.at fun o e => k it (by simp) o e
  item := by
    intro X hP hw hK hc i pins s σ H E I hf st hg
    subst hP hw hK
    obtain ⟨xs, x, hq, hx⟩ := hg
    obtain ⟨its, rv, p, hz⟩ := I.list hq
    obtain ⟨u, hu, ru⟩ := rv.get hx
    obtain ⟨f0, f1, f2, f3, f4, f5⟩ := hf it (by simp)
    refine wpAny_pyNext_list_item st p.isList (x := u) (by simpa using hu) fun h' st' sb => ?_
    have I1 : Inv X pins σ H { s with heap := h' } := I.turned (t' := s.toks) (fun b o hb e => (sb.2 b hb).trans e) f0 f1 f3 f4 f5
    obtain ⟨o, e, c, d⟩ := id st'
    exact ⟨u, rfl, go_of (s := { s with heap := h' }) e c d (by decide) ⟨x, H, I1, ru, ⟨rfl, fun ys hy => by rw [I.list_inj hy hq]; exact hx⟩, st', fun b hb => (hf b hb).1⟩⟩
  done := by
    intro X hP hw hK hc i pins s σ H E I hf st hg
    subst hP hw hK
    obtain ⟨xs, hq, hx⟩ := hg
    obtain ⟨its, rv, p, hz⟩ := I.list hq
    obtain ⟨f0, f1, f2, f3, f4, f5⟩ := hf it (by simp)
    have hl := rv.length
    exact wpAny_pyNext_list_end (I.ok.hd hc) st p.isList (by simp; omega) fun h' eb => ⟨rfl, I.turned (t' := s.toks) (fun b o hb e => eb b o hb e) f0 f1 f3 f4 f5⟩
  self := fun _ _ _ _ _ st h => wpAny_pyIter_listiter st h
theorem turn_range {P : Program} {w : World} {K : PySem.W.Frag} {tg : Expr} (it : Addr) (lo : Int) (n : Nat) : Turn P w K tg (Itr lo n) [it] it (fun i h => IsRangeIter h it (lo + (i : Nat) * 1) ((n : Int) - (i : Nat)) 1) where
  mem := by simp
  obj := fun i h st b hb => by
    have e : b = it := by simpa using hb
    subst e
    exact ⟨_, st, fun v z => by
      have z' : Data.fields _ = Data.cell v := z
      cases z'⟩
  keep := fun i h h' st k => k it (by simp) _ st
  item := by
    intro X hP hw hK hc i pins s σ H E I hf st hg
    subst hP hw hK
    obtain ⟨f0, f1, f2, f3, f4, f5⟩ := hf it (by simp)
    have W := Walks.range (prog := X.prog) (w := X.w) (I.ok.hd hc) it lo 1 n
    refine W.item i s _ _ hg st fun v h' tk hv st' kk => ?_
    obtain ⟨t, rfl⟩ := hv
    have I1 : Inv X pins σ H { s with heap := h', toks := tk } := I.turned (fun b o hb e => kk b o (by simpa using hb) e) f0 f1 f3 f4 f5
    refine ⟨_, rfl, go_of (s := { s with heap := h', toks := tk }) (n := "range_iterator") st' rfl rfl (by decide) ⟨.int (lo + i), H, I1, ⟨t, ?_⟩, ⟨rfl, rfl⟩, st', fun b hb => (hf b hb).1⟩⟩
    rw [Int.mul_one]
  done := by
    intro X hP hw hK hc i pins s σ H E I hf st hg
    subst hP hw hK
    obtain ⟨f0, f1, f2, f3, f4, f5⟩ := hf it (by simp)
    exact wpAny_pyNext_range_end (I.ok.hd hc) st (by have : n ≤ i := hg; omega) fun h' eb => ⟨rfl, I.turned (t' := s.toks) (fun b o hb e => eb b o hb e) f0 f1 f3 f4 f5⟩
  self := fun _ _ _ _ _ st h => wpAny_pyIter_rangeiter st h
end L2
namespace L2
open PySem PySem.Spec PyProof.Rows
section
variable {X : Cx} {tg : Expr}
def iList (K : PySem.W.Frag) (tl : TE) : TI := fun σ H R => tl σ H fun x H1 => ∃ a, x = .ref a ∧ (∃ xs, SqL K H1 a xs) ∧ R (Itl K a) H1
theorem pi_list {l : Expr} {tl : TE} (hl : PE X l tl) : PI X tg l (iList X.K tl) := by
  intro pins s σ H R I h
  refine thn (hl pins s σ H _ I h) fun v s1 ⟨x, H1, I1, r1, q1⟩ => ?_
  obtain ⟨a, e, ⟨xs, hq⟩, q⟩ := q1
  subst e
  cases r1
  obtain ⟨its, rv, p, hz⟩ := I1.list hq
  refine wpAny_pyIter_list p.isList ?_
  refine ⟨s1.heap.objs.size, [s1.heap.objs.size], _, _, H1, rfl, I1.kept (t' := s1.toks) fun b o e => Heap.get?_push_of_some _ e, turn_list a _, ⟨_, Heap.get?_push_size _ rfl, rfl, rfl⟩, fun b hb => ?_, q⟩
  have e : b = s1.heap.objs.size := by simpa using hb
  subst e
  exact I1.fpOk (Nat.le_refl _) (I1.hok.fresh (Nat.le_refl _))
theorem range_it {pins : List (Addr × Obj)} {σ : St} {H : Hp} {s : Shared} {R : It → Hp → Prop} {E : Value → Shared → Prop} {lo hi : Int} {t u v : Tok} {tk : Nat} (I : Inv X pins σ H s) (h1 : -(2 ^ 62) ≤ lo) (h2 : lo < 2 ^ 62) (h3 : -(2 ^ 62) ≤ hi) (h4 : hi < 2 ^ 62)
    (q : R (Itr lo (hi - lo).toNat) H) : wpAny (model X.prog X.w) X.A (pyIter (.ref s.heap.objs.size)) (PIE X pins σ tg R) E { s with heap := s.heap.push { cls := .type "range", data := .fields #[.int lo t, .int hi u, .int 1 v] }, toks := tk } := by
  refine wpAny_pyIter_range (IsRange.new ..) (small_one h1 h2 h3 h4) ?_
  have I1 : Inv X pins σ H { s with heap := s.heap.push { cls := .type "range", data := .fields #[.int lo t, .int hi u, .int 1 v] }, toks := tk } := I.kept fun b o e => Heap.get?_push_of_some _ e
  refine ⟨(s.heap.push { cls := .type "range", data := .fields #[.int lo t, .int hi u, .int 1 v] }).objs.size, [(s.heap.push { cls := .type "range", data := .fields #[.int lo t, .int hi u, .int 1 v] }).objs.size], _, _, H, rfl,
    I1.kept (t' := tk) fun b o e => Heap.get?_push_of_some _ e, turn_range _ lo (hi - lo).toNat, ?_, fun b hb => ?_, q⟩
  · have e1 : lo + ((0 : Nat) : Int) * 1 = lo := by simp
    have e2 : (((hi - lo).toNat : Nat) : Int) - ((0 : Nat) : Int) = Builtin.Range.rangeSize lo hi 1 := by rw [rangeSize_one]; split <;> omega
    show IsRangeIter _ _ (lo + ((0 : Nat) : Int) * 1) ((((hi - lo).toNat : Nat) : Int) - ((0 : Nat) : Int)) 1
    rw [e1, e2]
    exact Heap.get?_push_size _ rfl
  · have e : b = (s.heap.push { cls := .type "range", data := .fields #[.int lo t, .int hi u, .int 1 v] }).objs.size := by simpa using hb
    subst e
    exact I1.fpOk (Nat.le_refl _) (I1.hok.fresh (Nat.le_refl _))
def iRng1 (ta : TA) : TI := fun σ H R => ta σ H fun vs H1 => ∃ j : Int, vs = [.int j] ∧ -(2 ^ 62) ≤ j ∧ j < 2 ^ 62 ∧ R (Itr 0 j.toNat) H1
def iRng2 (ta : TA) : TI := fun σ H R => ta σ H fun vs H1 => ∃ i j : Int, vs = [.int i, .int j] ∧ (-(2 ^ 62) ≤ i ∧ i < 2 ^ 62 ∧ -(2 ^ 62) ≤ j ∧ j < 2 ^ 62) ∧ R (Itr i (j - i).toNat) H1
theorem pi_range1 {a : Expr} {ta : TA} {p pos : Pos} (hg : Gl X "range") (hm : X.mg "range" = none) (ha : PA X [a] ta) (hs : starEach [a] X.env = [(false, eval a X.env)] := by rfl) : PI X tg (.Call (.Name "range" p) [a] [] pos) (iRng1 ta) := by
  intro pins s σ H R I h
  refine Call_ (ld_blt I hg hm boot_range (PyProof.Rows.callWith_type1 (thn (ha pos pins s σ H _ I h) fun us s1 ⟨vs, H1, I1, r1, q1⟩ => ?_) hs rfl))
  obtain ⟨j, e, q1, q2, q⟩ := q1
  subst e
  cases r1 with
  | cons r rr =>
    cases rr
    obtain ⟨t, rfl⟩ := r
    exact call_range_1 (range_it I1 (by omega) (by omega) q1 q2 (by simpa using q))
def tFor (wi : TI) (g : TG) (tb : TS) : TS := fun D σ H => wi σ H fun J H1 => ∃ W : Nat → Nat → St → Hp → Prop, (∃ m, W 0 m σ H1) ∧ ∀ i m σ H, W i m σ H →
  (J.stop i H ∧ D.nx σ H) ∨ (J.go i H ∧ ∃ N : St → Hp → Prop, (∀ σ' H', N σ' H' → ∃ m', m' < m ∧ W (i + 1) m' σ' H') ∧ ∀ x H', J.yld i H x H' → g x σ H' fun σ2 H2 => tb { D with nx := N, ct := N, bk := D.nx } σ2 H2)
def pinsAt (fp : List Addr) (h : Heap) : List (Addr × Obj) := fp.filterMap fun b => (h.get? b).map fun o => (b, o)
theorem mem_pinsAt {fp : List Addr} {h : Heap} {b : Addr} {o : Obj} (hb : b ∈ fp) (e : h.get? b = some o) : (b, o) ∈ pinsAt fp h := List.mem_filterMap.mpr ⟨b, hb, by rw [e]; rfl⟩
theorem of_pinsAt {fp : List Addr} {h : Heap} {p : Addr × Obj} (hp : p ∈ pinsAt fp h) : p.1 ∈ fp ∧ h.get? p.1 = some p.2 := by
  obtain ⟨b, hb, e⟩ := List.mem_filterMap.mp hp
  cases q : h.get? b with
  | none => rw [q] at e; cases e
  | some o =>
    rw [q] at e
    have e' : (b, o) = p := Option.some.inj e
    subst e'
    exact ⟨hb, q⟩
theorem Inv.pinned {pins : List (Addr × Obj)} {σ : St} {H : Hp} {s : Shared} {fp : List Addr} (I : Inv X pins σ H s) (hf : ∀ b ∈ fp, FpOk X pins H b) (ho : ∀ b ∈ fp, ∃ o, s.heap.get? b = some o ∧ ∀ v, o.data ≠ .cell v) : Inv X (pins ++ pinsAt fp s.heap) σ H s :=
  I.pins_of fun p hp => (List.mem_append.mp hp).elim (fun z => I.pin p (List.mem_append_right _ z)) fun z => by
    obtain ⟨hb, e⟩ := of_pinsAt z
    obtain ⟨f0, f1, f2, _⟩ := hf p.1 hb
    obtain ⟨o, e', d⟩ := ho p.1 hb
    rw [e] at e'; cases e'
    exact ⟨e, f0, f1, f2, d⟩
theorem Inv.unpinned {pins pl : List (Addr × Obj)} {σ : St} {H : Hp} {s : Shared} (I : Inv X (pins ++ pl) σ H s) : Inv X pins σ H s := I.pins_of fun p hp => I.pin p (List.mem_append_right _ (List.mem_append_left _ hp))
theorem ps_for {iter : Expr} {body : List Stmt} {wi : TI} {g : TG} {tb : TS} {pos : Pos} (hp : PassesOwn (model X.prog X.w) X.A X.env X.xe) (hc : X.calm = true) (hi : PI X tg iter wi) (hg : PG X tg g) (hb : PSs X body tb)
    (hs : ∀ x, foldedSetIterable iter X.env x = pure x := by intro _; rfl) : PS X (.For tg iter body [] pos) (tFor wi g tb) := by
  intro pins s σ H D I h
  refine wpAny_For (thn (hi pins s σ H _ I h) fun v s1 h1 => thn h1 fun itv s2 h2 => ?_) hs
  obtain ⟨it, fp, tn, J, H2, e, I2, T, st2, f2, W, ⟨m0, w0⟩, turn⟩ := h2
  subst e
  -- what stays true of the iterator's objects through the loop
  have stat : ∀ {H' : Hp}, (∀ b ∈ fp, H' b = none) → ∀ b ∈ fp, FpOk X pins H' b := fun hn b hb => ⟨hn b hb, (f2 b hb).2⟩
  refine codeAny_forLoop_any (fun n s' => ∃ i σ' H', Inv X pins σ' H' s' ∧ tn i s'.heap ∧ (∀ b ∈ fp, H' b = none) ∧ W i n σ' H') ?_ m0 ⟨0, σ, H2, I2, st2, fun b hb => (f2 b hb).1, w0⟩
  rintro n s3 ⟨i, σ3, H3, I3, st3, fr3, w3⟩
  rcases turn i n σ3 H3 w3 with ⟨stop, qn⟩ | ⟨go, N, hN, step⟩
  · refine wpAny_passesOwn hp (thn (T.done X rfl rfl rfl hc i pins s3 σ3 H3 X.xe I3 (stat fr3) st3 stop) fun r s4 ⟨hr, I4⟩ => ?_)
    subst hr
    exact wpAny_execs_nil ⟨σ3, H3, I4, qn⟩
  · refine wpAny_passesOwn hp (thn (T.item X rfl rfl rfl hc i pins s3 σ3 H3 X.xe I3 (stat fr3) st3 go) fun r s4 ⟨u, hr, h4⟩ => ?_)
    subst hr
    refine wpAny_passesOwn hp (thn h4 fun _ s5 ⟨x, H5, I5, r5, y5, st5, fr5⟩ => ?_)
    have I5' := I5.pinned (stat fr5) (T.obj _ _ st5)
    refine wpAny_passesOwn hp (thn (hg _ s5 σ3 H5 x u _ I5' r5 (step x H5 y5)) fun _ s6 ⟨σ6, H6, I6, q6⟩ => ?_)
    refine wpAny_passesOwn hp (thn (hb _ s6 σ6 H6 _ I6 q6) fun f s7 q7 => ?_)
    have again : ∀ {σ7 : St} {H7 : Hp}, Inv X (pins ++ pinsAt fp s5.heap) σ7 H7 s7 → N σ7 H7 → ∃ m, m < n ∧ ∃ i σ' H', Inv X pins σ' H' s7 ∧ tn i s7.heap ∧ (∀ b ∈ fp, H' b = none) ∧ W i m σ' H' := fun {σ7 H7} I7 n7 => by
      obtain ⟨m', hm, w7⟩ := hN σ7 H7 n7
      refine ⟨m', hm, i + 1, σ7, H7, I7.unpinned, T.keep _ _ _ st5 fun b hb o e => (I7.pin (b, o) (List.mem_append_right _ (List.mem_append_right _ (mem_pinsAt hb e)))).1, fun b hb => ?_, w7⟩
      obtain ⟨o, e, d⟩ := T.obj _ _ st5 b hb
      exact (I7.pin (b, o) (List.mem_append_right _ (List.mem_append_right _ (mem_pinsAt hb e)))).2.1
    cases f with
    | next => obtain ⟨σ7, H7, I7, n7⟩ := q7; exact again I7 n7
    | cont => obtain ⟨σ7, H7, I7, n7⟩ := q7; exact again I7 n7
    | brk => obtain ⟨σ7, H7, I7, q7⟩ := q7; exact ⟨σ7, H7, I7.unpinned, q7⟩
    | ret v => obtain ⟨x7, σ7, H7, I7, r7, q7⟩ := q7; exact ⟨x7, σ7, H7, I7.unpinned, r7, q7⟩
end
theorem for_range {lo : Int} {n : Nat} {g : TG} {tb : TS} {D : Ends} {σ : St} {H : Hp} (Pv : Nat → St → Hp → Prop) (h0 : Pv 0 σ H)
    (hs : ∀ i σ H, i < n → Pv i σ H → g (.int (lo + i)) σ H fun σ2 H2 => tb { D with nx := Pv (i + 1), ct := Pv (i + 1), bk := D.nx } σ2 H2) (hd : ∀ σ H, Pv n σ H → D.nx σ H) :
    ∃ W : Nat → Nat → St → Hp → Prop, (∃ m, W 0 m σ H) ∧ ∀ i m σ H, W i m σ H →
      ((Itr lo n).stop i H ∧ D.nx σ H) ∨ ((Itr lo n).go i H ∧ ∃ N : St → Hp → Prop, (∀ σ' H', N σ' H' → ∃ m', m' < m ∧ W (i + 1) m' σ' H') ∧ ∀ x H', (Itr lo n).yld i H x H' → g x σ H' fun σ2 H2 => tb { D with nx := N, ct := N, bk := D.nx } σ2 H2) := by
  refine ⟨fun i m σ H => m = n - i ∧ i ≤ n ∧ Pv i σ H, ⟨n, by simp, Nat.zero_le _, h0⟩, ?_⟩
  rintro i m σ H ⟨rfl, hi, p⟩
  by_cases hlt : i < n
  · refine .inr ⟨hlt, Pv (i + 1), fun σ' H' p' => ⟨n - (i + 1), by omega, rfl, hlt, p'⟩, fun x H' y => ?_⟩
    obtain ⟨e, y⟩ := y
    subst e y
    exact hs i σ _ hlt p
  · have e : i = n := by omega
    subst e
    exact .inl ⟨Nat.le_refl _, hd σ H p⟩
end L2
namespace L2
open PySem PySem.Spec PyProof.Rows
abbrev R2 := V → V → Hp → VK → Prop
def OpR (X : Cx) (f : Value → Value → Sem Value) (r : R2) : Prop :=
  ∀ (pins : List (Addr × Obj)) (s : Shared) (σ : St) (H : Hp) (x y : V) (v u : Value) (Q : VK), Inv X pins σ H s → RelV x v → RelV y u → r x y H Q →
    wpAny (model X.prog X.w) X.A (f v u) (EP X pins σ Q) X.xe s
def UnR (X : Cx) (f : Value → Sem Value) (r : V → Hp → VK → Prop) : Prop :=
  ∀ (pins : List (Addr × Obj)) (s : Shared) (σ : St) (H : Hp) (x : V) (v : Value) (Q : VK), Inv X pins σ H s → RelV x v → r x H Q →
    wpAny (model X.prog X.w) X.A (f v) (EP X pins σ Q) X.xe s
def CallR (X : Cx) (f : Value) (r : List V → Hp → VK → Prop) : Prop :=
  ∀ (pins : List (Addr × Obj)) (s : Shared) (σ : St) (H : Hp) (xs : List V) (us : List Value) (Q : VK), Inv X pins σ H s → Vals xs us → r xs H Q →
    wpAny (model X.prog X.w) X.A (call f us) (EP X pins σ Q) X.xe s
def tOp (r : R2) (ta tb : TE) : TE := fun σ H Q => ta σ H fun x H1 => tb σ H1 fun y H2 => r x y H2 Q
def tUn (r : V → Hp → VK → Prop) (ta : TE) : TE := fun σ H Q => ta σ H fun x H1 => r x H1 Q
def rI (C : Int → Int → Prop) (g : Int → Int → V) : R2 := fun x y H Q => ∃ i j, x = .int i ∧ y = .int j ∧ C i j ∧ Q (g i j) H
def rI0 (g : Int → Int → V) : R2 := fun x y H Q => ∃ i j, x = .int i ∧ y = .int j ∧ Q (g i j) H
def rU (g : Int → V) : V → Hp → VK → Prop := fun x H Q => ∃ i, x = .int i ∧ Q (g i) H
section
variable {X : Cx} {a b c : Expr} {ta tb tc : TE} {pos : Pos}
theorem binT (ha : PE X a ta) (hb : PE X b tb) {pins : List (Addr × Obj)} {s : Shared} {σ : St} {H : Hp} {R : V → V → Hp → Prop} (I : Inv X pins σ H s)
    (h : ta σ H fun x H1 => tb σ H1 fun y H2 => R x y H2) {Q : Value → Shared → Prop} {f : Value → Value → Sem Value}
    (hf : ∀ v u s2 x y H2, Inv X pins σ H2 s2 → RelV x v → RelV y u → R x y H2 → wpAny (model X.prog X.w) X.A (f v u) Q X.xe s2) :
    wpAny (model X.prog X.w) X.A (eval a X.env) (fun v s₁ => wpAny (model X.prog X.w) X.A (eval b X.env) (fun u s₂ => wpAny (model X.prog X.w) X.A (f v u) Q X.xe s₂) X.xe s₁) X.xe s := by
  refine thn (ha pins s σ H _ I h) fun v s1 ⟨x, H1, I1, r1, q1⟩ => ?_
  refine thn (hb pins s1 σ H1 _ I1 q1) fun u s2 ⟨y, H2, I2, r2, q2⟩ => ?_
  exact hf v u s2 x y H2 I2 r1 r2 q2
theorem pe_op {op : Operator} {r : R2} (ho : OpR X (binaryOp op) r) (ha : PE X a ta) (hb : PE X b tb) : PE X (.BinOp a op b pos) (tOp r ta tb) := by
  intro pins s σ H Q I h
  exact wpAny_BinOp (binT ha hb I h fun v u s2 x y H2 I2 rx ry q => ho pins s2 σ H2 x y v u Q I2 rx ry q)
theorem pe_un {op : UnaryOp} {r : V → Hp → VK → Prop} (ho : UnR X (unaryOp op) r) (ha : PE X a ta) : PE X (.UnaryOp op a pos) (tUn r ta) := by
  intro pins s σ H Q I h
  exact UnaryOp_ (thn (ha pins s σ H _ I h) fun v s1 ⟨x, H1, I1, r1, q1⟩ => ho pins s1 σ H1 x v Q I1 r1 q1)
theorem opI {f : Value → Value → Sem Value} {C : Int → Int → Prop} {g : Int → Int → Int}
    (rule : ∀ (i j : Int) (t u : Tok) (s : Shared) (Q : Value → Shared → Prop) (E : Value → Shared → Prop), C i j → Q (.int (g i j) s.toks) { s with toks := s.toks + 1 } → wpAny (model X.prog X.w) X.A (f (.int i t) (.int j u)) Q E s) :
    OpR X f (rI C fun i j => .int (g i j)) := by
  intro pins s σ H x y v u Q I rx ry h
  obtain ⟨i, j, rfl, rfl, hc, q⟩ := h
  obtain ⟨t, rfl⟩ := rx
  obtain ⟨t', rfl⟩ := ry
  exact rule i j t t' s _ _ hc ⟨.int (g i j), H, I.tok _, ⟨_, rfl⟩, q⟩
theorem opI0 {f : Value → Value → Sem Value} {g : Int → Int → Int}
    (rule : ∀ (i j : Int) (t u : Tok) (s : Shared) (Q : Value → Shared → Prop) (E : Value → Shared → Prop), Q (.int (g i j) s.toks) { s with toks := s.toks + 1 } → wpAny (model X.prog X.w) X.A (f (.int i t) (.int j u)) Q E s) :
    OpR X f (rI0 fun i j => .int (g i j)) := by
  intro pins s σ H x y v u Q I rx ry h
  obtain ⟨i, j, rfl, rfl, q⟩ := h
  obtain ⟨t, rfl⟩ := rx
  obtain ⟨t', rfl⟩ := ry
  exact rule i j t t' s _ _ ⟨.int (g i j), H, I.tok _, ⟨_, rfl⟩, q⟩
theorem opB0 {f : Value → Value → Sem Value} {g : Int → Int → Bool}
    (rule : ∀ (i j : Int) (t u : Tok) (s : Shared) (Q : Value → Shared → Prop) (E : Value → Shared → Prop), Q (.bool (g i j)) s → wpAny (model X.prog X.w) X.A (f (.int i t) (.int j u)) Q E s) :
    OpR X f (rI0 fun i j => .bl (g i j)) := by
  intro pins s σ H x y v u Q I rx ry h
  obtain ⟨i, j, rfl, rfl, q⟩ := h
  obtain ⟨t, rfl⟩ := rx
  obtain ⟨t', rfl⟩ := ry
  exact rule i j t t' s _ _ ⟨.bl (g i j), H, I, rfl, q⟩
def CDiv (i j : Int) : Prop := 0 < j ∧ j < 1073741824
def CPow (i j : Int) : Prop := 0 ≤ j ∧ j ≤ 1000000 ∧ i.natAbs < 2 ^ 64
def CMul (i j : Int) : Prop := (-(2 ^ 64) < i ∧ i < 2 ^ 64) ∨ (-(2 ^ 64) < j ∧ j < 2 ^ 64)
theorem CMul.ok {i j : Int} (h : CMul i j) : IntMulOk i j := by
  rcases h with ⟨h1, h2⟩ | ⟨h1, h2⟩
  · exact .of_left (intBits_le_64 h1 h2)
  · exact .of_right (intBits_le_64 h1 h2)
theorem op_add : OpR X (binaryOp .Add) (rI0 fun i j => .int (i + j)) := opI0 fun _ _ _ _ _ _ _ q => add_int q
theorem op_sub : OpR X (binaryOp .Sub) (rI0 fun i j => .int (i - j)) := opI0 fun _ _ _ _ _ _ _ q => sub_int q
theorem op_mul : OpR X (binaryOp .Mult) (rI CMul fun i j => .int (i * j)) := opI fun _ _ _ _ _ _ _ hc q => mul_int q hc.ok
theorem op_fdiv : OpR X (binaryOp .FloorDiv) (rI CDiv fun i j => .int (i / j)) := opI fun i j _ _ _ _ _ hc q => by
  have h1 : (0 : Int) < j := hc.1
  have h2 : j < 1073741824 := hc.2
  exact floordiv_int (by omega) (by rw [Int.fdiv_eq_ediv_of_nonneg i (by omega)]; exact q) (.inl (PyProof.noPylong_small (by omega)))
theorem op_mod : OpR X (binaryOp .Mod) (rI (fun _ j => 0 < j) fun i j => .int (i % j)) := opI fun i j _ _ _ _ _ hc q => by
  have h1 : (0 : Int) < j := hc
  exact mod_int' (by omega) (by rw [Int.fmod_eq_emod_of_nonneg i (by omega)]; exact q)
theorem op_pow : OpR X (binaryOp .Pow) (rI CPow fun i j => .int (i ^ j.toNat)) := opI fun _ _ _ _ _ _ _ hc q => pow_int_small hc.1 hc.2.1 hc.2.2 q
theorem unI {f : Value → Sem Value} {g : Int → Int}
    (rule : ∀ (i : Int) (t : Tok) (s : Shared) (Q : Value → Shared → Prop) (E : Value → Shared → Prop), Q (.int (g i) s.toks) { s with toks := s.toks + 1 } → wpAny (model X.prog X.w) X.A (f (.int i t)) Q E s) :
    UnR X f (rU fun i => .int (g i)) := by
  intro pins s σ H x v Q I rx h
  obtain ⟨i, rfl, q⟩ := h
  obtain ⟨t, rfl⟩ := rx
  exact rule i t s _ _ ⟨.int (g i), H, I.tok _, ⟨_, rfl⟩, q⟩
theorem un_neg : UnR X (unaryOp .USub) (rU fun i => .int (-i)) := unI fun _ _ _ _ _ q => neg_int q
end
def scal : V → V → Bool
  | .non, .non => true | .non, .int _ => true | .int _, .non => true | .non, .bl _ => true | .bl _, .non => true | .non, .str _ => true | .str _, .non => true
  | .int _, .int _ => true | .bl _, .bl _ => true | .str _, .str _ => true | .byt _, .byt _ => true
  | .int _, .str _ => true | .str _, .int _ => true | .bl _, .str _ => true | .str _, .bl _ => true
  | _, _ => false
def rEq : R2 := fun x y H Q => scal x y = true ∧ Q (.bl (decide (x = y))) H
def rNe : R2 := fun x y H Q => scal x y = true ∧ Q (.bl (!decide (x = y))) H
theorem dec_int {i j : Int} : decide (V.int i = V.int j) = (i == j) := by
  rw [Bool.eq_iff_iff]
  simp
theorem dec_bl {i j : Bool} : decide (V.bl i = V.bl j) = (i == j) := by
  rw [Bool.eq_iff_iff]
  simp
theorem dec_str {i j : Str} : decide (V.str i = V.str j) = (i == j) := by
  rw [Bool.eq_iff_iff]
  simp
theorem dec_byt {i j : Array UInt8} : decide (V.byt i = V.byt j) = (i.toList == j.toList) := by
  rw [Bool.eq_iff_iff]
  cases i
  cases j
  simp
section
variable {X : Cx} {a b c : Expr} {ta tb tc : TE} {pos : Pos}
theorem fin_bl {pins : List (Addr × Obj)} {σ : St} {H : Hp} {s : Shared} {Q : VK} {k k' : Bool} (I : Inv X pins σ H s) (q : Q (.bl k) H) (e : k = k') : EP X pins σ Q (.bool k') s := by
  subst e
  exact ⟨.bl k, H, I, rfl, q⟩
theorem op_eq : OpR X (compareOp .Eq) rEq := by
  intro pins s σ H x y v u Q I rx ry h
  obtain ⟨hs, q⟩ := h
  cases x with
  | non =>
    cases rx
    cases y with
    | non => cases ry; exact PySem.EqNone.eq_none_none (fin_bl I q (by simp))
    | bl j => cases ry; exact PySem.EqNone.eq_none_bool (fin_bl I q (by simp))
    | int j => obtain ⟨t', rfl⟩ := ry; exact PySem.EqNone.eq_none_int (fin_bl I q (by simp))
    | str j => obtain ⟨t', rfl⟩ := ry; exact PySem.EqNone.eq_none_str (fin_bl I q (by simp))
    | _ => exact absurd (show false = true from hs) Bool.false_ne_true
  | bl i =>
    cases rx
    cases y with
    | non => cases ry; exact PySem.EqNone.eq_bool_none (fin_bl I q (by simp))
    | bl j => cases ry; exact eq_bool (fin_bl I q dec_bl)
    | str j => obtain ⟨t', rfl⟩ := ry; exact PySem.EqMixed.eq_bool_str (fin_bl I q (by simp))
    | _ => exact absurd (show false = true from hs) Bool.false_ne_true
  | int i =>
    obtain ⟨t, rfl⟩ := rx
    cases y with
    | non => cases ry; exact PySem.EqNone.eq_int_none (fin_bl I q (by simp))
    | int j => obtain ⟨t', rfl⟩ := ry; exact eq_int (fin_bl I q dec_int)
    | str j => obtain ⟨t', rfl⟩ := ry; exact PySem.EqMixed.eq_int_str (fin_bl I q (by simp))
    | _ => exact absurd (show false = true from hs) Bool.false_ne_true
  | str i =>
    obtain ⟨t, rfl⟩ := rx
    cases y with
    | non => cases ry; exact PySem.EqNone.eq_str_none (fin_bl I q (by simp))
    | bl j => cases ry; exact PySem.EqMixed.eq_str_bool (fin_bl I q (by simp))
    | int j => obtain ⟨t', rfl⟩ := ry; exact PySem.EqMixed.eq_str_int (fin_bl I q (by simp))
    | str j => obtain ⟨t', rfl⟩ := ry; exact eq_str (fin_bl I q dec_str)
    | _ => exact absurd (show false = true from hs) Bool.false_ne_true
  | byt i =>
    obtain ⟨t, rfl⟩ := rx
    cases y with
    | byt j => obtain ⟨t', rfl⟩ := ry; exact PySem.W.eq_bytes (fin_bl I q dec_byt)
    | _ => exact absurd (show false = true from hs) Bool.false_ne_true
  | _ => cases y <;> exact absurd (show false = true from hs) Bool.false_ne_true
theorem op_ne : OpR X (compareOp .NotEq) rNe := by
  intro pins s σ H x y v u Q I rx ry h
  obtain ⟨hs, q⟩ := h
  cases x with
  | non =>
    cases rx
    cases y with
    | non => cases ry; exact PySem.EqNone.ne_none_none (fin_bl I q (by simp))
    | bl j => cases ry; exact PySem.EqNone.ne_none_bool (fin_bl I q (by simp))
    | int j => obtain ⟨t', rfl⟩ := ry; exact PySem.EqNone.ne_none_int (fin_bl I q (by simp))
    | str j => obtain ⟨t', rfl⟩ := ry; exact PySem.EqNone.ne_none_str (fin_bl I q (by simp))
    | _ => exact absurd (show false = true from hs) Bool.false_ne_true
  | bl i =>
    cases rx
    cases y with
    | non => cases ry; exact PySem.EqNone.ne_bool_none (fin_bl I q (by simp))
    | bl j => cases ry; exact ne_bool (fin_bl I q (congrArg not dec_bl))
    | str j => obtain ⟨t', rfl⟩ := ry; exact PySem.EqMixed.ne_bool_str (fin_bl I q (by simp))
    | _ => exact absurd (show false = true from hs) Bool.false_ne_true
  | int i =>
    obtain ⟨t, rfl⟩ := rx
    cases y with
    | non => cases ry; exact PySem.EqNone.ne_int_none (fin_bl I q (by simp))
    | int j => obtain ⟨t', rfl⟩ := ry; exact ne_int (fin_bl I q (congrArg not dec_int))
    | str j => obtain ⟨t', rfl⟩ := ry; exact PySem.EqMixed.ne_int_str (fin_bl I q (by simp))
    | _ => exact absurd (show false = true from hs) Bool.false_ne_true
  | str i =>
    obtain ⟨t, rfl⟩ := rx
    cases y with
    | non => cases ry; exact PySem.EqNone.ne_str_none (fin_bl I q (by simp))
    | bl j => cases ry; exact PySem.EqMixed.ne_str_bool (fin_bl I q (by simp))
    | int j => obtain ⟨t', rfl⟩ := ry; exact PySem.EqMixed.ne_str_int (fin_bl I q (by simp))
    | str j => obtain ⟨t', rfl⟩ := ry; exact ne_str (fin_bl I q (congrArg not dec_str))
    | _ => exact absurd (show false = true from hs) Bool.false_ne_true
  | byt i =>
    obtain ⟨t, rfl⟩ := rx
    cases y with
    | byt j => obtain ⟨t', rfl⟩ := ry; exact PySem.W.ne_bytes (fin_bl I q (congrArg not dec_byt))
    | _ => exact absurd (show false = true from hs) Bool.false_ne_true
  | _ => cases y <;> exact absurd (show false = true from hs) Bool.false_ne_true
theorem op_lt : OpR X (compareOp .Lt) (rI0 fun i j => .bl (decide (i < j))) := opB0 fun _ _ _ _ _ _ _ q => lt_int q
theorem op_gt : OpR X (compareOp .Gt) (rI0 fun i j => .bl (decide (j < i))) := opB0 fun _ _ _ _ _ _ _ q => gt_int q
theorem op_ge : OpR X (compareOp .GtE) (rI0 fun i j => .bl (decide (j ≤ i))) := opB0 fun _ _ _ _ _ _ _ q => ge_int q
theorem op_isN : OpR X (compareOp .Is) (fun x y H Q => y = .non ∧ Q (.bl (decide (x = .non))) H) := by
  intro pins s σ H x y v u Q I rx ry h
  obtain ⟨rfl, q⟩ := h
  cases ry
  refine is_none_gen (fin_bl I q ?_)
  cases x <;> first
    | (cases rx; rfl)
    | (obtain ⟨t, rfl⟩ := rx; rfl)
theorem nomark (b : Expr) {op : CmpOp} (h : op ≠ .In := by decide) (h2 : op ≠ .NotIn := by decide) : behindInMarks op b = false := by
  have e1 : (op == CmpOp.In) = false := by cases op <;> first | rfl | exact absurd rfl h
  have e2 : (op == CmpOp.NotIn) = false := by cases op <;> first | rfl | exact absurd rfl h2
  cases b <;> simp [behindInMarks, e1, e2]
theorem pe_cmpR {op : CmpOp} {r : R2} (ho : OpR X (compareOp op) r) (ha : PE X a ta) (hb : PE X b tb) (hm : behindInMarks op b = false) : PE X (.Compare a [op] [b] pos) (tOp r ta tb) := by
  intro pins s σ H Q I h
  exact wpAny_Compare1 (binT ha hb I h fun v u s2 x y H2 I2 rx ry q => ho pins s2 σ H2 x y v u Q I2 rx ry q) hm
def tTest (t : TE) : TT := fun σ H Q => t σ H fun x H' => ∃ k, x = .bl k ∧ Q k H'
theorem pt_cmpR {op : CmpOp} {r : R2} (ho : OpR X (compareOp op) r) (ha : PE X a ta) (hb : PE X b tb) (hm : behindInMarks op b = false) : PT X (.Compare a [op] [b] pos) (tTest (tOp r ta tb)) := by
  intro pins s σ H Q I h
  refine wpAny_isTrue_Compare1 (thn (ha pins s σ H _ I h) fun v s1 ⟨x, H1, I1, r1, q1⟩ => thn (hb pins s1 σ H1 _ I1 q1) fun u s2 ⟨y, H2, I2, r2, q2⟩ =>
    thn (ho pins s2 σ H2 x y v u _ I2 r1 r2 q2) fun c s3 ⟨z, H3, I3, r3, k, e, q3⟩ => ?_) hm
  subst e
  cases r3
  exact wpAny_truthy_bool ⟨H3, I3, q3⟩
theorem line63 : (sizeLine : Nat) < 2 ^ 63 := by rw [sizeLine_eq]; decide
theorem op_add_str : OpR X (binaryOp .Add) (fun x y H Q => ∃ i j, x = .str i ∧ y = .str j ∧ i.length + j.length ≤ sizeLine ∧ Q (.str (i ++ j)) H) := by
  intro pins s σ H x y v u Q I rx ry h
  obtain ⟨i, j, rfl, rfl, hz, q⟩ := h
  obtain ⟨t, rfl⟩ := rx
  obtain ⟨t', rfl⟩ := ry
  exact add_str (fun t' tk => ⟨.str (i ++ j), H, I.tok _, ⟨_, rfl⟩, q⟩) hz
theorem vals1 {x : V} {us : List Value} (r : Vals [x] us) : ∃ u, us = [u] ∧ RelV x u := by
  cases r with
  | cons r1 r2 => cases r2; exact ⟨_, rfl, r1⟩
theorem vals2 {x y : V} {us : List Value} (r : Vals [x, y] us) : ∃ u w', us = [u, w'] ∧ RelV x u ∧ RelV y w' := by
  cases r with
  | cons r1 r2 =>
    cases r2 with
    | cons r3 r4 => cases r4; exact ⟨_, _, rfl, r1, r3⟩
theorem call_min2 (hc : X.calm = true) : CallR X (.builtin "min") (fun xs H Q => ∃ i j, xs = [.int i, .int j] ∧ Q (.int (if j < i then j else i)) H) := by
  intro pins s σ H xs us Q I r h
  obtain ⟨i, j, rfl, q⟩ := h
  obtain ⟨u, w', rfl, ⟨t, rfl⟩, ⟨t', rfl⟩⟩ := vals2 r
  refine min_two_ints (I.ok.hd hc) fun h' tk k => ⟨_, H, I.kept k, ?_, q⟩
  by_cases hj : j < i
  · rw [if_pos hj, if_pos hj]; exact ⟨_, rfl⟩
  · rw [if_neg hj, if_neg hj]; exact ⟨_, rfl⟩
end
end L2
namespace L2
open PySem PySem.Spec PyProof.Rows
structure ObjM (h : Heap) (x dx C : Addr) (mA : Str → Option Value) : Prop where
  obj : h.get? x = some (PySem.W.instObj C dx)
  ns : h.Ns1 dx mA
  ne : dx ≠ x
theorem lookIn_ns {h : Heap} {dx : Addr} {mA : Str → Option Value} (n : h.Ns1 dx mA) : ∃ od, h.get? dx = some od ∧ ∀ name, PySem.W.lookIn name od = some (mA name) := by
  obtain ⟨o, es, ep, ho, hd, hk, _, hm⟩ := n
  refine ⟨o, ho, fun name => ?_⟩
  have e := hm name
  unfold nsFind findBy at e
  rw [← Array.find?_toList] at e
  unfold PySem.W.lookIn
  rw [hd]
  dsimp only
  split
  · rename_i y q
    rw [q] at e
    exact congrArg some e
  · rename_i q
    rw [q] at e
    have a : es.toList.any (·.refKey) = false := by
      rw [List.any_eq_false]
      intro y hy
      obtain ⟨z, t, hkey⟩ := hk y (Array.mem_toList_iff.mp hy)
      simp [DictEntry.refKey, hkey]
    have a' : ¬ es.toList.any (·.refKey) = true := by rw [a]; exact Bool.false_ne_true
    rw [if_neg a']
    exact congrArg some e
theorem ObjM.look {h : Heap} {x dx C : Addr} {mA : Str → Option Value} (I : ObjM h x dx C mA) : ∃ od, PySem.W.InstAt h x (PySem.W.instObj C dx) C (some od) ∧ ∀ name, PySem.W.lookIn name od = some (mA name) :=
  let ⟨od, ho, hl⟩ := lookIn_ns I.ns
  ⟨od, ⟨I.obj, rfl, rfl, ho⟩, hl⟩
section
variable {prog : Program} {w : World} {A : Around} {E : Value → Shared → Prop} {s : Shared} {K : PySem.W.Frag} {x dx C f : Addr} {mA : Str → Option Value} {name : Str} {v : Value}
end
theorem RelO.some_of {v : V} {o : Option Value} (r : RelO (some v) o) : ∃ u, o = some u ∧ RelV v u := by
  cases o with
  | none => exact (show False from r).elim
  | some u => exact ⟨u, rfl, r⟩
section
variable {P : Program} {w : World} {H H' : Hp} {h h' : Heap} {a C dx : Addr} {fs fs' : List (Str × V)}
theorem ins_get (hok : HOk P w H h) (e : H a = some (.ins C dx fs)) : ∃ mA, ObjM h a dx C mA ∧ (∀ f, RelO (fs.lookup f) (mA f)) ∧ PySem.Within mA (fs.map (·.1)) ∧ fs.length ≤ 1000 ∧ H dx = some (.own a) := by
  obtain ⟨d, z, ne, ob, mA, n, r, q⟩ := (show ObjOk P w H h a (.ins C dx fs) from hok a _ e)
  exact ⟨mA, ⟨ob, n, ne⟩, r, q, z, d⟩
end
structure Cls (K : PySem.W.Frag) (C : Addr) : Prop where
  pg : PySem.W.plainGet K C Str.empty = true
  hd : PySem.W.hasDictIn K C = true
  po : PySem.W.plainOver K C = true
  sa : PySem.W.findIn K (.ref C) "__setattr__" = some (some (.builtin "object.__setattr__"))
theorem Cls.get {K : PySem.W.Frag} {C : Addr} (c : Cls K C) (f : Str) : PySem.W.plainGet K C f = true := c.pg
section
variable {X : Cx} {pins : List (Addr × Obj)} {σ : St} {H : Hp} {s : Shared} {a C dx : Addr} {fs : List (Str × V)} {f : Str} {v : V} {A : Around} {E : Value → Shared → Prop}
end
section
variable {X : Cx} {o e value : Expr} {f : Str} {pos pos' tpos : Pos} {ta tv : TE}
end
section
variable {X : Cx} {pins : List (Addr × Obj)} {σ : St} {H : Hp} {s : Shared} {A : Around} {E : Value → Shared → Prop} {Q : Value → Shared → Prop} {c : Value} {b : Bool}
inductive TyOf (K : PySem.W.Frag) (H : Hp) : V → Value → Prop where
  | non : TyOf K H .non (.type "NoneType")
  | bl (x : Bool) : TyOf K H (.bl x) (.type "bool")
  | int (i : Int) : TyOf K H (.int i) (.type "int")
  | str (x : Str) : TyOf K H (.str x) (.type "str")
  | flt (x : UInt64) : TyOf K H (.flt x) (.type "float")
  | lst {a : Addr} {xs : List V} (e : H a = some (.lst xs)) : TyOf K H (.ref a) (.type "list")
  | frz {a : Addr} {o : Obj} {xs : List V} (e : H a = some (.frz o (.lst xs))) : TyOf K H (.ref a) (.type "list")
  | tup {a : Addr} {xs : List V} (e : H a = some (.tup xs)) : TyOf K H (.ref a) (.type "tuple")
  | dK {a : Addr} {kvs : List (Key × V)} (e : H a = some (.dK kvs)) : TyOf K H (.ref a) (.type "dict")
  | dT {a : Addr} {kvs : List (List Key × V)} (e : H a = some (.dT kvs)) : TyOf K H (.ref a) (.type "dict")
  | ins {a C dx : Addr} {fs : List (Str × V)} (e : H a = some (.ins C dx fs)) (cl : Cls K C) (ha : PySem.W.findIn K (.ref C) "__class__" = some (some (.builtin "object.__class__")))
      (hn : PySem.W.specialIn K (.builtin "object.__class__") "__get__" = some (some (.builtin "getset_descriptor.__get__"))) (htk : PySem.W.takesIn K (.builtin "object.__class__") = some true)
      (hm : PySem.W.mroIn K C (.type "object") = some true) : TyOf K H (.ref a) (.ref C)
theorem isinst_ok {x : V} {u t : Value} (I : Inv X pins σ H s) (rx : RelV x u) (ty : TyOf X.K H x t) (e : PySem.W.kitOne X.K t c = some b) (h : ∀ tk, Q (.bool b) { s with toks := tk }) :
    wpAny (model X.prog X.w) A (call (.builtin "isinstance") [u, c]) Q E s := by
  cases ty with
  | non => cases (show u = Value.none from rx); exact PySem.W.kia_one PySem.W.kitx_none I.kIn True.intro e (fun z => nomatch z) h
  | bl y => cases (show u = Value.bool y from rx); exact PySem.W.kia_one PySem.W.kitx_bool I.kIn True.intro e (fun z => nomatch z) h
  | int i => obtain ⟨t, q⟩ := (show ∃ t, u = Value.int i t from rx); cases q; exact PySem.W.kia_one PySem.W.kitx_int I.kIn True.intro e (fun z => nomatch z) h
  | str y => obtain ⟨t, q⟩ := (show ∃ t, u = Value.str y t from rx); cases q; exact PySem.W.kia_one PySem.W.kitx_str I.kIn True.intro e (fun z => nomatch z) h
  | flt y => obtain ⟨t, q⟩ := (show ∃ t, u = Value.float y t from rx); cases q; exact PySem.W.kia_one PySem.W.kitx_float I.kIn True.intro e (fun z => nomatch z) h
  | @lst a xs ea =>
    cases (show u = Value.ref a from rx)
    obtain ⟨_, _, n, _, h1⟩ := (show ObjOk X.prog X.w H s.heap a (.lst xs) from I.hok a _ ea)
    exact PySem.W.kia_one PySem.W.kitx_list I.kIn ⟨_, h1, rfl⟩ e (fun z => nomatch z) h
  | @frz a ob xs ea =>
    cases (show u = Value.ref a from rx)
    obtain ⟨_, _, _, n, _, h1⟩ := (show ObjOk X.prog X.w H s.heap a (.frz ob (.lst xs)) from I.hok a _ ea)
    exact PySem.W.kia_one PySem.W.kitx_list I.kIn ⟨_, h1, rfl⟩ e (fun z => nomatch z) h
  | @tup a xs ea =>
    cases (show u = Value.ref a from rx)
    obtain ⟨_, _, _, p⟩ := (show ObjOk X.prog X.w H s.heap a (.tup xs) from I.hok a _ ea)
    obtain ⟨o, h1, h2, _⟩ := p
    exact PySem.W.kia_one PySem.W.kitx_tuple I.kIn ⟨o, h1, h2⟩ e (fun z => nomatch z) h
  | @dK a kvs ea =>
    cases (show u = Value.ref a from rx)
    obtain ⟨_, _, vs, _, p⟩ := (show ObjOk X.prog X.w H s.heap a (.dK kvs) from I.hok a _ ea)
    obtain ⟨o, es, ep, h1, h2, _⟩ := p
    exact PySem.W.kia_one PySem.W.kitx_dict I.kIn ⟨o, h1, h2.1⟩ e (fun z => nomatch z) h
  | @dT a kvs ea =>
    cases (show u = Value.ref a from rx)
    obtain ⟨_, _, xs, _, o, es, ep, h1, h2, _⟩ := (show ObjOk X.prog X.w H s.heap a (.dT kvs) from I.hok a _ ea)
    exact PySem.W.kia_one PySem.W.kitx_dict I.kIn ⟨o, h1, h2.1⟩ e (fun z => nomatch z) h
  | @ins a C dx fs ea cl ha hn htk hm =>
    cases (show u = Value.ref a from rx)
    obtain ⟨mA, O, _⟩ := ins_get I.hok ea
    obtain ⟨od, J, _⟩ := O.look
    exact PySem.W.kia_one (PySem.W.kitx_own (cl.get _) cl.hd ha hn htk hm) I.kIn J e (fun z => nomatch z) h
end
end L2
namespace L2
open PySem PySem.Spec PyProof.Rows
structure Room (k : Nat) (A : Around) : Prop where
  hd : A.handled = none
  dp : A.depth + 3 * k + 5 < recursionLimit
  un : A.units + 16 * k + 200 < cLine
theorem Room.mono {j k : Nat} {A : Around} (r : Room k A) (h : j ≤ k) : Room j A := ⟨r.hd, by have := r.dp; omega, by have := r.un; omega⟩
theorem Room.deeper {k : Nat} {A : Around} (r : Room (k + 1) A) (env : Env) : Room k (A.deeper env) :=
  ⟨r.hd, by have := r.dp; show A.depth + 1 + 3 * k + 5 < _; omega, by have := r.un; show A.units + 3 + 16 * k + 200 < _; omega⟩
theorem Room.depth {k : Nat} {A : Around} (r : Room k A) : A.depth < recursionLimit := by have := r.dp; omega
theorem Room.units {k : Nat} {A : Around} (r : Room k A) : A.units + 64 < cLine := by have := r.un; omega
def tNil : TA := fun _ H Q => Q [] H
def tCons (ta : TE) (tr : TA) : TA := fun σ H Q => ta σ H fun x H1 => tr σ H1 fun xs H2 => Q (x :: xs) H2
section
variable {X : Cx} {e : Expr} {es : List Expr} {te : TE} {t : TA} {pos : Pos}
theorem pa_nil : PA X [] tNil := fun _ _ _ _ H Q I h => Calls.spliced_nil ⟨[], H, I, .nil, h⟩
theorem pa_cons (ha : PE X e te) (hr : PA X es t) (hs : starEach (e :: es) X.env = (false, eval e X.env) :: starEach es X.env := by rfl) : PA X (e :: es) (tCons te t) := by
  intro pos pins s σ H Q I h
  rw [hs]
  show wpAny _ _ (spliced ((false, eval e X.env) :: backTo pos (starEach es X.env))) _ _ s
  refine Calls.spliced_cons (thn (ha pins s σ H _ I h) fun u s1 ⟨x, H1, I1, r1, q1⟩ => ?_)
  exact thn (hr pos pins s1 σ H1 _ I1 q1) fun us s2 ⟨xs, H2, I2, r2, q2⟩ => ⟨x :: xs, H2, I2, .cons r1 r2, q2⟩
def tTup (t : TA) : TE := fun σ H Q => t σ H fun xs H1 => xs.length ≤ sizeLine ∧ ∀ p, H1 p = none → Q (.ref p) (upd H1 p (.tup xs))
def tLst (t : TA) : TE := fun σ H Q => t σ H fun xs H1 => xs.length ≤ sizeLine ∧ ∀ p, H1 p = none → Q (.ref p) (upd H1 p (.lst xs))
theorem pe_tup {x1} (h : PA X es t) : PE X (.Tuple es x1 pos) (tTup t) := by
  intro pins s σ H Q I hq
  refine wpAny_Tuple_spliced (thn (h pos pins s σ H _ I hq) fun us s1 ⟨xs, H1, I1, r, z, q⟩ => ⟨by rw [← r.length]; exact z, ?_⟩)
  have hf : H1 s1.heap.objs.size = none := I1.hok.fresh (Nat.le_refl _)
  refine ⟨.ref s1.heap.objs.size, upd H1 s1.heap.objs.size (.tup xs), I1.laid (t' := s1.toks) (fun b u e => Heap.get?_push_of_some _ e) (Nat.le_refl _) ?_, rfl, q _ hf⟩
  exact ⟨z, us, r, ⟨_, Heap.get?_push_size _ rfl, rfl, _, rfl⟩⟩
theorem pe_lst (h : PA X es t) : PE X (.List es pos) (tLst t) := by
  intro pins s σ H Q I hq
  refine wpAny_List_spliced (thn (h pos pins s σ H _ I hq) fun us s1 ⟨xs, H1, I1, r, z, q⟩ => ⟨by rw [← r.length]; exact z, ?_⟩)
  have hf : H1 s1.heap.objs.size = none := I1.hok.fresh (Nat.le_refl _)
  refine ⟨.ref s1.heap.objs.size, upd H1 s1.heap.objs.size (.lst xs), I1.laid (t' := s1.toks) (fun b u e => Heap.get?_push_of_some _ e) (Nat.le_refl _) ?_, rfl, q _ hf⟩
  exact ⟨z, us, 0, r, Heap.get?_push_size _ rfl⟩
end
abbrev Sp := List V → Hp → VK → XK → Prop
abbrev CXT := List Env → Hp → Shared → XK → Value → Shared → Prop
structure Env0 (P : Program) (w : World) (K : PySem.W.Frag) (mg : Str → Option Value) (base : Heap) (A : Around) (outer : List Env) (s : Shared) (H : Hp) : Prop where
  frames : A.frames = some outer
  mod : Mod K mg base
  bs : ∀ b o, base.get? b = some o → s.heap.get? b = some o ∧ H b = none
  bsz : base.objs.size ≤ s.heap.objs.size
  funs : s.heap.FunFrames base outer
  frf : ∀ b ∈ frs outer, H b = none
  hok : HOk P w H s.heap
  bare : AllBare s.gens
def CE (outer : List Env) (P : Program) (w : World) (H : Hp) (s : Shared) (Q : VK) (u : Value) (s' : Shared) : Prop :=
  ∃ v H', s'.os = s.os ∧ AllBare s'.gens ∧ Un (frs outer) [] H H' s.heap s'.heap ∧ HOk P w H' s'.heap ∧ RelV v u ∧ Q v H'
def CR (CX : CXT) (outer : List Env) (P : Program) (w : World) (H : Hp) (s : Shared) (Q : VK) (E : XK) (r : Result) (s' : Shared) : Prop :=
  match r with
  | .ok (.ret u) => CE outer P w H s Q u s'
  | .ok _ => False
  | .error e => CX outer H s E e s'
structure FnOk (P : Program) (w : World) (K : PySem.W.Frag) (mg : Str → Option Value) (base : Heap) (CX : CXT) (k : Nat) (f : Addr) (fd : FuncData) (ps : List Str) (sp : Sp) : Prop where
  len : ∀ vs H Q E, sp vs H Q E → vs.length = ps.length
  run : ∀ (A : Around) (outer : List Env) (s : Shared) (H : Hp) (args : Args) (us : List Value) (vs : List V) (Q : VK) (E : XK), Room k A → Env0 P w K mg base A outer s H → BindsTo s fd args (ps.zip us) → Vals vs us → sp vs H Q E →
    codeAny (model P w) A (.call (.ref f) args) (CR CX outer P w H s Q E) s
section
variable {X : Cx} {pins : List (Addr × Obj)} {σ : St} {H : Hp} {s s' : Shared}
theorem Inv.env0 (I : Inv X pins σ H s) : Env0 X.prog X.w X.K X.mg X.base X.A X.stack s H :=
  ⟨I.ok.frames, I.ok.mod, I.bs, Nat.le_trans I.ok.bsz I.sz, I.stack, I.stkFree, I.hok, I.bare⟩
theorem Inv.after {Q : VK} {u : Value} (I : Inv X pins σ H s) (h : CE X.stack X.prog X.w H s Q u s') : EP X pins σ Q u s' := by
  obtain ⟨v, H', os, bare, un, hok, r, q⟩ := h
  obtain ⟨hh, g, d, t, os'⟩ := s'
  obtain rfl : os' = s.os := os
  exact ⟨v, H', I.call (h' := hh) (g' := g) (d' := d) (t' := t) (ch := []) un hok bare (fun b z => absurd z (by simp)), r, q⟩
end
def tCall (sp : Sp) (dvs : List V) (E : XK) (t : TA) : TE := fun σ H Q => t σ H fun vs H1 => sp (vs ++ dvs) H1 Q E
def Binds (K : PySem.W.Frag) (fd : FuncData) (ps : List Str) (ds : List Value) : Prop :=
  ∀ (s : Shared) (us : List Value), K.In s.heap → (us ++ ds).length = ps.length → BindsTo s fd ⟨us, []⟩ (ps.zip (us ++ ds))
theorem Binds.all {K : PySem.W.Frag} {fd : FuncData} {ps : List Str} (h : ∀ us : List Value, us.length = ps.length → bindArgs fd ⟨us, []⟩ = pure (ps.zip us)) : Binds K fd ps [] := fun s us _ hl => by
  rw [List.append_nil] at hl ⊢
  exact .of_eq (h us hl)
def Passes (CX : CXT) (X : Cx) (E : XK) : Prop := ∀ (pins : List (Addr × Obj)) (σ : St) (H : Hp) (s : Shared) (e : Value) (s' : Shared), Inv X pins σ H s → CX X.stack H s E e s' → X.xe e s'
section
variable {X : Cx} {CX : CXT} {k : Nat} {f C : Addr} {fd : FuncData} {ps : List Str} {sp : Sp} {dvs : List V} {ds : List Value} {E : XK} {x m : Str} {p pos apos : Pos} {e o : Expr} {es : List Expr} {ta : TE} {t : TA}
theorem run_fn {pins : List (Addr × Obj)} {σ : St} {H : Hp} {s : Shared} {Q : VK} {us : List Value} {vs : List V} (F : FnOk X.prog X.w X.K X.mg X.base CX k f fd ps sp) (hr : Room k X.A) (hb : Binds X.K fd ps ds) (hd : Vals dvs ds) (hx : Passes CX X E)
    (I : Inv X pins σ H s) (r : Vals vs us) (h : sp (vs ++ dvs) H Q E) : wpAny (model X.prog X.w) X.A (call (.ref f) us) (EP X pins σ Q) X.xe s := by
  have r2 : Vals (vs ++ dvs) (us ++ ds) := r.append hd
  have hl : (us ++ ds).length = ps.length := by rw [← r2.length]; exact F.len _ _ _ _ h
  refine wpAny_call (codeAny_mono (F.run X.A X.stack s H ⟨us, []⟩ (us ++ ds) (vs ++ dvs) Q E hr I.env0 (hb s us I.kIn hl) r2 h) fun r s' hq => ?_)
  cases r with
  | error e => exact hx pins σ H s e s' I hq
  | ok fl =>
    cases fl with
    | ret u => exact I.after hq
    | next => exact False.elim hq
    | brk => exact False.elim hq
    | cont => exact False.elim hq
theorem pe_call (F : FnOk X.prog X.w X.K X.mg X.base CX k f fd ps sp) (hr : Room k X.A) (hg : Gl X x) (hm : X.mg x = some (.ref f)) (hk : PySem.W.keepIn X.K (.ref f) = true) (hb : Binds X.K fd ps ds) (hd : Vals dvs ds) (hx : Passes CX X E)
    (ha : PA X (e :: es) t) (hdb : (x == ("__debug__" : Str)) = false := by decide) (he : starEach (e :: es) X.env = (false, eval e X.env) :: starEach es X.env := by rfl) (hpl : (backTo pos (starEach es X.env)).any (·.1) = false := by rfl) :
    PE X (.Call (.Name x p) (e :: es) [] pos) (tCall sp dvs E t) := by
  intro pins s σ H Q I h
  refine wpAny_Call_Name_kw (ld_glob I hg hm ?_ hdb)
  refine PySem.W.callWith_K (h₀ := X.base) I.ok.mod.kin hk (thn (ha pos pins s σ H _ I h) fun us s1 ⟨vs, H1, I1, r, q⟩ => ⟨I1.kIn, ?_⟩) he hpl
  exact run_fn F hr hb hd hx I1 r q
end
section
variable {X : Cx} {CX : CXT} {k : Nat} {f C : Addr} {fd : FuncData} {ps ks : List Str} {sp : Sp} {E : XK} {x m : Str} {p pos apos kpos : Pos} {e o : Expr} {es : List Expr} {kws : List Keyword} {te ta : TE} {t tk : TA} {nm : Option Str}
variable {g : List Value → List Value → List Value} {gV : List V → List V → List V}
end
structure FnScope (N P : List Str) (sc : Scope) : Prop where
  kind : sc.kind = .function
  co : sc.isCoroutine = false
  gen : sc.isGenerator = false
  nd : N.Nodup
  pre : N.take P.length = P
  par : ∀ x ∈ P, sc.names.lookup x = some .local ∨ sc.names.lookup x = some .cell
  nofree : ∀ y ∈ sc.names, y.2 ≠ .free
theorem bindL_out {kindOf : Str → Option NameKind} {x : Str} : ∀ {binds : List (Str × Value)} {m : Str → Option Value}, (∀ v, (x, v) ∉ binds) → bindL kindOf binds m x = m x
  | [], _, _ => rfl
  | (n, v) :: r, m, h => by
    unfold bindL
    rw [bindL_out fun w hw => h w (List.mem_cons_of_mem _ hw)]
    split
    · have : x ≠ n := by rintro rfl; exact h v List.mem_cons_self
      simp [this]
    · rfl
theorem bindC_out {kindOf : Str → Option NameKind} {x : Str} : ∀ {binds : List (Str × Value)} {m : Str → Option Value}, (∀ v, (x, v) ∉ binds) → bindC kindOf binds m x = m x
  | [], _, _ => rfl
  | (n, v) :: r, m, h => by
    unfold bindC
    rw [bindC_out fun w hw => h w (List.mem_cons_of_mem _ hw)]
    split
    · rfl
    · have : x ≠ n := by rintro rfl; exact h v List.mem_cons_self
      simp [this]
theorem bindL_get {kindOf : Str → Option NameKind} {x : Str} {v : Value} : ∀ {P : List Str} {vs : List Value} {i : Nat} {m : Str → Option Value}, P.Nodup → P[i]? = some x → vs[i]? = some v → kindOf x = some .local →
    bindL kindOf (P.zip vs) m x = some v
  | [], _, _, _, _, h, _, _ => by simp at h
  | _ :: _, [], _, _, _, _, h, _ => by simp at h
  | p :: P, w :: vs, 0, m, nd, h1, h2, hk => by
    simp at h1 h2; subst h1; subst h2
    show bindL kindOf ((p, w) :: P.zip vs) m p = _
    unfold bindL
    rw [bindL_out fun v hv => (List.nodup_cons.mp nd).1 (List.of_mem_zip hv).1, if_pos hk]
    simp
  | p :: P, w :: vs, i + 1, m, nd, h1, h2, hk => by
    show bindL kindOf ((p, w) :: P.zip vs) m x = _
    unfold bindL
    exact bindL_get (i := i) (List.nodup_cons.mp nd).2 (by simpa using h1) (by simpa using h2) hk
theorem bindC_get {kindOf : Str → Option NameKind} {x : Str} {v : Value} : ∀ {P : List Str} {vs : List Value} {i : Nat} {m : Str → Option Value}, P.Nodup → P[i]? = some x → vs[i]? = some v → kindOf x ≠ some .local →
    bindC kindOf (P.zip vs) m x = some v
  | [], _, _, _, _, h, _, _ => by simp at h
  | _ :: _, [], _, _, _, _, h, _ => by simp at h
  | p :: P, w :: vs, 0, m, nd, h1, h2, hk => by
    simp at h1 h2; subst h1; subst h2
    show bindC kindOf ((p, w) :: P.zip vs) m p = _
    unfold bindC
    rw [bindC_out fun v hv => (List.nodup_cons.mp nd).1 (List.of_mem_zip hv).1, if_neg hk]
    simp
  | p :: P, w :: vs, i + 1, m, nd, h1, h2, hk => by
    show bindC kindOf ((p, w) :: P.zip vs) m x = _
    unfold bindC
    exact bindC_get (i := i) (List.nodup_cons.mp nd).2 (by simpa using h1) (by simpa using h2) hk
def start (N : List Str) (vs : List V) : St := vs.map some ++ List.replicate (N.length - vs.length) none
def cxOf (CX : CXT) (P : Program) (w : World) (K : PySem.W.Frag) (mg : Str → Option Value) (base : Heap) (N : List Str) (qual : Str) (scope : Scope) (f : Addr) (cd : Value) (A : Around) (outer : List Env) (s : Shared) (H : Hp) (E : XK) : Cx where
  prog := P
  w := w
  K := K
  mg := mg
  base := base
  A := A.deeper (envOfC qual scope s.heap.objs.size f cd)
  N := N
  s₀ := s
  H₀ := H
  env := envOfC qual scope s.heap.objs.size f cd
  outer := outer
  stack := envOfC qual scope s.heap.objs.size f cd :: outer
  ex := []
  calm := true
  fn := fun _ => true
  pn := []
  xe := fun e s' => wpAny (model P w) (A.deeper (envOfC qual scope s.heap.objs.size f cd)) (leaving (envOfC qual scope s.heap.objs.size f cd) e) (fun _ s'' => CX outer H s E e s'') (fun e' s'' => CX outer H s E e' s'') s'
theorem cell_has {sc : Scope} {n : Nat} {x : Str} (h : sc.names.lookup x = some .cell) : ∃ c, (cellsFrom n sc.names []).lookup x = some c := by
  have q := PySem.W.cellsFrom_some sc.names n [] (.inl h)
  exact Option.isSome_iff_exists.mp q
theorem inv_start {CX : CXT} {P : Program} {w : World} {K : PySem.W.Frag} {mg : Str → Option Value} {base : Heap} {N ps : List Str} {qual : Str} {scope : Scope} {f : Addr} {cd : Value} {A : Around} {outer : List Env} {s s1 : Shared} {H : Hp} {E : XK} {us : List Value} {vs : List V}
    (S : FnScope N ps scope) (hd : A.handled = none) (e0 : Env0 P w K mg base A outer s H) (hl : vs.length = ps.length) (r : Vals vs us)
    (x : InCallC s s.heap.objs.size (bindL (envOfC qual scope s.heap.objs.size f cd).kindOf (ps.zip us) fun _ => none) (cellsFrom (s.heap.objs.size + 1) scope.names []) (bindC (envOfC qual scope s.heap.objs.size f cd).kindOf (ps.zip us) fun _ => none) s1) :
    Inv (cxOf CX P w K mg base N qual scope f cd A outer s H E) [] (start N vs) H s1 := by
  have hpl : ps.length ≤ N.length := by have := congrArg List.length S.pre; rw [List.length_take] at this; omega
  obtain ⟨h1, tk, rfl, hk⟩ := x.done
  have noA : ∀ b : Addr, b ∉ (cxOf CX P w K mg base N qual scope f cd A outer s H E).ex := fun b z => absurd (show b ∈ ([] : List Addr) from z) (by simp)
  refine ⟨⟨e0.mod, S.kind, rfl, rfl, Nat.le_refl _, fun y z c h1 h2 => ?_, fun y hy => ?_, fun y c _ h => ?_, fun _ => hd, Around.frames_deeper e0.frames, .inr ⟨rfl, rfl⟩, fun b z => absurd z (noA b), e0.bs, e0.bsz, fun b _ _ => noA b, fun b z => absurd z (noA b), e0.funs, e0.frf⟩,
    rfl, e0.bare, Un.kept hk, ⟨_, x.toInCall.ns, fun i y v h1 h2 h3 => ?_⟩, fun y c h => ⟨_, x.cell y c h⟩, e0.hok.fresh (Nat.le_refl _), fun y c h => ?_, fun p hp => absurd (show p ∈ ([] : List (Addr × Obj)) from hp) (by simp), e0.hok.kept hk, ?_⟩
  · exact name_of_addr x.apart (PySem.mem_of_lookup h1) (PySem.mem_of_lookup h2)
  · have hy : scope.names.lookup y = some .cell ∨ scope.names.lookup y = some .free := hy
    rcases hy with hy | hy
    · exact cell_has hy
    · exact absurd rfl (S.nofree _ (PySem.mem_of_lookup hy))
  · exact Nat.le_of_lt (x.above y c (PySem.mem_of_lookup h))
  · have hi : i < vs.length := by
      unfold start at h2
      by_cases hi : i < vs.length
      · exact hi
      · rw [List.getElem?_append_right (by simpa using hi)] at h2
        rw [List.getElem?_replicate] at h2
        split at h2 <;> cases h2
    have ha : vs[i]? = some v := by
      unfold start at h2
      rw [List.getElem?_append_left (by simpa using hi), List.getElem?_map] at h2
      cases e : vs[i]? with
      | none => rw [e] at h2; cases h2
      | some a => rw [e] at h2; cases h2; rfl
    obtain ⟨u, hu, rv⟩ := r.get ha
    have hp : ps[i]? = some y := by
      rw [← S.pre, List.getElem?_take_of_lt (by omega)]; exact h1
    have ndP : ps.Nodup := by rw [← S.pre]; exact S.nd.sublist (List.take_sublist _ _)
    refine ⟨u, rv, ?_⟩
    rcases S.par y (List.mem_of_getElem? hp) with k | k
    · exact .inl ⟨k, bindL_get ndP hp hu k⟩
    · obtain ⟨c, e⟩ := cell_has (n := s.heap.objs.size + 1) k
      refine .inr ⟨.inl k, c, e, ?_⟩
      have q := x.cell y c e
      rw [bindC_get ndP hp hu (by show scope.names.lookup y ≠ _; rw [k]; decide)] at q
      exact q
  · exact e0.hok.fresh (Nat.le_of_lt (x.above y c (PySem.mem_of_lookup h)))
  · unfold start
    show _ = N.length
    rw [List.length_append, List.length_map, List.length_replicate]
    omega
theorem fn_of {CX : CXT} {P : Program} {w : World} {K : PySem.W.Frag} {mg : Str → Option Value} {base : Heap} {k : Nat} {f : Addr} {name qual : Str} {params : Arguments} {body : List Stmt} {scope : Scope} {dV kV doc pm cdv ct oc : Value} {an od : Option Addr}
    {osl : Array (Option Value)} {N ps : List Str} {sp : Sp} (lk : K.lookup f = some ⟨oc, od, .func (PySem.W.fnOf name qual params body scope dV kV doc pm an cdv ct), osl⟩) (hcd : PySem.W.codeIn K cdv qual = true) (S : FnScope N ps scope)
    (len : ∀ vs H Q E, sp vs H Q E → vs.length = ps.length)
    (hbody : ∀ (A : Around) (outer : List Env) (s : Shared) (H : Hp) (vs : List V) (Q : VK) (E : XK), Room k (A.deeper (envOfC qual scope s.heap.objs.size f cdv)) → sp vs H Q E →
      ∃ t, PSs (cxOf CX P w K mg base N qual scope f cdv A outer s H E) body t ∧ t { nx := fun _ H' => Q .non H', rt := Q } (start N vs) H) :
    FnOk P w K mg base CX (k + 1) f (PySem.W.fnOf name qual params body scope dV kV doc pm an cdv ct) ps sp := by
  refine ⟨len, fun A outer s H args us vs Q E hr e0 hb r hsp => ?_⟩
  have hl := len _ _ _ _ hsp
  have KX : K.In s.heap := e0.mod.kin.keeps fun b o e => (e0.bs b o e).1
  have lim : s.heap.NoLimit := e0.mod.nolimit.keeps fun b o e => (e0.bs b o e).1
  have hkind : ∀ y ∈ ps.zip us, scope.names.lookup y.1 = some .local ∨ (scope.names.lookup y.1 = some .cell ∧ ((cellsFrom (s.heap.objs.size + 1) scope.names []).lookup y.1).isSome = true) := fun ⟨n, v⟩ hy => by
    rcases S.par n (List.of_mem_zip hy).1 with q | q
    · exact .inl q
    · exact .inr ⟨q, PySem.W.cellsFrom_some _ _ _ (.inl q)⟩
  refine codeAny_call_function hr.depth (KX _ _ lk) rfl S.co S.gen rfl (PySem.W.codeRec_of KX hcd) (hb _ _ _ _ ?_)
  refine wpAny_newFunctionEnv_cells S.kind hkind fun env he s1 x => ?_
  subst he
  refine ⟨lim.keeps x.toInCall.keep, codeAny_func ?_⟩
  obtain ⟨t, ht, hq⟩ := hbody A outer s H vs Q E (hr.deeper _) hsp
  have I : Inv (cxOf CX P w K mg base N qual scope f cdv A outer s H E) [] (start N vs) H s1 := inv_start S hr.hd e0 hl r x
  refine wpAny_mono (ht [] s1 (start N vs) H _ I hq) (fun fl s' hs => ?_) fun e s' hs => hs
  have fin : ∀ {σ' : St} {H' : Hp} {v : V} {u : Value}, Inv (cxOf CX P w K mg base N qual scope f cdv A outer s H E) [] σ' H' s' → RelV v u → Q v H' → CE outer P w H s Q u s' :=
    fun {σ' H' v u} J rv q => ⟨v, H', J.os, J.bare, J.base, J.hok, rv, q⟩
  cases fl with
  | ret u =>
    obtain ⟨v, σ', H', J, rv, q⟩ := hs
    exact fin J rv q
  | next =>
    obtain ⟨σ', H', J, q⟩ := hs
    exact fin (v := V.non) (u := Value.none) J rfl q
  | brk =>
    obtain ⟨_, _, _, q⟩ := hs
    exact False.elim q
  | cont =>
    obtain ⟨_, _, _, q⟩ := hs
    exact False.elim q
end L2
namespace L2
open PySem PySem.Spec PyProof.Rows
section
variable {X : Cx} {x : Str} {p pos : Pos} {e : Expr} {es : List Expr} {t : TA} {id T : String} {r : List V → Hp → VK → Prop}
def tCB (r : List V → Hp → VK → Prop) (t : TA) : TE := fun σ H Q => t σ H fun vs H1 => r vs H1 Q
theorem pe_callB (hc : CallR X (.builtin id) r) (hg : Gl X x) (hm : X.mg x = none) (hv : bootBuiltins x = some (.builtin id)) (ha : PA X (e :: es) t) (hn : x ≠ "__name__" := by decide) (hdb : (x == ("__debug__" : Str)) = false := by decide)
    (he : starEach (e :: es) X.env = (false, eval e X.env) :: starEach es X.env := by rfl) (hpl : (backTo pos (starEach es X.env)).any (·.1) = false := by rfl) : PE X (.Call (.Name x p) (e :: es) [] pos) (tCB r t) := by
  intro pins s σ H Q I h
  refine wpAny_Call_Name_kw (ld_blt I hg hm hv ?_ hn hdb)
  exact PyProof.Rows.callWith_builtin1 (thn (ha pos pins s σ H _ I h) fun us s1 ⟨vs, H1, I1, r1, q1⟩ => hc pins s1 σ H1 vs us Q I1 r1 q1) he hpl
theorem pe_callTy (hc : CallR X (.type T) r) (hg : Gl X x) (hm : X.mg x = none) (hv : bootBuiltins x = some (.type T)) (ha : PA X (e :: es) t) (hn : x ≠ "__name__" := by decide) (hdb : (x == ("__debug__" : Str)) = false := by decide)
    (he : starEach (e :: es) X.env = (false, eval e X.env) :: starEach es X.env := by rfl) (hpl : (backTo pos (starEach es X.env)).any (·.1) = false := by rfl) : PE X (.Call (.Name x p) (e :: es) [] pos) (tCB r t) := by
  intro pins s σ H Q I h
  refine wpAny_Call_Name_kw (ld_blt I hg hm hv ?_ hn hdb)
  exact PyProof.Rows.callWith_type1 (thn (ha pos pins s σ H _ I h) fun us s1 ⟨vs, H1, I1, r1, q1⟩ => hc pins s1 σ H1 vs us Q I1 r1 q1) he hpl
end
end L2
namespace HT
open PySem PyProof.Rows
section
open PySem.SeqAt
open PySem.AutoSeq1 (wpAny_loadPart')
open PySem.MeetsSeq PySem.MeetsSeq2 PySem.MeetsSeq3
end
section
variable {prog : Program} {w : World} {A : Around} {E : Value → Shared → Prop} {s : Shared}
def sIx (n d : Nat) : Option Int → Nat
  | none => d
  | some v => if v < 0 then (v + (n : Int)).toNat else min v.toNat n
theorem sIx_nat (n d k : Nat) : sIx n d (some (k : Int)) = min k n := by
  show (if (k : Int) < 0 then ((k : Int) + (n : Int)).toNat else min (k : Int).toNat n) = min k n
  rw [if_neg (by omega), Int.toNat_natCast]
end
end HT
namespace L2
open PySem PySem.Spec PyProof.Rows
abbrev TO := St → Hp → (Option Int → Hp → Prop) → Prop
def PO (X : Cx) (e : Option Expr) (t : TO) : Prop :=
  ∀ (pins : List (Addr × Obj)) (s : Shared) (σ : St) (H : Hp) (Q : Option Int → Hp → Prop), Inv X pins σ H s → t σ H Q →
    wpAny (model X.prog X.w) X.A (evalPart e X.env) (fun u s' => ∃ o H', Inv X pins σ H' s' ∧ IsPart u o ∧ Q o H') X.xe s
def tNoPart : TO := fun _ H Q => Q none H
def tPart (t : TE) : TO := fun σ H Q => t σ H fun x H1 => ∃ i, x = .int i ∧ Q (some i) H1
theorem intsAre_of {ns : List Int} : ∀ {us : List Value}, Vals (ns.map V.int) us → IntsAre us ns := by
  induction ns with
  | nil => intro us r; rw [List.map_nil] at r; cases r; exact .nil
  | cons n ns ih =>
    intro us r
    rw [List.map_cons] at r
    cases r with
    | cons r1 r2 =>
      obtain ⟨t, e⟩ := r1
      subst e
      exact .cons n t (ih r2)
section
variable {X : Cx} {e : Expr} {te : TE} {lo hi : Option Expr} {tl th : TO} {pos p2 : Pos}
theorem po_none : PO X none tNoPart := by
  intro pins s σ H Q I h
  rw [evalPart_none]
  exact wpAny_pure ⟨none, H, I, .none, h⟩
theorem po_some (h : PE X e te) : PO X (some e) (tPart te) := by
  intro pins s σ H Q I hw
  rw [evalPart_some]
  refine thn (h pins s σ H _ I hw) fun u s1 ⟨x, H1, I1, r1, q1⟩ => ?_
  obtain ⟨i, rfl, q⟩ := q1
  obtain ⟨t, rfl⟩ := r1
  exact ⟨some i, H1, I1, .int i t, q⟩
def SlR (X : Cx) (r : V → Option Int → Option Int → Hp → VK → Prop) : Prop :=
  ∀ (pins : List (Addr × Obj)) (s : Shared) (σ : St) (H : Hp) (x : V) (v vl vu : Value) (lo hi : Option Int) (sl : Addr) (Q : VK), Inv X pins σ H s → RelV x v → s.heap.IsSliceOf sl vl vu .none → IsPart vl lo → IsPart vu hi → r x lo hi H Q →
    ∃ T id, typeLookup (.type T) "__getitem__" = pure (some (.builtin id)) ∧ s.TypeIs v T ∧ wpAny (model X.prog X.w) X.A (getItem v (.ref sl)) (EP X pins σ Q) X.xe s
def tSl (r : V → Option Int → Option Int → Hp → VK → Prop) (te : TE) (tl th : TO) : TE := fun σ H Q => te σ H fun x H1 => tl σ H1 fun l H2 => th σ H2 fun u H3 => r x l u H3 Q
theorem pe_slice {r : V → Option Int → Option Int → Hp → VK → Prop} (hr : SlR X r) (he : PE X e te) (hl : PO X lo tl) (hu : PO X hi th) : PE X (.Subscript e (.Slice lo hi none p2) pos) (tSl r te tl th) := by
  intro pins s σ H Q I h
  refine Subscript_ (thn (he pins s σ H _ I h) fun v s1 ⟨x, H1, I1, r1, q1⟩ => ?_)
  refine wpAny_Slice (thn (hl pins s1 σ H1 _ I1 q1) fun vl s2 ⟨l, H2, I2, pl, q2⟩ => thn (hu pins s2 σ H2 _ I2 q2) fun vu s3 ⟨u, H3, I3, pu, q3⟩ => ?_)
  rw [evalPart_none]
  refine wpAny_pure ?_
  have I4 : Inv X pins σ H3 { s3 with heap := s3.heap.push { cls := .type "slice", data := .fields #[vl, vu, .none] } } := I3.kept (t' := s3.toks) fun b ob q => Heap.get?_push_of_some _ q
  obtain ⟨T, id, hT, ht, hg⟩ := hr pins { s3 with heap := s3.heap.push { cls := .type "slice", data := .fields #[vl, vu, .none] } } σ H3 x v vl vu l u s3.heap.objs.size Q I4 r1 (Heap.IsSliceOf.new ..) pl pu q3
  show wpAny (model X.prog X.w) X.A (subscriptTail e (.Slice lo hi none p2) v (.ref s3.heap.objs.size)) (EP X pins σ Q) X.xe { s3 with heap := s3.heap.push { cls := .type "slice", data := .fields #[vl, vu, .none] } }
  exact tail_any (ops := [.ref s3.heap.objs.size, v]) ht hT hg (by with_unfolding_all rfl)
def cutV (xs : List V) (lo hi : Option Int) : List V := (xs.drop (HT.sIx xs.length 0 lo)).take (HT.sIx xs.length xs.length hi - HT.sIx xs.length 0 lo)
theorem cutV_length (xs : List V) (lo hi : Option Int) : (cutV xs lo hi).length ≤ xs.length := by
  unfold cutV
  rw [List.length_take, List.length_drop]
  omega
end
end L2
namespace L2
open PySem PySem.Spec PyProof.Rows
def ixN (n : Nat) (i : Int) : Option Nat := if 0 ≤ i then (if i < n then some i.toNat else none) else if -(n : Int) ≤ i then some (i + n).toNat else none
def atI {α : Type} (xs : List α) (i : Int) : Option α := (ixN xs.length i).bind fun j => xs[j]?
theorem ixN_seq {n : Nat} {i : Int} {j : Nat} (h : ixN n i = some j) : seqIndex? i n = some j ∧ j < n ∧ -(n : Int) ≤ i ∧ i < n := by
  unfold ixN at h
  by_cases h0 : 0 ≤ i
  · rw [if_pos h0] at h
    by_cases h1 : i < n
    · rw [if_pos h1] at h
      have e : i.toNat = j := Option.some.inj h
      exact ⟨by rw [seqIndex_of h0 h1, e], by omega, by omega, h1⟩
    · rw [if_neg h1] at h; cases h
  · rw [if_neg h0] at h
    by_cases h1 : -(n : Int) ≤ i
    · rw [if_pos h1] at h
      have e : (i + n).toNat = j := Option.some.inj h
      exact ⟨by rw [seqIndex_neg (by omega) h1, e], by omega, h1, by omega⟩
    · rw [if_neg h1] at h; cases h
theorem atI_get {α : Type} {xs : List α} {i : Int} {v : α} (h : atI xs i = some v) : ∃ j, seqIndex? i xs.length = some j ∧ xs[j]? = some v ∧ j < xs.length ∧ -(xs.length : Int) ≤ i ∧ i < xs.length := by
  unfold atI at h
  cases e : ixN xs.length i with
  | none => rw [e] at h; cases h
  | some j =>
    rw [e] at h
    obtain ⟨h1, h2, h3, h4⟩ := ixN_seq e
    exact ⟨j, h1, h, h2, h3, h4⟩
theorem atI_nat {α : Type} {xs : List α} {j : Nat} {v : α} (h : xs[j]? = some v) : atI xs (j : Int) = some v := by
  have hj : j < xs.length := (List.getElem?_eq_some_iff.mp h).1
  have e : ixN xs.length (j : Int) = some j := by
    unfold ixN
    rw [if_pos (by omega), if_pos (by omega)]; simp
  unfold atI; rw [e]; exact h
def PlainIx (b : Expr) : Prop := ∀ o i, subscripted b false o i = operate [o, i] (getItem o i)
def IxR (X : Cx) (r : R2) : Prop :=
  ∀ (value slice : Expr) (pins : List (Addr × Obj)) (s : Shared) (σ : St) (H : Hp) (x y : V) (v u : Value) (Q : VK), Inv X pins σ H s → RelV x v → RelV y u → r x y H Q →
    subscripted slice false v u = operate [v, u] (getItem v u) → wpAny (model X.prog X.w) X.A (subscriptTail value slice v u) (EP X pins σ Q) X.xe s
def MtR (X : Cx) (id : String) (r : V → List V → Hp → VK → Prop) : Prop :=
  ∀ (pins : List (Addr × Obj)) (s : Shared) (σ : St) (H : Hp) (x : V) (xs : List V) (v : Value) (us : List Value) (Q : VK), Inv X pins σ H s → RelV x v → Vals xs us → r x xs H Q →
    wpAny (model X.prog X.w) X.A (call (.builtin id) (v :: us)) (EP X pins σ Q) X.xe s
section
variable {X : Cx} {a b : Expr} {ta tb : TE} {pos : Pos}
theorem pe_ix {r : R2} (hr : IxR X r) (ha : PE X a ta) (hb : PE X b tb) (hs : PlainIx b) : PE X (.Subscript a b pos) (tOp r ta tb) := by
  intro pins s σ H Q I h
  exact Subscript_ (binT ha hb I h fun v u s2 x y H2 I2 rx ry q => hr a b pins s2 σ H2 x y v u Q I2 rx ry q (hs _ _))
def rIxL (K : PySem.W.Frag) : R2 := fun x y H Q => ∃ p xs i v, x = .ref p ∧ y = .int i ∧ SqL K H p xs ∧ atI xs i = some v ∧ Q v H
def rIxT (K : PySem.W.Frag) : R2 := fun x y H Q => ∃ p xs i v, x = .ref p ∧ y = .int i ∧ SqT K H p xs ∧ atI xs i = some v ∧ Q v H
def rIxS : R2 := fun x y H Q => ∃ z i c, x = .str z ∧ y = .int i ∧ z.length ≤ sizeLine ∧ atI z.cps.toList i = some c ∧ Q (.str ⟨#[c]⟩) H
theorem ix_list : IxR X (rIxL X.K) := by
  intro value slice pins s σ H x y v u Q I rx ry h hs
  obtain ⟨p, xs, i, z, rfl, rfl, hq, he, q⟩ := h
  cases rx
  obtain ⟨t, rfl⟩ := ry
  obtain ⟨its, r, pl, hz⟩ := I.list hq
  obtain ⟨j, h1, h2, h3, h4, h5⟩ := atI_get he
  obtain ⟨w, ew, rw'⟩ := r.get h2
  have hl := r.length
  have hn := line63
  have fin : EP X pins σ Q w s := ⟨z, H, I, rw', q⟩
  by_cases h0 : 0 ≤ i
  · have hj : i.toNat = j := by
      rw [seqIndex_of h0 h5] at h1
      exact Option.some.inj h1
    exact item_listR pl.isList h0 (by omega) (by rw [hj]; simpa using ew) fin hs
  · have hj : (i + (its.toArray.size : Int)).toNat = j := by
      rw [seqIndex_neg (by omega) h4] at h1
      rw [List.size_toArray, ← hl]
      exact Option.some.inj h1
    exact subscriptTail_builtinR (x := w) pl.isList.typeIs slot_list_getitem.lookup
      (wpAny_getItem_list_neg (Q := fun r s' => r = w ∧ EP X pins σ Q r s') pl.isList (by omega) (by rw [List.size_toArray] <;> omega) (by omega) (by rw [hj]; simpa using ew) ⟨rfl, fin⟩) hs
theorem ix_tup : IxR X (rIxT X.K) := by
  intro value slice pins s σ H x y v u Q I rx ry h hs
  obtain ⟨p, xs, i, z, rfl, rfl, hq, he, q⟩ := h
  cases rx
  obtain ⟨t, rfl⟩ := ry
  obtain ⟨its, r, pl, hz⟩ := I.tuple hq
  obtain ⟨j, h1, h2, h3, h4, h5⟩ := atI_get he
  obtain ⟨w, ew, rw'⟩ := r.get h2
  have hl := r.length
  have hn := line63
  have fin : EP X pins σ Q w s := ⟨z, H, I, rw', q⟩
  exact subscriptTail_builtinR (x := w) pl.typeIs slot_tuple_getitem.lookup
    (getItem_tuple (j := j) (Q := fun r s' => r = w ∧ EP X pins σ Q r s') pl (by omega) (by omega) (by rw [List.size_toArray, ← hl]; exact h1) (by simpa using ew) ⟨rfl, fin⟩) hs
theorem ix_str : IxR X rIxS := by
  intro value slice pins s σ H x y v u Q I rx ry h hs
  obtain ⟨z, i, c, rfl, rfl, hz, he, q⟩ := h
  obtain ⟨t, rfl⟩ := rx
  obtain ⟨t', rfl⟩ := ry
  obtain ⟨j, h1, h2, h3, h4, h5⟩ := atI_get he
  have hl : z.cps.toList.length = z.length := by simp [Str.length]
  rw [hl] at h1 h4 h5
  have hn := line63
  exact tail_any (typeIs_str s z t) slot_str_getitem.lookup (getItem_str (c := c) (by
    have e1 : decide (i < -(2 ^ 63 : Int)) = false := decide_eq_false (by omega)
    have e2 : decide (i ≥ 2 ^ 63) = false := decide_eq_false (by omega)
    rw [e1, e2, Bool.or_false]) (by rw [h1]; simpa using h2) ⟨.str ⟨#[c]⟩, H, I.tok _, ⟨_, rfl⟩, q⟩) hs
theorem slice_bounds (lo hi : Option Int) (n : Nat) : (sliceBounds lo hi none n).1 = ((HT.sIx n 0 lo : Nat) : Int) ∧ (sliceBounds lo hi none n).2.1 = ((HT.sIx n n hi : Nat) : Int) ∧ (sliceBounds lo hi none n).2.2 = 1 := by
  refine ⟨?_, ?_, rfl⟩
  · cases lo with
    | none => simp [sliceBounds, HT.sIx]
    | some i =>
      simp only [sliceBounds, HT.sIx, Option.getD_none, show (1 : Int) > 0 by decide, if_true]
      by_cases h : i < 0
      · simp only [h, if_true] <;> omega
      · simp only [h, if_false] <;> omega
  · cases hi with
    | none => simp [sliceBounds, HT.sIx]
    | some i =>
      simp only [sliceBounds, HT.sIx, Option.getD_none, show (1 : Int) > 0 by decide, if_true]
      by_cases h : i < 0
      · simp only [h, if_true] <;> omega
      · simp only [h, if_false] <;> omega
theorem slicePick_cut (its : List Value) (lo hi : Option Int) : slicePick its.toArray lo hi none = ((its.drop (HT.sIx its.length 0 lo)).take (HT.sIx its.length its.length hi - HT.sIx its.length 0 lo)).toArray := by
  obtain ⟨h1, h2, h3⟩ := slice_bounds lo hi its.toArray.size
  unfold slicePick
  rw [h1, h2, h3]
  simp only [sliceRange_one, pick_run, List.size_toArray] <;> rfl
def rSlL (K : PySem.W.Frag) : V → Option Int → Option Int → Hp → VK → Prop := fun x lo hi H Q => ∃ a xs, x = .ref a ∧ SqL K H a xs ∧ ∀ p, H p = none → Q (.ref p) (upd H p (.lst (cutV xs lo hi)))
theorem sl_list : SlR X (rSlL X.K) := by
  intro pins s σ H x v vl vu lo hi sl Q I rx hs pl pu h
  obtain ⟨a, xs, rfl, hx, q⟩ := h
  cases rx
  obtain ⟨its, r, ht, hz⟩ := I.list hx
  have hlen := r.length
  refine ⟨"list", _, slot_list_getitem.lookup, ht.isList.typeIs, ?_⟩
  refine wpAny_getItem_list_slice ht.isList hs pl pu .none (by simp) ?_ (by rw [List.size_toArray] <;> omega)
  rw [slicePick_cut, ← hlen]
  refine ⟨.ref s.heap.objs.size, _, I.laid (t' := s.toks) (o := .lst (cutV xs lo hi)) (fun b ob q => Heap.get?_push_of_some _ q) (Nat.le_refl _) ?_, rfl, q _ (I.hok.fresh (Nat.le_refl _))⟩
  exact ⟨Nat.le_trans (cutV_length xs lo hi) hz, _, 0, (r.drop (HT.sIx xs.length 0 lo)).take (HT.sIx xs.length xs.length hi - HT.sIx xs.length 0 lo), Heap.get?_push_size _ rfl⟩
theorem call_len_seq : CallR X (.builtin "len") (fun xs H Q => ∃ p ys, xs = [.ref p] ∧ (SqL X.K H p ys ∨ SqT X.K H p ys) ∧ Q (.int ys.length) H) := by
  intro pins s σ H xs us Q I r h
  obtain ⟨p, ys, rfl, hq, q⟩ := h
  obtain ⟨u, rfl, rx⟩ := vals1 r
  cases rx
  have hn := line63
  rcases hq with hq | hq
  · obtain ⟨its, r', pl, hz⟩ := I.list hq
    have hlen := r'.length
    exact Calls.call_len_list pl.isList (by simp only [List.size_toArray] <;> omega) ⟨.int ys.length, H, I.tok _, ⟨s.toks + 1, by rw [List.size_toArray, hlen]⟩, q⟩
  · obtain ⟨its, r', pl, hz⟩ := I.tuple hq
    have hlen := r'.length
    exact len_tuple pl (by simp only [List.size_toArray] <;> omega) ⟨.int ys.length, H, I.tok _, ⟨s.toks + 1, by rw [List.size_toArray, hlen]⟩, q⟩
theorem call_len_str : CallR X (.builtin "len") (fun xs H Q => ∃ z, xs = [.str z] ∧ z.length ≤ sizeLine ∧ Q (.int z.length) H) := by
  intro pins s σ H xs us Q I r h
  obtain ⟨z, rfl, hz, q⟩ := h
  obtain ⟨u, rfl, t, rfl⟩ := vals1 r
  have hn := line63
  exact len_str (by omega) ⟨.int z.length, H, I.tok _, ⟨_, rfl⟩, q⟩
theorem call_list_of : CallR X (.type "list") (fun xs H Q => ∃ p ys, xs = [.ref p] ∧ (SqL X.K H p ys ∨ SqT X.K H p ys) ∧ ∀ l, H l = none → Q (.ref l) (upd H l (.lst ys))) := by
  intro pins s σ H xs us Q I r h
  obtain ⟨p, ys, rfl, hq, q⟩ := h
  obtain ⟨u, rfl, rx⟩ := vals1 r
  cases rx
  have fin : ∀ (its : List Value), Vals ys its → ys.length ≤ sizeLine → ∀ (h' : Heap) (c' : Nat), (∀ b o', s.heap.get? b = some o' → h'.get? b = some o') →
      h'.get? s.heap.objs.size = some { cls := .type "list", dict := none, data := .seq its.toArray c', slots := #[] } → EP X pins σ Q (.ref s.heap.objs.size) { s with heap := h' } := fun its r' hz h' c' kp e =>
    ⟨.ref s.heap.objs.size, _, I.laid (t' := s.toks) kp (Nat.le_refl _) (show ObjOk X.prog X.w _ h' _ (.lst ys) from ⟨hz, its, c', r', e⟩), rfl, q _ (I.hok.fresh (Nat.le_refl _))⟩
  rcases hq with hq | hq
  · obtain ⟨its, r', pl, hz⟩ := I.list hq
    have hlen := r'.length
    obtain ⟨o, ho, hc, n, hd⟩ := pl.isList
    exact call_list_seq p (.inl rfl) ho hc hd (fun h' c' kp e => fin its r' hz h' c' kp e) (by simp only [List.size_toArray] <;> omega)
  · obtain ⟨its, r', pl, hz⟩ := I.tuple hq
    have hlen := r'.length
    obtain ⟨o, ho, hc, n, hd⟩ := pl
    exact call_list_seq p (.inr rfl) ho hc hd (fun h' c' kp e => fin its r' hz h' c' kp e) (by simp only [List.size_toArray] <;> omega)
def tyV (K : PySem.W.Frag) (T : String) (x : V) (H : Hp) : Prop := match x with
  | .str _ => T = "str"
  | .int _ => T = "int"
  | .ref p => (T = "list" ∧ ∃ xs, SqL K H p xs) ∨ (T = "tuple" ∧ ∃ o, K.lookup p = some o ∧ o.cls = .type "tuple" ∧ o.dict = none) ∨
      (T = "dict" ∧ ((∃ kvs, H p = some (.dK kvs)) ∨ ∃ kvs, H p = some (.dT kvs))) ∨ (T = "set" ∧ ∃ S n, H p = some (.set S n))
  | _ => False
theorem tyV_is {pins : List (Addr × Obj)} {σ : St} {H : Hp} {s : Shared} {T : String} {x : V} {v : Value} (I : Inv X pins σ H s) (r : RelV x v) (ty : tyV X.K T x H) :
    s.TypeIs v T ∧ ∀ a, v = .ref a → ∃ ob, s.heap.get? a = some ob ∧ ob.dict = none := by
  cases x with
  | str z =>
    obtain ⟨t, rfl⟩ := r
    cases (show T = "str" from ty)
    exact ⟨typeIs_str s z t, fun _ e => nomatch e⟩
  | int i =>
    obtain ⟨t, rfl⟩ := r
    cases (show T = "int" from ty)
    exact ⟨typeIs_int s i t, fun _ e => nomatch e⟩
  | ref p =>
    cases r
    rcases ty with ⟨rfl, xs, hq⟩ | ⟨rfl, o, hk, hc, hd⟩ | ⟨rfl, hk⟩ | ⟨rfl, S, n, hk⟩
    · obtain ⟨its, _, pl, _⟩ := I.list hq
      refine ⟨pl.isList.typeIs, fun a e => ?_⟩
      cases e
      obtain ⟨o, n, e, c, hd, _⟩ := pl
      exact ⟨o, e, hd⟩
    · refine ⟨⟨o, I.kIn p o hk, hc⟩, fun a e => ?_⟩
      cases e
      exact ⟨o, I.kIn _ o hk, hd⟩
    · have z : ∃ o, s.heap.get? p = some o ∧ o.ExactDict := by
        rcases hk with ⟨kvs, hk⟩ | ⟨kvs, hk⟩
        · obtain ⟨_, _, _, _, o, _, _, e, ex, _⟩ := I.hok p _ hk
          exact ⟨o, e, ex⟩
        · obtain ⟨_, _, _, _, o, _, _, e, ex, _⟩ := I.hok p _ hk
          exact ⟨o, e, ex⟩
      obtain ⟨o, e, ex⟩ := z
      refine ⟨⟨o, e, ex.1⟩, fun a e2 => ?_⟩
      cases e2
      exact ⟨o, e, ex.2.1⟩
    · obtain ⟨o, _, _, _, e, ex, _⟩ := I.hok p _ hk
      refine ⟨⟨o, e, ex.1⟩, fun a e2 => ?_⟩
      cases e2
      exact ⟨o, e, ex.2.1⟩
  | _ => exact False.elim ty
def tBM0 (K : PySem.W.Frag) (T : String) (r : V → List V → Hp → VK → Prop) (to : TE) : TE := fun σ H Q => to σ H fun x H1 => tyV K T x H1 ∧ r x [] H1 Q
def tBM (K : PySem.W.Frag) (T : String) (r : V → List V → Hp → VK → Prop) (to : TE) (t : TA) : TE := fun σ H Q => to σ H fun x H1 => tyV K T x H1 ∧ t σ H1 fun xs H2 => r x xs H2 Q
variable {o e : Expr} {es : List Expr} {to : TE} {t : TA} {name : Str} {apos cpos : Pos} {T id : String} {r : V → List V → Hp → VK → Prop}
theorem pe_bm0 (pa : PlainAttrs T) (slot : Slot T name id) (hty : typeOf (.builtin id) = pure (.type "method_descriptor")) (hm : MtR X id r) (ho : PE X o to)
    (hbase : attributeBase o name X.env (eval o X.env) = eval o X.env := by rfl) (hline : (apos.endLine == cpos.line) = true := by rfl) : PE X (.Call (.Attribute o name apos) [] [] cpos) (tBM0 X.K T r to) := by
  intro pins s σ H Q I h
  refine wpAny_Call_method0_late hbase hline (thn (ho pins s σ H _ I h) fun v s1 ⟨x, H1, I1, r1, ty, q1⟩ => ?_)
  obtain ⟨h1, h2⟩ := tyV_is I1 r1 ty
  exact ⟨T, id, pa, slot, hty, h1, h2, Calls.callWith_builtin rfl (PySem.evalArgs_none (hm pins s1 σ H1 x [] v [] Q I1 r1 .nil q1))⟩
theorem pe_bm (pa : PlainAttrs T) (slot : Slot T name id) (hty : typeOf (.builtin id) = pure (.type "method_descriptor")) (hm : MtR X id r) (ho : PE X o to) (ha : PA X (e :: es) t)
    (hbase : attributeBase o name X.env (eval o X.env) = eval o X.env := by rfl)
    (hfew : ((backTo cpos (starEach (e :: es) X.env)).all (fun x => !x.1) && (backToKw cpos (keywordEach [] X.env)).all (fun x => x.1.isSome)
      && decide ((e :: es).length + ([] : List Keyword).length + (if ([] : List Keyword).isEmpty then 0 else 1) < 30)) = true := by rfl)
    (hline : (apos.endLine == cpos.line) = true := by rfl) (hs : starEach (e :: es) X.env = (false, eval e X.env) :: starEach es X.env := by rfl) (hplain : (backTo cpos (starEach es X.env)).any (·.1) = false := by rfl) :
    PE X (.Call (.Attribute o name apos) (e :: es) [] cpos) (tBM X.K T r to t) := by
  intro pins s σ H Q I h
  refine wpAny_Call_method_late hbase hfew hline rfl (thn (ho pins s σ H _ I h) fun v s1 ⟨x, H1, I1, r1, ty, q1⟩ => ?_)
  obtain ⟨h1, h2⟩ := tyV_is I1 r1 ty
  refine ⟨T, id, pa, slot, hty, h1, h2, ?_⟩
  have hA := ha cpos pins s1 σ H1 _ I1 q1
  rw [hs] at hA ⊢
  refine Calls.callWith_builtin (by show (false || (backTo cpos (starEach es X.env)).any (·.1)) = false; rw [hplain] <;> rfl) (Calls.evalArgs_plain ?_)
  exact thn hA fun us s2 ⟨vs, H2, I2, r2, q2⟩ => hm pins s2 σ H2 x vs v us Q I2 r1 r2 q2
/- xs.append(e), list.index on a module's tuple .. are MtR facts of 06m -/
end
end L2
namespace L2
open PySem PySem.Spec PyProof.Rows
def MtM (X : Cx) (id : String) (r : V → List V → Hp → VK → Prop) : Prop :=
  ∀ (pins : List (Addr × Obj)) (s : Shared) (σ : St) (H : Hp) (x : V) (xs : List V) (v : Value) (us : List Value) (Q : VK), Inv X pins σ H s → RelV x v → Vals xs us → r x xs H Q →
    wpAny (model X.prog X.w) X.A (call (.builtin id) (v :: us)) (EP X pins σ Q) X.xe s
theorem Vals.one : ∀ {x : V} {us : List Value}, Vals [x] us → ∃ u, us = [u] ∧ RelV x u
  | _, _, .cons r .nil => ⟨_, rfl, r⟩
theorem Vals.zero : ∀ {us : List Value}, Vals [] us → us = []
  | _, .nil => rfl
theorem Vals.eraseIdx : ∀ {xs : List V} {us : List Value} (i : Nat), Vals xs us → Vals (xs.eraseIdx i) (us.eraseIdx i)
  | _, _, _, .nil => .nil
  | _, _, 0, .cons _ t => t
  | _, _, i + 1, .cons r t => .cons r (Vals.eraseIdx i t)
theorem Vals.rep {xs : List V} {us : List Value} (h : Vals xs us) : ∀ k : Nat, Vals (List.replicate k xs).flatten (List.replicate k us).flatten
  | 0 => .nil
  | k + 1 => by
    rw [List.replicate_succ, List.replicate_succ, List.flatten_cons, List.flatten_cons]
    exact Vals.append h (Vals.rep h k)
theorem len_erase {α : Type} : ∀ (l : List α) (i : Nat), (l.eraseIdx i).length ≤ l.length
  | [], _ => Nat.le_refl _
  | _ :: _, 0 => Nat.le_succ _
  | _ :: r, i + 1 => Nat.succ_le_succ (len_erase r i)
theorem foldl_rep (its : List Value) : ∀ (k : Nat) (acc : List Value),
    List.foldl (fun x1 x2 => x1 ++ x2) acc.toArray (List.replicate k its.toArray) = (acc ++ (List.replicate k its).flatten).toArray
  | 0, acc => by simp
  | k + 1, acc => by
    have e : acc.toArray ++ its.toArray = (acc ++ its).toArray := by simp
    have e2 : (acc ++ its) ++ (List.replicate k its).flatten = acc ++ (List.replicate (k + 1) its).flatten := by
      rw [List.replicate_succ, List.flatten_cons, List.append_assoc]
    rw [← e2, ← foldl_rep its k (acc ++ its), ← e, List.replicate_succ, List.foldl_cons]
section
variable {X : Cx} {pins : List (Addr × Obj)} {σ : St} {H : Hp} {s : Shared} {l b : Addr} {xs ys zs : List V}
theorem Inv.lset {its its' : List Value} {n : Nat} {f : Array Value → Array Value} {t' : Nat} (I : Inv X pins σ H s) (hH : H l = some (.lst xs))
    (e : s.heap.get? l = some { cls := .type "list", data := .seq its.toArray n }) (hf : f its.toArray = its'.toArray) (hv : Vals ys its') (hz : ys.length ≤ sizeLine) :
    Inv X pins σ (upd H l (.lst ys)) { s with heap := s.heap.update l (Obj.mapSeq f), toks := t' } := by
  have q := PySem.IsL.update e f
  rw [hf] at q
  refine I.write (x := l) (e := l) (by rw [hH]; exact trivial) (.inl rfl) (fun b' u hb hu => (Heap.get?_update_other s.heap (Obj.mapSeq f) (Ne.symm hb)).trans hu) ⟨_, q⟩ ?_
  exact ⟨hz, its', _, hv, q⟩
theorem Inv.lnew {its : List Value} {t' : Nat} (I : Inv X pins σ H s) (hv : Vals ys its) (hz : ys.length ≤ sizeLine) :
    Inv X pins σ (upd H s.heap.objs.size (.lst ys)) { s with heap := s.heap.push { cls := .type "list", data := .seq its.toArray }, toks := t' } :=
  I.laid (fun _ _ q => Heap.get?_push_of_some _ q) (Nat.le_refl _) ⟨hz, its, 0, hv, Heap.get?_push_size _ rfl⟩
theorem Inv.fresh (I : Inv X pins σ H s) : H s.heap.objs.size = none := I.hok.fresh (Nat.le_refl _)
theorem Inv.lstM (I : Inv X pins σ H s) (hH : H l = some (.lst xs)) : xs.length ≤ sizeLine ∧ ∃ (its : List Value) (n : Nat), Vals xs its ∧ xs.length = its.length ∧ s.heap.get? l = some { cls := .type "list", data := .seq its.toArray n } := by
  obtain ⟨z, its, n, r, e⟩ := I.hok l _ hH
  exact ⟨z, its, n, r, r.length, e⟩
theorem notLongL {n : Nat} (h : n ≤ sizeLine) : Builtin.List.listTooLong n = false := by
  unfold Builtin.List.listTooLong
  exact decide_eq_false (by omega)
end
section
variable {X : Cx}
def rAppend : V → List V → Hp → VK → Prop := fun x vs H Q => ∃ l xs y, x = .ref l ∧ vs = [y] ∧ H l = some (.lst xs) ∧ xs.length < sizeLine ∧ Q .non (upd H l (.lst (xs ++ [y])))
theorem mt_append : MtM X "list.append" rAppend := by
  intro pins s σ H x vs v us Q I rx rv h
  obtain ⟨l, xs, y, rfl, rfl, hH, hz, q⟩ := h
  cases rx
  obtain ⟨u, rfl, ru⟩ := rv.one
  obtain ⟨z, its, n, r, hl, e⟩ := I.lstM hH
  refine call_meets F.slot_list_append ⟨_, e, rfl⟩ F.entry_list_append (F.args_list_append_2 _ _) (PySem.list_append l its.toArray n u (by rw [List.size_toArray]; omega)) ⟨e, ?_⟩
  refine ⟨.non, _, I.lset (its' := its ++ [u]) hH e (by simp) (r.append (.cons ru .nil)) ?_, rfl, q⟩
  rw [List.length_append, List.length_singleton]
  omega
def rPopAt : V → List V → Hp → VK → Prop := fun x vs H Q => ∃ l xs i k y, x = .ref l ∧ vs = [.int i] ∧ H l = some (.lst xs) ∧ -(2 ^ 63) ≤ i ∧ i < 2 ^ 63 ∧ seqIndex? i xs.length = some k ∧ xs[k]? = some y ∧ Q y (upd H l (.lst (xs.eraseIdx k)))
theorem mt_popAt : MtM X "list.pop" rPopAt := by
  intro pins s σ H x vs v us Q I rx rv h
  obtain ⟨l, xs, i, k, y, rfl, rfl, hH, h1, h2, hk, hy, q⟩ := h
  cases rx
  obtain ⟨u, rfl, ru⟩ := rv.one
  obtain ⟨t, rfl⟩ := ru
  obtain ⟨z, its, n, r, hl, e⟩ := I.lstM hH
  obtain ⟨w, hw, rw'⟩ := r.get hy
  refine call_meets F.slot_list_pop ⟨_, e, rfl⟩ F.entry_list_pop (F.args_list_pop_2 _ _)
    (MeetsSeq.list_pop_at l its.toArray n i t k w (fitsIndex_both h1 h2) (by rw [List.size_toArray, ← hl]; exact hk) (by rw [← Array.getElem?_toList]; exact hw) (by rw [List.size_toArray]; omega)) ⟨e, ?_⟩
  refine ⟨y, _, I.lset (its' := its.eraseIdx k) hH e ?_ (r.eraseIdx k) ?_, rw', q⟩
  · show its.toArray.eraseIdxIfInBounds k = (its.eraseIdx k).toArray
    rw [List.eraseIdxIfInBounds_toArray]
  · have := len_erase xs k
    omega
def rClear : V → List V → Hp → VK → Prop := fun x vs H Q => ∃ l xs, x = .ref l ∧ vs = [] ∧ H l = some (.lst xs) ∧ Q .non (upd H l (.lst []))
theorem mt_clear : MtM X "list.clear" rClear := by
  intro pins s σ H x vs v us Q I rx rv h
  obtain ⟨l, xs, rfl, rfl, hH, q⟩ := h
  cases rx
  have hus := rv.zero
  subst hus
  obtain ⟨z, its, n, r, hl, e⟩ := I.lstM hH
  refine call_meets F.slot_list_clear ⟨_, e, rfl⟩ F.entry_list_clear (F.args_list_clear_1 _) (AutoSeq1.list_clear_list_0 l its.toArray n (by rw [List.size_toArray]; omega)) ⟨e, ?_⟩
  exact ⟨.non, _, I.lset (its' := []) (ys := []) hH e rfl .nil (Nat.zero_le _), rfl, q⟩
def rCat : R2 := fun x y H Q => ∃ l b xs zs, x = .ref l ∧ y = .ref b ∧ H l = some (.lst xs) ∧ H b = some (.lst zs) ∧ xs.length + zs.length ≤ sizeLine ∧ ∀ p, H p = none → Q (.ref p) (upd H p (.lst (xs ++ zs)))
theorem op_cat : OpR X (binaryOp .Add) rCat := by
  intro pins s σ H x y v u Q I rx ry h
  obtain ⟨l, b, xs, zs, rfl, rfl, hH, hB, hz, q⟩ := h
  cases rx
  cases ry
  obtain ⟨z, its, n, r, hl, e⟩ := I.lstM hH
  obtain ⟨z2, its2, n2, r2, hl2, e2⟩ := I.lstM hB
  refine PySem.P.add_list e e2 ?_ (by rw [List.size_toArray, List.size_toArray]; omega)
  have ea : its.toArray ++ its2.toArray = (its ++ its2).toArray := by simp
  rw [ea]
  exact ⟨.ref _, _, I.lnew (t' := s.toks) (r.append r2) (by rw [List.length_append]; omega), rfl, q _ I.fresh⟩
def rRep : R2 := fun x y H Q => ∃ l k xs, x = .ref l ∧ y = .int k ∧ H l = some (.lst xs) ∧ -(2 ^ 63) ≤ k ∧ k < 2 ^ 63 ∧ xs.length * k.toNat ≤ sizeLine ∧
  ∀ p, H p = none → Q (.ref p) (upd H p (.lst (List.replicate k.toNat xs).flatten))
theorem len_rep {α : Type} (xs : List α) (k : Nat) : (List.replicate k xs).flatten.length = k * xs.length := by
  induction k with
  | zero => simp
  | succ k ih => rw [List.replicate_succ, List.flatten_cons, List.length_append, ih, Nat.succ_mul, Nat.add_comm]
theorem op_rep : OpR X (binaryOp .Mult) rRep := by
  intro pins s σ H x y v u Q I rx ry h
  obtain ⟨l, k, xs, rfl, rfl, hH, h1, h2, hz, q⟩ := h
  cases rx
  obtain ⟨t, rfl⟩ := ry
  obtain ⟨z, its, n, r, hl, e⟩ := I.lstM hH
  have hlen : its.toArray.size * k.toNat ≤ sizeLine := by rw [List.size_toArray, ← hl]; exact hz
  have hcap : ¬ its.toArray.size * k.toNat > (2 ^ 63 - 1) / 8 := by
    have : (sizeLine : Nat) ≤ (2 ^ 63 - 1) / 8 := by decide
    omega
  have hfit : ¬ (!Builtin.List.listFitsIndex k) = true := by
    rw [fitsIndex_both h1 h2]
    exact Bool.false_ne_true
  have hlong : ¬ Builtin.List.listTooLong (its.toArray.size * k.toNat) = true := by
    rw [notLongL hlen]
    exact Bool.false_ne_true
  have hnew : List.foldl (fun x1 x2 => x1 ++ x2) #[] (List.replicate (if its.toArray.isEmpty = true then 0 else k.toNat) its.toArray) = (List.replicate k.toNat its).flatten.toArray := by
    have f0 : ∀ m : Nat, List.foldl (fun x1 x2 => x1 ++ x2) #[] (List.replicate m its.toArray) = (List.replicate m its).flatten.toArray := fun m => by
      have := foldl_rep its m []
      rw [List.nil_append] at this
      exact this
    rw [f0]
    cases its with
    | nil => simp
    | cons a r' => rw [if_neg (by simp)]
  refine wpAny_binaryOp_repeat_ref (T := "list") (U := "int") (by decide) ⟨_, e, rfl⟩ (fun s' => typeIs_int s' k t) noFill_list_mul F.fills_int_mul F.slot_int_rmul repeat_list F.slot_int_index.lookup
    (call_meets F.slot_int_rmul (typeIs_int s k t) F.entry_int_rmul (F.args_int_rmul_2 _ _) (int___rmul___int_list k t l its.toArray n)
      ⟨e, rfl, ⟨_, e, rfl⟩, call_meets F.slot_list_mul ⟨_, e, rfl⟩ F.entry_list_mul (F.args_list_mul_2 _ _) (AutoListH.list___mul___list_int_3 l its.toArray n k t hfit hcap hlong) ⟨e, ?_⟩⟩)
  rw [hnew]
  exact ⟨.ref _, _, I.lnew (t' := s.toks) (r.rep k.toNat) (by rw [len_rep, Nat.mul_comm]; exact hz), rfl, q _ I.fresh⟩
end
end L2
namespace Att
open PySem PySem.W PySem.Calls PyProof.Rows
theorem ints_of_wellAll {P : Params} {h : Heap} : ∀ (ns : List Int) (vs : List Value), WellAll P h vs (ns.map WData.int) → IntsAre vs ns := by
  intro ns
  induction ns with
  | nil =>
    intro vs w
    rw [List.map_nil] at w
    cases w
    exact .nil
  | cons n ns ih =>
    intro vs w
    rw [List.map_cons] at w
    cases w with
    | cons a b =>
      cases a
      exact .cons _ _ (ih _ b)
theorem script_of {l : OpenLaw} {n : Nat} (hn : l.most = some n) {P : Params} {h : Heap} {args : List WData} {vals : List Value}
    (hpre : l.row.toRowW.claim.pre args = true) (hwl : WellAll P h vals args) :
    ∃ a vs ns, vals = [Value.ref a] ∧ args = [WData.list (ns.map WData.int)] ∧ h.get? a = some { cls := .type "list", data := .seq vs.toArray } ∧ IntsAre vs ns ∧ ns.length ≤ n := by
  have hsh : WShape.hasAll [] args [.list .int] = true := (pre_splitW hpre).1
  have hc : l.pre.holds [] { args := args } = true := (pre_splitW hpre).2
  obtain ⟨d, r, rfl, h1, h2⟩ := hasAllW_cons hsh
  obtain rfl := hasAllW_nil h2
  obtain ⟨xs, rfl, h3⟩ := hasW_list h1
  obtain ⟨ns, rfl⟩ := items_int h3
  have hlen : ns.length ≤ n := by
    unfold OpenLaw.pre at hc
    have h4 : (WTm.not (.lt (.lit (.int (n : Int))) (.len (.arg 0)))).holds [] { args := [.list (ns.map .int)] } = true := by
      have h4 := (holds_andW hc).1
      rw [hn] at h4
      exact h4
    have h5 := condW_of h4 (w_not (w_lt w_lit (w_len_list (w_arg rfl))))
    rw [List.length_map] at h5
    refine Nat.le_of_not_lt fun q => ?_
    have q' : (n : Int) < ((ns.length : Nat) : Int) := by omega
    first
      | (rw [decide_eq_true q'] at h5; exact absurd h5 (by decide))
      | (simp at h5; omega)
  cases hwl with
  | cons w1 w2 =>
    cases w2
    cases w1 with
    | list ho hall => exact ⟨_, _, ns, rfl, rfl, ho, ints_of_wellAll ns _ hall, hlen⟩
theorem post_true (l : OpenLaw) (args : List WData) : l.row.toRowW.claim.post args (.bool true) args = true :=
  postW_of (r := l.row.toRowW) (X := (true == true))
    (show WShape.has [] (.bool true) .bool = true by first | rfl | decide | simp [WShape.has, WShape.arms, WShape.armsAll])
    (show (WTm.eq .res (.lit (.bool true))).value [] { args := args, res := some (.bool true), after := args } = some (.bool (true == true)) from w_eq_bool (w_res rfl) w_lit) rfl
theorem attach_call {l : OpenLaw} {n : Nat} {q : Program} {loose : List Str} {XP : (Str → Option Value) → Heap → Prop} {YP : World → Heap → Prop} {d : DefRec}
    (hn : l.most = some n) (hdf : d.params.defaults = [])
    (call : ∀ (w : World) (s₀ s₁ : Shared) (mg mb : Str → Option Value) (fa : Addr) (o : Obj) (pm cd doc : Value) (a : Addr) (vs : List Value) (ns : List Int),
      Ground q loose [] XP w s₀ mg mb s₁.heap → YP w s₁.heap →
      s₁.heap.get? fa = some o → o.data = .func (docDef d.name d.params d.body d.scope pm cd doc) → s₁.heap.CodeRec cd d.name → mg d.name = some (.ref fa) →
      s₁.heap.get? a = some { cls := .type "list", data := .seq vs.toArray } → IntsAre vs ns → ns.length ≤ n → s₁.gens = #[] →
      codeAny (model l.prog w) callerA (.call (.ref fa) ⟨[.ref a], []⟩) (fun r s' => r = .ok (.ret (.bool true)) ∧ OldK s₁.heap s'.heap ∧ s'.os = s₁.os ∧ AllBare s'.gens) s₁) :
    WalkO q loose XP YP l.row.toRowW d [] (fun f vs => PySem.call f vs) := by
  intro w s₀ s₁ mg mb G Y fa o pm cd doc dV kV ho hd hcd hD hmg hg args vals as hpre hlay hrd hwl hlo
  obtain rfl : dV = .none := Dflts.none hD hdf
  obtain rfl : kV = .none := Dflts.noKw hD
  obtain ⟨a, vs, ns, rfl, rfl, hobj, hints, hlen⟩ := script_of hn hpre hwl
  refine enter_call (codeAny_mono (call w s₀ s₁ mg mb fa o pm cd doc a vs ns G Y ho (fd_plain hd) hcd hmg hobj hints hlen hg) fun r s' hq => ?_)
  obtain ⟨rfl, h2, h3, h4⟩ := hq
  exact ⟨.inl ⟨.bool true, .bool true, [], rfl, fun _ => rfl, .bool true, post_true l _, fun _ => ⟨List.Pairwise.nil, fun _ hm => (nomatch hm)⟩⟩, h2, h3, h4⟩
section
variable {prog : Program} {w : World} {A : Around} {E : Value → Shared → Prop} {s : Shared} {K : Frag}
end
end Att
namespace L2
open PySem PySem.Spec PyProof.Rows
theorem vals_ints : ∀ {vs : List Value} {ns : List Int}, IntsAre vs ns → Vals (ns.map V.int) vs
  | _, _, .nil => .nil
  | _, _, .cons n t h => .cons ⟨t, rfl⟩ (vals_ints h)
def Only (H : Hp) : Prop := ∀ b, H b = none ∨ ∃ o xs, H b = some (.frz o (.lst xs))
theorem law_call {P : Program} {w : World} {K : PySem.W.Frag} {mg mb : Str → Option Value} {CX : CXT} {k : Nat} {fa a : Addr} {fd : FuncData} {x : Str} {sp : Sp} {s₁ : Shared} {vs : List Value} {ns : List Int}
    (KX : K.In s₁.heap) (hns : s₁.heap.Ns mainGlobals mg) (hb : s₁.heap.Ns builtinsNs mb) (hbb : ∀ x : Str, x ≠ "__name__" → mb x = bootBuiltins x) (hlim : s₁.heap.NoLimit) (hg : s₁.gens = #[])
    (ha : s₁.heap.get? a = some { cls := .type "list", data := .seq vs.toArray }) (hi : IntsAre vs ns) (hl : ns.length ≤ sizeLine) (hr : Room k callerA)
    (F : ∀ base : Heap, K.In base → base.Ns mainGlobals mg → FnOk P w K mg base CX k fa fd [x] sp) (hbind : ∀ (s : Shared) (u : Value), BindsTo s fd ⟨[u], []⟩ [(x, u)])
    (hsp : ∀ H : Hp, Only H → SqL K H a (ns.map V.int) → sp [.ref a] H (fun v _ => v = .bl true) fun _ _ _ => False)
    (hCX : ∀ H e s', CX [] H s₁ (fun _ _ _ => False) e s' → False) :
    codeAny (model P w) callerA (.call (.ref fa) ⟨[.ref a], []⟩) (fun r s' => r = .ok (.ret (.bool true)) ∧ OldK s₁.heap s'.heap ∧ s'.os = s₁.os ∧ AllBare s'.gens) s₁ := by
  have rv := vals_ints hi
  have lenV := hi.length
  -- from an abstract heap in which nothing but the script may be tracked
  have core : ∀ H : Hp, Only H → SqL K H a (ns.map V.int) → HOk P w H s₁.heap → (∀ b, H b ≠ none → b = a) → (H a ≠ none → K.lookup a = none) →
      codeAny (model P w) callerA (.call (.ref fa) ⟨[.ref a], []⟩) (fun r s' => r = .ok (.ret (.bool true)) ∧ OldK s₁.heap s'.heap ∧ s'.os = s₁.os ∧ AllBare s'.gens) s₁ := by
    intro H hO hS hok hA hK
    have base_of : ∀ {b : Addr} {o : Obj}, s₁.heap.get? b = some o → H b = none → (hidT s₁.heap H).get? b = some o := fun e n => hidT_get e n
    have noA : ∀ {b : Addr} {o : Obj} {es : Array DictEntry} {ep : Nat}, s₁.heap.get? b = some o → o.data = .dict es ep → H b = none := fun {b o es ep} e d => by
      cases q : H b with
      | none => rfl
      | some u =>
        have e' : b = a := hA b (by rw [q]; simp)
        subst e'
        rw [ha] at e; cases e
        have d' : Data.seq vs.toArray _ = Data.dict es ep := d
        cases d'
    have nsK : ∀ {b : Addr} {m : Str → Option Value}, s₁.heap.Ns b m → (hidT s₁.heap H).Ns b m := fun {b m} ⟨o, es, ep, e, d, r⟩ => ⟨o, es, ep, base_of e (noA e d), d, r⟩
    have hKb : K.In (hidT s₁.heap H) := fun b o e => base_of (KX b o e) (by
      cases q : H b with
      | none => rfl
      | some u =>
        have e' : b = a := hA b (by rw [q]; simp)
        subst e'
        rw [hK (by rw [q]; simp)] at e; cases e)
    have hM : Mod K mg (hidT s₁.heap H) := ⟨hKb, nsK hns, ⟨mb, nsK hb, hbb⟩, let ⟨mc, h1, h2⟩ := hlim; ⟨mc, nsK h1, h2⟩⟩
    have e0 : Env0 P w K mg (hidT s₁.heap H) callerA [] s₁ H := ⟨rfl, hM, fun b o e => of_hidT e, Nat.le_of_eq (hidT_size _ _), trivial, fun b hb => absurd (show b ∈ ([] : List Addr) from hb) (by simp), hok, .of_eq hg⟩
    refine codeAny_mono ((F _ hKb (nsK hns)).run callerA [] s₁ H ⟨[.ref a], []⟩ [.ref a] [.ref a] _ _ hr e0 (hbind s₁ (.ref a)) (.cons rfl .nil) (hsp H hO hS)) fun r s' h => ?_
    cases r with
    | error e => exact (hCX H e s' h).elim
    | ok fl =>
      cases fl with
      | next => exact False.elim h
      | brk => exact False.elim h
      | cont => exact False.elim h
      | ret u =>
        obtain ⟨v, H', os, bare, un, hok', r', q⟩ := h
        have q' : v = .bl true := q
        subst q'
        obtain rfl : u = Value.bool true := r'
        refine ⟨rfl, OldK.of_keep fun b o e => ?_, os, bare⟩
        cases q : H b with
        | none => exact un.keep b o e q (by intro z; exact absurd (show b ∈ ([] : List Addr) from z) (by simp)) (by simp)
        | some u =>
          rcases hO b with z | ⟨ob, xs, z⟩
          · rw [q] at z; cases z
          · have z2 := un.frzs b ob _ z
            obtain ⟨e1, _⟩ := hok b _ z
            obtain ⟨e2, _⟩ := hok' b _ z2
            rw [e] at e1; cases e1
            exact e2
  cases hk : K.lookup a with
  | some o =>
    -- the script is one of the module's own objects
    have e := KX a o hk
    rw [ha] at e
    cases e
    refine core (fun _ => none) (fun _ => .inl rfl) (.inr ⟨_, vs.toArray, _, hk, rfl, rfl, rfl, by rw [List.size_toArray, lenV]; exact hl, by simpa using rv⟩) (fun b u z => by have z' : (none : Option HO) = some u := z; cases z') (fun b z => absurd rfl z) fun z => absurd rfl z
  | none =>
    refine core (fun b => if b = a then some (.frz { cls := .type "list", data := .seq vs.toArray } (.lst (ns.map V.int))) else none) (fun b => ?_) (.inl (.inr ⟨{ cls := .type "list", data := .seq vs.toArray }, if_pos rfl⟩)) (fun b u z => ?_) (fun b z => ?_) fun _ => hk
    · by_cases hb : b = a
      · exact .inr ⟨_, _, if_pos hb⟩
      · exact .inl (if_neg hb)
    · by_cases hb : b = a
      · have z' := (if_pos hb).symm.trans z
        cases z'
        subst hb
        exact ⟨ha, by rw [List.length_map]; exact hl, vs, _, rv, ha⟩
      · have z' := (if_neg hb).symm.trans z
        cases z'
    · by_cases hb : b = a
      · exact hb
      · exact absurd (if_neg hb) z
end L2
namespace L2
open PySem PySem.Spec PyProof.Rows
theorem walk_of {l : PySem.W.OpenLaw} {n k : Nat} {q : Program} {loose : List Str} {XP : (Str → Option Value) → Heap → Prop} {YP : World → Heap → Prop} {d : DefRec} {K : Params → PySem.W.Frag} {CX : World → CXT} {sp : World → Sp} {x : Str}
    (hn : l.most = some n) (hn2 : n ≤ sizeLine) (hdf : d.params.defaults = []) (hr : Room k callerA)
    (hY : ∀ (w : World) (h : Heap), YP w h → (K w.params).In h)
    (F : ∀ (w : World) (mg : Str → Option Value) (fa : Addr) (h : Heap), (K w.params).In h → h.Ns mainGlobals mg → mg d.name = some (.ref fa) →
      ∃ fd : FuncData, (∀ (s : Shared) (u : Value), BindsTo s fd ⟨[u], []⟩ [(x, u)]) ∧
        ∀ base : Heap, (K w.params).In base → base.Ns mainGlobals mg → FnOk l.prog w (K w.params) mg base (CX w) k fa fd [x] (sp w))
    (hsp : ∀ (w : World) (H : Hp) (a : Addr) (ns : List Int), ns.length ≤ n → Only H → SqL (K w.params) H a (ns.map V.int) → sp w [.ref a] H (fun v _ => v = .bl true) fun _ _ _ => False)
    (hCX : ∀ (w : World) (H : Hp) (s : Shared) (e : Value) (s' : Shared), CX w [] H s (fun _ _ _ => False) e s' → False) :
    PySem.W.WalkO q loose XP YP l.row.toRowW d [] (fun f vs => PySem.call f vs) := by
  refine Att.attach_call hn hdf fun w s₀ s₁ mg mb fa o pm cd doc a vs ns G Y ho hd hcd hmg hobj hints hlen hg => ?_
  have KX := hY w _ Y
  obtain ⟨fd, hb, hF⟩ := F w mg fa _ KX G.T.g hmg
  exact law_call KX G.T.g G.T.b G.T.builtins G.T.nolimit hg hobj hints (Nat.le_trans hlen hn2) hr hF hb (fun H hO hS => hsp w H a ns hlen hO hS) fun H e s' => hCX w H s₁ e s'
end L2
/- THE LAST THEOREM (shape; LID, My.* are yours):
   My.Adr: a structure of the addresses that your layer names (classes, functions); My.Txt K t: a structure (Prop) of the equations over K;
   My.txt_mk : {K} {implicit addresses ..} (e1 : nsIn K mainGlobals "law" = some (some (.ref f))) (e2 : K.lookup f = some ⟨oc, od, .func (fnOf "law" "law" params body scope dV kV doc pm an cdv ct), sl⟩) (e3 : codeIn K cdv "law" = true) .. : ∃ t, My.Txt K t
set_option maxRecDepth 100000 in
set_option maxHeartbeats 0 in
theorem PySem.Challenge.cw_LID_holds : PySem.Challenge.rw_LID.Holds := by
  w_on; o_law; k_head; (case hw => w_witness2)
  k_fill
  refine L2.walk_of (l := PySem.Challenge.rw_LID) (n := 63) (k := 40) (x := "script") (CX := fun w => ..) (sp := fun _ => My.sp_law) rfl (by decide) rfl ⟨rfl, by decide, by decide⟩ (fun w h Y => PySem.W.kIn_of Y) ?F ?S ?C
  case F =>
    intro w mg fa h KX G hmg
    have T : ∃ t, My.Txt (L2.KOf KX) t := by
      dsimp only [L2.KOf]                          -- K must stand as «<heap const> w.params» for k_is
      refine' My.txt_mk ?e1 ?e2 ?e3 ..
      (case e1 => PySem.W.k_is)                    -- in the order: a name -> its address -> its object -> its parts
      (case e2 => PySem.W.k_is)
      ..
    obtain ⟨t, T⟩ := T
    have e0 := hmg.symm.trans (PySem.W.mg_of KX G T.law)
    cases e0                                       -- fa is the law's own address
    exact ⟨_, fun s u => .of_eq rfl, fun base kb nb => My.law_fn T kb nb⟩     -- if «.of_eq rfl» comes too early: refine' ⟨_, ?b, fun base kb nb => My.law_fn T kb nb⟩; exact fun s u => .of_eq rfl
  case S => exact fun w H a ns hl hO hS => ..
  case C => exact ..
(the tactic k_is has no namespace: write k_is) -/
namespace L2
open PySem PySem.Spec PyProof.Rows
def defArgs (s : Stmt) : Arguments := match s with
  | .FunctionDef _ a _ _ _ _ _ _ _ _ => a
  | _ => { posonlyargs := [], args := [], vararg := none, kwonlyargs := [], kw_defaults := [], kwarg := none, defaults := [] }
def defBody (s : Stmt) : List Stmt := match s with
  | .FunctionDef _ _ b _ _ _ _ _ _ _ => b
  | _ => []
def defScope (s : Stmt) : Scope := match s with
  | .FunctionDef _ _ _ _ _ _ sc _ _ _ => sc
  | _ => { kind := .function, names := [], isGenerator := false, isCoroutine := false }
abbrev CX0 : CXT := fun _ _ _ _ _ _ => False
abbrev E0 : XK := fun _ _ _ => False
theorem pass0 {X : Cx} : Passes CX0 X E0 := fun _ _ _ _ _ _ _ h => h.elim
structure Fun (K : PySem.W.Frag) (x qual : Str) (st : Stmt) (f : Addr) (fd : FuncData) : Prop where
  ex : ∃ (oc : Value) (od : Option Addr) (kV doc pm : Value) (an : Option Addr) (cdv ct : Value) (osl : Array (Option Value)),
    fd = PySem.W.fnOf x qual (defArgs st) (defBody st) (defScope st) .none kV doc pm an cdv ct ∧ K.lookup f = some ⟨oc, od, .func fd, osl⟩ ∧ PySem.W.codeIn K cdv qual = true
  kp : PySem.W.keepIn K (.ref f) = true
section
variable {P : Program} {w : World} {K : PySem.W.Frag} {mg : Str → Option Value} {base : Heap}
theorem Fun.ok {x qual : Str} {st : Stmt} {f : Addr} {fd : FuncData} {N ps : List Str} {k : Nat} {sp : Sp} (F : Fun K x qual st f fd) (S : FnScope N ps (defScope st)) (len : ∀ vs H Q E, sp vs H Q E → vs.length = ps.length)
    (hbody : ∀ (cdv : Value) (A : Around) (outer : List Env) (s : Shared) (H : Hp) (vs : List V) (Q : VK) (E : XK), Room k (A.deeper (envOfC qual (defScope st) s.heap.objs.size f cdv)) → sp vs H Q E →
      ∃ t, PSs (cxOf CX0 P w K mg base N qual (defScope st) f cdv A outer s H E).nox (defBody st) t ∧ t { nx := fun _ H' => Q .non H', rt := Q } (start N vs) H) : FnOk P w K mg base CX0 (k + 1) f fd ps sp := by
  obtain ⟨oc, od, kV, doc, pm, an, cdv, ct, osl, rfl, lk, hcd⟩ := F.ex
  refine fn_of lk hcd S len fun A outer s H vs Q E hr hsp => ?_
  obtain ⟨t, h, q⟩ := hbody cdv A outer s H vs Q E hr hsp
  exact ⟨t, h.nox, q⟩
theorem Fun.binds {x qual : Str} {st : Stmt} {f : Addr} {fd : FuncData} {ps : List Str} (F : Fun K x qual st f fd)
    (h : ∀ (kV doc pm : Value) (an : Option Addr) (cdv ct : Value) (us : List Value), us.length = ps.length → bindArgs (PySem.W.fnOf x qual (defArgs st) (defBody st) (defScope st) .none kV doc pm an cdv ct) ⟨us, []⟩ = pure (ps.zip us)) : Binds K fd ps [] := by
  obtain ⟨oc, od, kV, doc, pm, an, cdv, ct, osl, rfl, lk, hcd⟩ := F.ex
  exact .all (h kV doc pm an cdv ct)
theorem fun_mk {x qual : Str} {st : Stmt} {f : Addr} {oc : Value} {od an : Option Addr} {osl : Array (Option Value)} {kV doc pm cdv ct : Value} (l : K.lookup f = some ⟨oc, od, .func (PySem.W.fnOf x qual (defArgs st) (defBody st) (defScope st) .none kV doc pm an cdv ct), osl⟩)
    (c : PySem.W.codeIn K cdv qual = true) (k : PySem.W.keepIn K (.ref f) = true) : Fun K x qual st f (PySem.W.fnOf x qual (defArgs st) (defBody st) (defScope st) .none kV doc pm an cdv ct) := ⟨⟨oc, od, kV, doc, pm, an, cdv, ct, osl, rfl, l, c⟩, k⟩
end
theorem small1000 {n : Nat} (h : n ≤ 1000) : n < sizeLine := Nat.lt_of_le_of_lt h (by decide)
section
variable {X : Cx}
theorem pv (i : Nat) {x : Str} {pos : Pos} (hN : X.N[i]? = some x := by rfl) (hv : Vis X.env.scope x := by first | exact Or.inl rfl | exact Or.inr (Or.inl rfl) | exact Or.inr (Or.inr rfl)) (hd : (x == ("__debug__" : Str)) = false := by decide)
    (hcd : (x == ("__classdict__" : Str)) = false := by decide) : PE X (.Name x pos) (tVar i) := pe_var hN hv hd hcd
end
theorem iteF {A B : Prop} (h : B) : if false = true then A else B := by
  rw [if_neg Bool.false_ne_true]
  exact h
theorem iteT {A B : Prop} (h : A) : if true = true then A else B := by
  rw [if_pos rfl]
  exact h
def Same (H H' : Hp) : Prop := ∀ b o, H b = some o → H' b = some o
theorem Same.refl (H : Hp) : Same H H := fun _ _ h => h
theorem Same.trans {H H1 H2 : Hp} (a : Same H H1) (b : Same H1 H2) : Same H H2 := fun c o h => b c o (a c o h)
theorem Same.free {H H' : Hp} (e : Same H H') {l : Addr} (h : H' l = Option.none) : H l = Option.none := by
  cases q : H l with
  | none => rfl
  | some o =>
    rw [e l o q] at h
    cases h
theorem Same.seq {K : PySem.W.Frag} {H H' : Hp} {a : Addr} {xs : List V} (e : Same H H') (h : SqL K H a xs) : SqL K H' a xs := by
  rcases h with (h | ⟨o, h⟩) | h
  · exact .inl (.inl (e _ _ h))
  · exact .inl (.inr ⟨o, e _ _ h⟩)
  · exact .inr h
end L2
namespace L2
open PySem PySem.Spec PyProof.Rows
section
variable {κ : Type} [DecidableEq κ]
def valV (kvs : List (κ × V)) (k : κ) : Option V := (kvs.find? fun kv => decide (kv.1 = k)).map (·.2)
def putK (kvs : List (κ × V)) (k : κ) (v : V) : List (κ × V) :=
  if (kvs.any fun kv => decide (kv.1 = k)) = true then kvs.map (fun kv => if kv.1 = k then (kv.1, v) else kv) else kvs ++ [(k, v)]
theorem valV_pos {p : κ × V} {r : List (κ × V)} {k : κ} (e : p.1 = k) : valV (p :: r) k = some p.2 := by simp [valV, List.find?_cons, e]
theorem valV_neg {p : κ × V} {r : List (κ × V)} {k : κ} (e : ¬ p.1 = k) : valV (p :: r) k = valV r k := by simp [valV, List.find?_cons, e]
theorem valV_any (k : κ) : ∀ kvs : List (κ × V), (kvs.any fun kv => decide (kv.1 = k)) = (valV kvs k).isSome
  | [] => rfl
  | p :: r => by
    rw [List.any_cons]
    by_cases e : p.1 = k
    · simp only [valV_pos e, decide_eq_true e, Bool.true_or, Option.isSome_some]
    · rw [valV_neg e, decide_eq_false e, Bool.false_or]; exact valV_any k r
theorem length_putK (kvs : List (κ × V)) (k : κ) (v : V) : (putK kvs k v).length ≤ kvs.length + 1 := by
  unfold putK
  split
  · rw [List.length_map]; omega
  · rw [List.length_append, List.length_cons, List.length_nil]; omega
theorem RelO.isSome_eq {o : Option V} {u : Option Value} (r : RelO o u) : o.isSome = u.isSome := by
  cases o with
  | none => cases u with
    | none => rfl
    | some _ => exact (show False from r).elim
  | some _ => cases u with
    | none => exact (show False from r).elim
    | some _ => rfl
theorem KV.val {kvs : List (κ × V)} {vs : List (κ × Value)} (r : KV kvs vs) (k : κ) : RelO (valV kvs k) (valueAt vs k) := by
  unfold KV at r
  induction r with
  | nil => exact True.intro
  | @cons p q ps qs h t ih =>
    obtain ⟨h1, h2⟩ := h
    by_cases e : p.1 = k
    · have e' : q.1 = k := h1.symm.trans e
      have b : valueAt (q :: qs) k = some q.2 := by simp [valueAt, List.find?_cons, e']
      rw [valV_pos e, b]; exact h2
    · have e' : ¬ q.1 = k := fun z => e (h1.trans z)
      have b : valueAt (q :: qs) k = valueAt qs k := by simp [valueAt, List.find?_cons, e']
      rw [valV_neg e, b]; exact ih
theorem KV.any {kvs : List (κ × V)} {vs : List (κ × Value)} (r : KV kvs vs) (k : κ) : (kvs.any fun kv => decide (kv.1 = k)) = vs.any fun kv => decide (kv.1 = k) := by
  unfold KV at r
  induction r with
  | nil => rfl
  | cons h t ih => rw [List.any_cons, List.any_cons, ih, h.1]
theorem KV.repl {kvs : List (κ × V)} {vs : List (κ × Value)} (r : KV kvs vs) (k : κ) {y : V} {u : Value} (ry : RelV y u) :
    KV (kvs.map fun kv => if kv.1 = k then (kv.1, y) else kv) (vs.map fun kv => if kv.1 = k then (kv.1, u) else kv) := by
  unfold KV at r ⊢
  induction r with
  | nil => exact .nil
  | @cons p q ps qs h t ih =>
    rw [List.map_cons, List.map_cons]
    refine .cons ?_ ih
    obtain ⟨h1, h2⟩ := h
    by_cases e : p.1 = k
    · rw [if_pos e, if_pos (h1.symm.trans e)]; exact ⟨h1, ry⟩
    · rw [if_neg e, if_neg (fun z => e (h1.trans z))]; exact ⟨h1, h2⟩
theorem KV.put {kvs : List (κ × V)} {vs : List (κ × Value)} (r : KV kvs vs) (k : κ) {y : V} {u : Value} (ry : RelV y u) : KV (putK kvs k y) (stored vs k u) := by
  unfold putK stored
  rw [r.any k]
  by_cases e : (vs.any fun kv => decide (kv.1 = k)) = true
  · rw [if_pos e, if_pos e]; exact r.repl k ry
  · rw [if_neg e, if_neg e]; exact Paired.snoc r ⟨rfl, ry⟩
theorem KV.length {kvs : List (κ × V)} {vs : List (κ × Value)} (r : KV kvs vs) : kvs.length = vs.length := Paired.length r
end
theorem kV_is {P : Program} {w : World} {k : Key} {u : Value} (r : RelV (kV k) u) : (mixKind P w).is k u = true := by
  cases k with
  | inl i => obtain ⟨t, e⟩ := (show ∃ t, u = Value.int i t from r); subst e; exact mixKind_int P w i t
  | inr x => obtain ⟨t, e⟩ := (show ∃ t, u = Value.str x t from r); subst e; exact mixKind_str P w x t
theorem items_are {P : Program} {w : World} : ∀ {ks : List Key} {us : List Value}, Vals (ks.map kV) us → ItemsAre (mixKind P w) ks us
  | [], _, r => by rw [List.map_nil] at r; cases r; exact .nil
  | k :: ks, _, r => by
    rw [List.map_cons] at r
    cases r with
    | cons h t => exact .cons (kV_is h) (items_are t)
abbrev KT (H : Hp) : List (List Key × V) → List (List Key × Addr × Value) → Prop := Paired fun p q => p.1 = q.1 ∧ H q.2.1 = some (.tup (p.1.map kV)) ∧ RelV p.2 q.2.2
theorem KT.val {H : Hp} {kvs : List (List Key × V)} {xs : List (List Key × Addr × Value)} (r : KT H kvs xs) (k : List Key) : RelO (valV kvs k) ((atKey xs k).map (·.2)) := by
  induction r with
  | nil => exact True.intro
  | @cons p q ps qs h t ih =>
    obtain ⟨h1, _, h2⟩ := h
    by_cases e : p.1 = k
    · have e' : q.1 = k := h1.symm.trans e
      have b : atKey (q :: qs) k = some q.2 := by simp [atKey, List.find?_cons, e']
      rw [valV_pos e, b]; exact h2
    · have e' : ¬ q.1 = k := fun z => e (h1.trans z)
      have b : atKey (q :: qs) k = atKey qs k := by simp [atKey, List.find?_cons, e']
      rw [valV_neg e, b]; exact ih
theorem KT.repl {H : Hp} {kvs : List (List Key × V)} {xs : List (List Key × Addr × Value)} (r : KT H kvs xs) (k : List Key) {y : V} {u : Value} (ry : RelV y u) :
    KT H (kvs.map fun kv => if kv.1 = k then (kv.1, y) else kv) (xs.map (putAt k u)) := by
  induction r with
  | nil => exact .nil
  | @cons p q ps qs h t ih =>
    rw [List.map_cons, List.map_cons]
    refine .cons ?_ ih
    obtain ⟨h1, h2, h3⟩ := h
    unfold putAt
    by_cases e : p.1 = k
    · rw [if_pos e, if_pos (h1.symm.trans e)]; exact ⟨h1, h2, ry⟩
    · rw [if_neg e, if_neg (fun z => e (h1.trans z))]; exact ⟨h1, h2, h3⟩
theorem KT.put {H : Hp} {kvs : List (List Key × V)} {xs : List (List Key × Addr × Value)} (r : KT H kvs xs) (k : List Key) {b : Addr} {y : V} {u : Value} (hb : H b = some (.tup (k.map kV))) (ry : RelV y u) :
    KT H (putK kvs k y) (storedH xs k b u) := by
  have e : (kvs.any fun kv => decide (kv.1 = k)) = (atKey xs k).isSome := by
    rw [valV_any, (r.val k).isSome_eq, Option.isSome_map]
  unfold putK storedH
  rw [e]
  by_cases q : (atKey xs k).isSome = true
  · rw [if_pos q, if_pos q]; exact r.repl k ry
  · rw [if_neg q, if_neg q]; exact Paired.snoc r ⟨rfl, hb, ry⟩
theorem KT.keeps {H H' : Hp} {kvs : List (List Key × V)} {xs : List (List Key × Addr × Value)} (r : KT H kvs xs) (ht : ∀ b ys, H b = some (.tup ys) → H' b = some (.tup ys)) : KT H' kvs xs :=
  Paired.mapP r fun _ _ z => ⟨z.1, ht _ _ z.2.1, z.2.2⟩
section
variable {P : Program} {w : World} {H : Hp} {h : Heap} {a : Addr}
theorem rd_of {u : HO} (ok : HOk P w H h) (e : Rd H a u) : ObjOk P w H h a u := e.ok ok
theorem dk_rd {kvs : List (Key × V)} (ok : HOk P w H h) (e : Rd H a (.dK kvs)) : kvs.length ≤ sizeLine ∧ (a == sysModules) = false ∧ ∃ vs, KV kvs vs ∧ h.DictOf (mixKind P w) a vs :=
  show ObjOk P w H h a (.dK kvs) from rd_of ok e
theorem dk_of {kvs : List (Key × V)} (ok : HOk P w H h) (e : H a = some (.dK kvs)) : kvs.length ≤ sizeLine ∧ (a == sysModules) = false ∧ ∃ vs, KV kvs vs ∧ h.DictOf (mixKind P w) a vs := dk_rd ok (.inl e)
theorem key_of {ks : List Key} (ok : HOk P w H h) (e : H a = some (.tup (ks.map kV))) : (tupleKind (mixKind P w)).is h ks a := by
  obtain ⟨_, its, r, o, h1, h2, n, h3⟩ := (show ObjOk P w H h a (.tup (ks.map kV)) from ok a _ e)
  exact ⟨o, its.toArray, n, h1, h2, h3, by simpa using items_are r⟩
theorem dt_rd {kvs : List (List Key × V)} (ok : HOk P w H h) (e : Rd H a (.dT kvs)) : kvs.length ≤ sizeLine ∧ (a == sysModules) = false ∧
    ∃ xs, KT H kvs xs ∧ h.DictOfH (tupleKind (mixKind P w)) a xs := by
  obtain ⟨z, y, xs, r, o, es, ep, h1, h2, h3, h4, h5⟩ := (show ObjOk P w H h a (.dT kvs) from rd_of ok e)
  refine ⟨z, y, xs, r, o, es, ep, h1, h2, h3, h4, fun x hx => ?_, h5⟩
  have all : ∀ {l : List (List Key × V)} {m : List (List Key × Addr × Value)}, KT H l m → ∀ x ∈ m, (tupleKind (mixKind P w)).is h x.1 x.2.1 := by
    intro l m q
    induction q with
    | nil => intro x hx; exact nomatch hx
    | @cons p q ps qs hq t ih =>
      intro x hx
      rcases List.mem_cons.mp hx with e | hx
      · subst e
        exact key_of ok (by rw [← hq.1]; exact hq.2.1)
      · exact ih x hx
  exact all r x hx
theorem dt_of {kvs : List (List Key × V)} (ok : HOk P w H h) (e : H a = some (.dT kvs)) : kvs.length ≤ sizeLine ∧ (a == sysModules) = false ∧
    ∃ xs, KT H kvs xs ∧ h.DictOfH (tupleKind (mixKind P w)) a xs := dt_rd ok (.inl e)
end
def DGet (H : Hp) (a : Addr) (y : V) (r : Option V) : Prop :=
  (∃ kvs k, Rd H a (.dK kvs) ∧ y = kV k ∧ r = valV kvs k) ∨ ∃ kvs k b, Rd H a (.dT kvs) ∧ y = .ref b ∧ H b = some (.tup (k.map kV)) ∧ r = valV kvs k
def DPut (H : Hp) (a : Addr) (y v : V) (H' : Hp) : Prop :=
  (∃ kvs k, H a = some (.dK kvs) ∧ y = kV k ∧ kvs.length < sizeLine ∧ H' = upd H a (.dK (putK kvs k v))) ∨
  ∃ kvs k b, H a = some (.dT kvs) ∧ y = .ref b ∧ H b = some (.tup (k.map kV)) ∧ kvs.length < sizeLine ∧ H' = upd H a (.dT (putK kvs k v))
theorem DGet.k {H : Hp} {a : Addr} {kvs : List (Key × V)} {k : Key} (e : H a = some (.dK kvs)) : DGet H a (kV k) (valV kvs k) := .inl ⟨kvs, k, .inl e, rfl, rfl⟩
section
variable {X : Cx} {pins : List (Addr × Obj)} {σ : St} {H : Hp} {s : Shared} {a : Addr} {y v : V} {u r : Value} {o : Option V} {A : Around} {E : Value → Shared → Prop}
theorem d_getItem {Q : Value → Shared → Prop} (hu : A.units + 1 < cLine) (I : Inv X pins σ H s) (g : DGet H a y (some v)) (ry : RelV y u) (h : ∀ w' s', Inv X pins σ H s' → RelV v w' → Q w' s') :
    wpAny (model X.prog X.w) A (getItem (.ref a) u) Q E s := by
  rcases g with ⟨kvs, k, e, ey, l⟩ | ⟨kvs, k, b, e, ey, eb, l⟩
  · subst ey
    obtain ⟨z, hd, vs, rel, dd⟩ := dk_rd I.hok e
    obtain ⟨w', hw, rw'⟩ := RelO.some_of (v := v) (o := valueAt vs k) (by rw [l]; exact rel.val k)
    exact wpAny_getItem_of (kV_is ry) dd.mapOf hw (h w' _ (I.tok _) rw')
  · subst ey
    cases (show u = Value.ref b from ry)
    obtain ⟨z, hd, xs, rel, dd⟩ := dt_rd I.hok e
    obtain ⟨w', hw, rw'⟩ := RelO.some_of (v := v) (o := (atKey xs k).map (·.2)) (by rw [l]; exact rel.val k)
    obtain ⟨p, hp, hp2⟩ := Option.map_eq_some_iff.mp hw
    refine wpAny_getItem_heap (tupleKind_room_in1 hu) (key_of I.hok eb) dd hp ?_
    rw [hp2]
    exact h w' _ (I.tok _) rw'
theorem d_write {h' : Heap} {t' : Nat} {ob : HO} (I : Inv X pins σ H s) (mu : Mut (H a)) (hs : Heap.SameBut a s.heap h') (he : ∃ q, h'.get? a = some q) (new : ObjOk X.prog X.w (upd H a ob) h' a ob) :
    Inv X pins σ (upd H a ob) { s with heap := h', toks := t' } :=
  I.write (x := a) (e := a) mu (.inl rfl) (fun b q hb z => (hs.2 b hb).trans z) he new
theorem dk_new {P : Program} {w : World} {H' : Hp} {h' : Heap} {kvs : List (Key × V)} {vs : List (Key × Value)} (z : kvs.length ≤ sizeLine) (hd : (a == sysModules) = false) (rel : KV kvs vs) (dd : h'.DictOf (mixKind P w) a vs) :
    ObjOk P w H' h' a (.dK kvs) := ⟨z, hd, vs, rel, dd⟩
theorem d_setItem {H' : Hp} {Q : Unit → Shared → Prop} (hu : A.units + 1 < cLine) (I : Inv X pins σ H s) (g : DPut H a y v H') (ry : RelV y u) (rv : RelV v r) (h : ∀ s', Inv X pins σ H' s' → Q () s') :
    wpAny (model X.prog X.w) A (setItem (.ref a) u r) Q E s := by
  rcases g with ⟨kvs, k, e, ey, l, eH⟩ | ⟨kvs, k, b, e, ey, eb, l, eH⟩
  · subst ey eH
    obtain ⟨z, hd, vs, rel, dd⟩ := dk_of I.hok e
    have hz : vs.length ≤ sizeLine := by rw [← rel.length]; exact z
    have hl : (putK kvs k v).length ≤ sizeLine := by have := length_putK kvs k v; omega
    refine wpAny_setItem_pairs (hsz := hz) (kV_is ry) dd fun h' dd' hs => h _ ?_
    have he : ∃ q, h'.get? a = some q := let ⟨q, _, _, hq, _⟩ := dd'; ⟨q, hq⟩
    exact d_write I (by rw [e]; exact True.intro) hs he (dk_new hl hd (rel.put k rv) dd')
  · subst ey eH
    cases (show u = Value.ref b from ry)
    obtain ⟨z, hd, xs, rel, dd⟩ := dt_of I.hok e
    have hz : xs.length ≤ sizeLine := by rw [← Paired.length rel]; exact z
    have hl : (putK kvs k v).length ≤ sizeLine := by have := length_putK kvs k v; omega
    refine wpAny_setItem_heap (hsz := hz) (tupleKind_room_in1 hu) (key_of I.hok eb) dd fun h' dd' hs => h _ ?_
    obtain ⟨q, es, ep, hq, h2, h3, h4, _, h5⟩ := dd'
    refine d_write I (by rw [e]; exact True.intro) hs ⟨q, hq⟩ ⟨hl, hd, _, (rel.put k eb rv).keeps fun c ys ec => ?_, q, es, ep, hq, h2, h3, h4, h5⟩
    rw [upd_ne (ne_of ec e (fun z => nomatch z))]
    exact ec
end
section
variable {X : Cx} {pins : List (Addr × Obj)} {σ : St} {H : Hp} {s : Shared} {a : Addr} {kvs : List (Key × V)} {k : Key} {u : Value} {A : Around} {E : Value → Shared → Prop}
theorem d_len {Q : Value → Shared → Prop} (I : Inv X pins σ H s) (e : Rd H a (.dK kvs)) (h : ∀ t s', Inv X pins σ H s' → Q (.int kvs.length t) s') : wpAny (model X.prog X.w) A (call (.builtin "len") [.ref a]) Q E s := by
  obtain ⟨z, hd, vs, rel, dd⟩ := dk_rd I.hok e
  refine call_len_dict hd dd (by rw [← rel.length]; rw [sizeLine_eq] at z; omega) ?_
  rw [← rel.length]
  exact h _ _ (I.tok _)
end
theorem dict_typeIs {X : Cx} {pins : List (Addr × Obj)} {σ : St} {H : Hp} {s : Shared} {a : Addr} {y : V} {o : Option V} (I : Inv X pins σ H s) (g : DGet H a y o) : s.TypeIs (.ref a) "dict" := by
  rcases g with ⟨kvs, k, e, _, _⟩ | ⟨kvs, k, b, e, _, _, _⟩
  · obtain ⟨_, _, vs, _, dd⟩ := dk_rd I.hok e
    exact dd.typeIs
  · obtain ⟨_, _, xs, _, dd⟩ := dt_rd I.hok e
    exact dd.typeIs
def sDPut (td ty tv : TE) : TS := fun D σ H => tv σ H fun v H1 => td σ H1 fun x H2 => ty σ H2 fun y H3 => ∃ a H4, x = .ref a ∧ DPut H3 a y v H4 ∧ D.nx σ H4
def tDNewK : TE := fun _ H Q => ∀ p, H p = none → Q (.ref p) (upd H p (.dK []))
end L2
namespace L2
open PySem PySem.Spec PyProof.Rows
section
variable {X : Cx}
theorem call_lenD : CallR X (.builtin "len") (fun xs H Q => ∃ a kvs, xs = [V.ref a] ∧ H a = some (.dK kvs) ∧ Q (.int kvs.length) H) := by
  intro pins s σ H xs us Q I r h
  obtain ⟨a, kvs, rfl, ha, q⟩ := h
  obtain ⟨u, rfl, ru⟩ := vals1 r
  cases ru
  exact d_len I (.inl ha) fun t s' I' => ⟨.int kvs.length, H, I', ⟨t, rfl⟩, q⟩
end
end L2
set_option Elab.async false
set_option linter.all false
set_option maxRecDepth 100000
namespace L2
open PySem PySem.Spec PyProof.Rows
theorem lookup_append' {α : Type} (x : Str) : ∀ (a b : List (Str × α)), (a ++ b).lookup x = match a.lookup x with | some c => some c | none => b.lookup x
  | [], b => rfl
  | (k, v) :: r, b => by
    rw [List.cons_append, List.lookup_cons, List.lookup_cons]
    cases x == k with
    | true => rfl
    | false => exact lookup_append' x r b
theorem cellsFrom_app : ∀ (names : List (Str × NameKind)) (n : Nat) (acc cl : List (Str × Addr)), cellsFrom n names (acc ++ cl) = cellsFrom n names acc ++ cl
  | [], _, _, _ => rfl
  | (y, k) :: r, n, acc, cl => by
    unfold cellsFrom
    split
    · rw [← List.cons_append]; exact cellsFrom_app r _ _ cl
    · exact cellsFrom_app r _ _ cl
theorem cellsFrom_mem {x : Str} {c : Addr} : ∀ (names : List (Str × NameKind)) (n : Nat) (acc : List (Str × Addr)), (x, c) ∈ cellsFrom n names acc → (x, NameKind.cell) ∈ names ∨ (x, c) ∈ acc
  | [], _, _, h => .inr h
  | (y, k) :: r, n, acc, h => by
    unfold cellsFrom at h
    split at h
    · rename_i hk
      have hk : k = .cell := by simpa using hk
      subst hk
      rcases cellsFrom_mem r _ _ h with z | z
      · exact .inl (List.mem_cons_of_mem _ z)
      · rcases List.mem_cons.mp z with z | z
        · cases z; exact .inl List.mem_cons_self
        · exact .inr z
    · rcases cellsFrom_mem r _ _ h with z | z
      · exact .inl (List.mem_cons_of_mem _ z)
      · exact .inr z
theorem closure_go {env : Env} (f : Str × NameKind → List (Str × Addr) → Sem (ForInStep (List (Str × Addr))))
    (hf : ∀ name kind cs, f (name, kind) cs = if kind == .free then (do let a ← cellOf env name; pure (.yield ((name, a) :: cs))) else pure (.yield cs)) :
    ∀ (names : List (Str × NameKind)) (acc : List (Str × Addr)), (∀ x, (x, NameKind.free) ∈ names → ∃ c, env.cells.lookup x = some c) → (∀ x c, acc.lookup x = some c → env.cells.lookup x = some c) →
      ∃ cl, forIn names acc f = (pure cl : Sem _) ∧ (∀ x c, cl.lookup x = some c → env.cells.lookup x = some c) ∧ (∀ x, ((x, NameKind.free) ∈ names ∨ ∃ c, acc.lookup x = some c) → ∃ c, cl.lookup x = some c)
  | [], acc, _, h2 => ⟨acc, rfl, h2, fun x h => h.elim (fun z => nomatch z) id⟩
  | (y, k) :: r, acc, h1, h2 => by
    rw [List.forIn_cons, hf]
    by_cases hk : (k == NameKind.free) = true
    · rw [if_pos hk]
      have hk' : k = .free := by simpa using hk
      subst hk'
      obtain ⟨c, hc⟩ := h1 y List.mem_cons_self
      have e : (cellOf env y : Sem Addr) = pure c := by unfold cellOf; rw [hc]
      rw [e]
      obtain ⟨cl, e1, e2, e3⟩ := closure_go f hf r ((y, c) :: acc) (fun x hx => h1 x (List.mem_cons_of_mem _ hx)) (fun x c' hx => by
        rw [List.lookup_cons] at hx
        cases hb : x == y with
        | true => rw [hb] at hx; cases hx; rw [beq_iff_eq.mp hb]; exact hc
        | false => rw [hb] at hx; exact h2 x c' hx)
      refine ⟨cl, ?_, e2, fun x hx => e3 x ?_⟩
      · exact e1
      · rcases hx with hx | ⟨c', hx⟩
        · rcases List.mem_cons.mp hx with z | z
          · cases z; exact .inr ⟨c, by rw [List.lookup_cons]; simp⟩
          · exact .inl z
        · cases hb : x == y with
          | true => exact .inr ⟨c, by rw [List.lookup_cons, hb]⟩
          | false => exact .inr ⟨c', by rw [List.lookup_cons, hb]; exact hx⟩
    · rw [if_neg hk]
      obtain ⟨cl, e1, e2, e3⟩ := closure_go f hf r acc (fun x hx => h1 x (List.mem_cons_of_mem _ hx)) h2
      refine ⟨cl, e1, e2, fun x hx => e3 x ?_⟩
      rcases hx with hx | hx
      · rcases List.mem_cons.mp hx with z | z
        · cases z; exact absurd rfl hk
        · exact .inl z
      · exact .inr hx
theorem closure_of {scope : Scope} {env : Env} (h : ∀ x, (x, NameKind.free) ∈ scope.names → ∃ c, env.cells.lookup x = some c) :
    ∃ cl, closureFor scope env = pure cl ∧ (∀ x c, cl.lookup x = some c → env.cells.lookup x = some c) ∧ ∀ x, (x, NameKind.free) ∈ scope.names → ∃ c, cl.lookup x = some c := by
  obtain ⟨cl, e1, e2, e3⟩ := closure_go (env := env) (fun x cs => match x with | (name, kind) => if kind == .free then (do let a ← cellOf env name; pure (.yield ((name, a) :: cs))) else pure (.yield cs)) (fun _ _ _ => rfl) scope.names [] h (fun x c hx => nomatch hx)
  refine ⟨cl, ?_, e2, fun x hx => e3 x (.inl hx)⟩
  have : closureFor scope env = (forIn scope.names [] (fun x cs => match x with | (name, kind) => if kind == .free then (do let a ← cellOf env name; pure (.yield ((name, a) :: cs))) else pure (.yield cs)) >>= fun cs => pure cs) := by
    simp only [closureFor]
  rw [this, e1]
  rfl
def blkEnv (scope : Scope) (cl : List (Str × Addr)) (C : Addr) (env : Env) : Env :=
  { newEnv scope C env.globals (cellsFrom (C + 1) scope.names cl) env.qual none .none (some env) builtinsNs with scope := relabel scope env }
theorem nfe_comp {M : Model} {A : Around} {E : Value → Shared → Prop} {s : Shared} {scope : Scope} {cl : List (Str × Addr)} {env : Env} {Q : Env → Shared → Prop}
    (hQ : Q (newEnv scope s.heap.objs.size env.globals (cellsFrom (s.heap.objs.size + 1) scope.names cl) env.qual none .none (some env) builtinsNs) { s with heap := pushCells (s.heap.push { cls := .type "dict", data := .dict #[] }) scope.names }) :
    wpAny M A (newFunctionEnv scope env.globals cl [] env.qual none .none (some env)) Q E s := by
  simp only [newFunctionEnv, Option.isSome_some, if_true]
  refine wpAny_bind (wpAny_alloc ?_)
  refine wpAny_bind (wpAny_layCells _ (fun name kind cells => by cases hkc : kind == NameKind.cell <;> simp [hkc]) _ _ _ _ ?_)
  rw [show ({ s with heap := s.heap.push { cls := .type "dict", data := .dict #[] } } : Shared).heap.objs.size = s.heap.objs.size + 1 from Heap.size_push ..]
  refine wpAny_bind ?_
  rw [List.forIn_nil]
  exact wpAny_pure (wpAny_pure hQ)
section
variable {prog : Program} {w : World} {A : Around} {E : Value → Shared → Prop} {R : Result → Shared → Prop} {s : Shared}
theorem comp_loop {elt target iter : Expr} {ifs : List Expr} {scope : Scope} {pos : Pos} {it acc : Value} {env : Env} (I : Nat → Shared → Prop)
    (turn : ∀ n s, I n s → wpAny (model prog w) A (pyNext it) (fun r s₁ => match r with
      | none => R (.ok .next) s₁
      | some v => wpAny (model prog w) A (letOwnedTupleGo target it v) (fun _ s₁' => wpAny (model prog w) A (assign target env v) (fun _ s₂ =>
          wpAny (model prog w) A (forIn ifs true fun c r => if r = true then do let ok ← isTrue c env (eval c env); pure (ForInStep.yield ok) else pure (ForInStep.yield r)) (fun ok s₃ =>
            if ok = true then wpAny (model prog w) A (eval elt env) (fun x s₄ =>
              wpAny (model prog w) A (call (.builtin "list.append") [acc, x]) (fun _ s₅ => ∃ m, m < n ∧ I m s₅) (notedBy (model prog w) A env fun e s' => R (.error e) s') s₄) (notedBy (model prog w) A env fun e s' => R (.error e) s') s₃
            else ∃ m, m < n ∧ I m s₃) (notedBy (model prog w) A env fun e s' => R (.error e) s') s₂) (notedBy (model prog w) A env fun e s' => R (.error e) s') s₁') (notedBy (model prog w) A env fun e s' => R (.error e) s') s₁) (notedBy (model prog w) A env fun e s' => R (.error e) s') s)
    (n : Nat) (h : I n s) :
    codeAny (model prog w) A (.compLoop (.ListComp elt [⟨target, iter, ifs, 0⟩] scope pos) 0 it acc env) R s := by
  refine codeAny_loop rfl I (fun n s hI => ?_) n h
  show wpAny _ A ((compTurn (.ListComp elt [⟨target, iter, ifs, 0⟩] scope pos) 0 it acc env).onRaise (fun x => do noteFrame x env; theTreesLotGoes x)) _ _ s
  refine wpAny_noted ?_
  rw [compTurn_list]
  refine wpAny_bind (wpAny_standAt (wpAny_bind (wpAny_mono (turn n s hI) (fun r s₁ h₁ => ?_) fun _ _ h' => h')))
  cases r with
  | none => exact wpAny_pure h₁
  | some v =>
    refine wpAny_bind (wpAny_mono h₁ (fun _ s₁' h₁' => ?_) fun _ _ h' => h')
    refine wpAny_bind (wpAny_mono h₁' (fun _ s₂ h₂ => wpAny_bind (wpAny_mono h₂ (fun ok s₃ h₃ => ?_) fun _ _ h' => h')) fun _ _ h' => h')
    cases ok with
    | false => exact wpAny_pure ⟨rfl, h₃⟩
    | true =>
      exact wpAny_bind (wpAny_bind (wpAny_mono h₃ (fun x s₄ h₄ => wpAny_bind (wpAny_mono h₄ (fun _ s₅ h₅ => wpAny_pure (wpAny_pure ⟨rfl, h₅⟩)) fun _ _ h' => h')) fun _ _ h' => h'))
end
end L2
set_option Elab.async false
set_option linter.all false
set_option maxRecDepth 100000
namespace L2
open PySem PySem.Spec PyProof.Rows
theorem relabel_look {scope : Scope} {env : Env} {x : Str} {k : NameKind} (h : (relabel scope env).names.lookup x = some k) : ∃ k', scope.names.lookup x = some k' ∧ (k = k' ∨ (k' = .free ∧ k = .cell)) := by
  unfold relabel at h
  dsimp only at h
  generalize scope.names = names at h ⊢
  induction names with
  | nil => cases h
  | cons p r ih =>
    obtain ⟨n, k0⟩ := p
    rw [List.map_cons] at h
    rw [List.lookup_cons]
    cases hb : x == n with
    | true =>
      refine ⟨k0, rfl, ?_⟩
      dsimp only at h
      split at h
      · rename_i hc
        rw [List.lookup_cons, hb] at h
        cases h
        simp only [Bool.and_eq_true, beq_iff_eq] at hc
        exact .inr ⟨hc.1.1, rfl⟩
      · rw [List.lookup_cons, hb] at h
        cases h
        exact .inl rfl
    | false =>
      dsimp only at h
      refine ih ?_
      split at h
      · rw [List.lookup_cons, hb] at h; exact h
      · rw [List.lookup_cons, hb] at h; exact h
def blkCx (X : Cx) (N : List Str) (scope : Scope) (cl : List (Str × Addr)) (s : Shared) (H : Hp) (fp : List Addr) : Cx where
  prog := X.prog
  w := X.w
  K := X.K
  mg := X.mg
  base := X.base
  A := X.A
  N := N
  s₀ := s
  H₀ := H
  env := blkEnv scope cl (s.heap.objs.size + 1) X.env
  outer := X.stack
  stack := X.stack
  ex := fp
  fn := fun x => scope.names.lookup x == some .cell
  calm := X.calm
  pn := []
  xe := fun e₀ s₁ => (∃ (pins : List (Addr × Obj)) (σ : St), Inv X pins σ H s ∧ ∀ b ∈ fp, FpOk X pins H b) → notedBy (model X.prog X.w) X.A (blkEnv scope cl (s.heap.objs.size + 1) X.env) (fun x s' => ∃ m, s'.heap.Ns (s.heap.objs.size + 1) m ∧ ∀ h', Heap.SameBut (s.heap.objs.size + 1) s'.heap h' → ∀ cenv : Env, cenv.locals = s.heap.objs.size + 1 →
    wpAny (model X.prog X.w) X.A (passOn "comprehension.variables-let-go" x cenv : Sem Value) (fun _ _ => False) X.xe { s' with heap := h' }) e₀ s₁
def subσ (ix : List (Option Nat)) (σ : St) : St := ix.map fun o => match o with | none => none | some i => match σ[i]? with | some v => v | none => none
structure BlkOk (X : Cx) (N : List Str) (ix : List (Option Nat)) (scope : Scope) : Prop where
  kind : scope.kind = .function
  nd : N.Nodup
  len : ix.length = N.length
  names : (scope.names.map (·.1)).Nodup
  free : ∀ x, (x, NameKind.free) ∈ scope.names → X.env.kindOf x = some .cell ∨ X.env.kindOf x = some .free
  at_ : ∀ (j i : Nat) (x : Str), N[j]? = some x → ix[j]? = some (some i) → X.N[i]? = some x ∧ (x, NameKind.free) ∈ scope.names
theorem lookup_of_mem {α : Type} : ∀ {l : List (Str × α)} {x : Str} {k : α}, (l.map (·.1)).Nodup → (x, k) ∈ l → l.lookup x = some k
  | (y, k0) :: r, x, k, nd, h => by
    rw [List.map_cons, List.nodup_cons] at nd
    rw [List.lookup_cons]
    rcases List.mem_cons.mp h with e | e
    · cases e; simp
    · have : x ≠ y := by
        rintro rfl
        exact nd.1 (List.mem_map.mpr ⟨(x, k), e, rfl⟩)
      have hb : (x == y) = false := by simpa using this
      rw [hb]
      exact lookup_of_mem nd.2 e
theorem blk_start {X : Cx} {pins : List (Addr × Obj)} {σ : St} {H : Hp} {s : Shared} {N : List Str} {ix : List (Option Nat)} {scope : Scope} {cl : List (Str × Addr)} {fp : List Addr} (B : BlkOk X N ix scope)
    (I : Inv X pins σ H s) (hcl : ∀ x c, cl.lookup x = some c → X.env.cells.lookup x = some c) (hcf : ∀ x, (x, NameKind.free) ∈ scope.names → ∃ c, cl.lookup x = some c)
    (hfp : ∀ b ∈ fp, FpOk X pins H b) (hob : ∀ b ∈ fp, ∃ o, s.heap.get? b = some o ∧ ∀ v, o.data ≠ .cell v) :
    Inv (blkCx X N scope cl s H fp) [] (subσ ix σ) (upd H s.heap.objs.size (.lst []))
      { s with heap := pushCells ((s.heap.push { cls := .type "list", data := .seq #[] }).push { cls := .type "dict", data := .dict #[] }) scope.names } := by
  have hs2 : (s.heap.push { cls := .type "list", data := .seq #[] }).objs.size = s.heap.objs.size + 1 := Heap.size_push ..
  have hs3 : ((s.heap.push { cls := .type "list", data := .seq #[] }).push { cls := .type "dict", data := .dict #[] }).objs.size = s.heap.objs.size + 2 := by rw [Heap.size_push, hs2]
  have hk : ∀ b o, s.heap.get? b = some o → (pushCells ((s.heap.push { cls := .type "list", data := .seq #[] }).push { cls := .type "dict", data := .dict #[] }) scope.names).get? b = some o :=
    fun b o e => pushCells_keeps _ _ b o (Heap.get?_push_of_some _ (Heap.get?_push_of_some _ e))
  have hl : (pushCells ((s.heap.push { cls := .type "list", data := .seq #[] }).push { cls := .type "dict", data := .dict #[] }) scope.names).get? s.heap.objs.size = some { cls := .type "list", data := .seq #[] } :=
    pushCells_keeps _ _ _ _ (Heap.get?_push_of_some _ (Heap.get?_push_size _ rfl))
  have ok0 := cellsFrom_ok scope.names ((s.heap.push { cls := .type "list", data := .seq #[] }).push { cls := .type "dict", data := .dict #[] }) (s.heap.objs.size + 2) [] ⟨fun _ _ hm => (nomatch hm), List.Pairwise.nil⟩ (by rw [hs3]; exact Nat.le_refl _)
  rw [hs3] at ok0
  have hcells : (blkCx X N scope cl s H fp).env.cells = cellsFrom (s.heap.objs.size + 2) scope.names [] ++ cl := by
    show cellsFrom (s.heap.objs.size + 1 + 1) scope.names cl = _
    rw [← List.nil_append cl, cellsFrom_app]
    simp
  -- a cell of the block: a new one, or one of the closure
  have cases_ : ∀ x c, (blkCx X N scope cl s H fp).env.cells.lookup x = some c → ((x, c) ∈ cellsFrom (s.heap.objs.size + 2) scope.names [] ∧ (x, NameKind.cell) ∈ scope.names) ∨ ((cellsFrom (s.heap.objs.size + 2) scope.names []).lookup x = none ∧ cl.lookup x = some c) := fun x c e => by
    rw [hcells, lookup_append'] at e
    cases q : (cellsFrom (s.heap.objs.size + 2) scope.names []).lookup x with
    | none => rw [q] at e; exact .inr ⟨rfl, e⟩
    | some c' =>
      rw [q] at e
      cases e
      have m := PySem.mem_of_lookup q
      refine .inl ⟨m, ?_⟩
      rcases cellsFrom_mem _ _ _ m with z | z
      · exact z
      · exact nomatch z
  have oldc : ∀ x c, cl.lookup x = some c → c < s.heap.objs.size := fun x c e => by
    obtain ⟨v, q⟩ := I.cell x c (hcl x c e)
    exact q.lt
  have hfree : H s.heap.objs.size = none := I.hok.fresh (Nat.le_refl _)
  have hfix : ∀ b, s.heap.objs.size < b → (upd H s.heap.objs.size (.lst [])) b = none := fun b hb => by
    rw [upd_ne (Nat.ne_of_gt hb)]
    exact I.hok.fresh (Nat.le_of_lt hb)
  have hlt : ∀ b ∈ fp, b < s.heap.objs.size := fun b hb => by
    obtain ⟨o, e, _⟩ := hob b hb
    exact Heap.lt_size e
  have e0 := I.env0
  have isnew : ∀ x c, (x, c) ∈ cellsFrom (s.heap.objs.size + 2) scope.names [] → s.heap.objs.size + 2 ≤ c := fun x c m => (ok0.empty x c m).2
  refine ⟨⟨I.ok.mod, B.kind, I.ok.glob, I.ok.blt, Nat.le_succ _, fun x y c e1 e2 => ?_, fun x hx => ?_, fun x c hx e => ?_, I.ok.hd, I.ok.frames, .inl rfl, fun b hb => ⟨?_, fun x c e => ?_⟩, e0.bs, e0.bsz, fun b o e hb => ?_, fun b hb hb2 => ?_, e0.funs, e0.frf⟩,
    rfl, I.bare, Un.laid hk (Nat.le_refl _) hfree, ⟨fun _ => none, ?_, fun j x v e1 e2 e3 => ?_⟩, fun x c e => ?_, hfix _ (Nat.lt_succ_self _), fun x c e => ?_, fun p hp => absurd (show p ∈ ([] : List (Addr × Obj)) from hp) (by simp), ?_, ?_⟩
  · rcases cases_ x c e1 with ⟨m1, k1⟩ | ⟨n1, q1⟩ <;> rcases cases_ y c e2 with ⟨m2, k2⟩ | ⟨n2, q2⟩
    · exact name_of_addr ok0.apart m1 m2
    · exact absurd (Nat.lt_of_lt_of_le (oldc _ _ q2) (Nat.le_trans (Nat.le_add_right _ _) (isnew _ _ m1))) (Nat.lt_irrefl _)
    · exact absurd (Nat.lt_of_lt_of_le (oldc _ _ q1) (Nat.le_trans (Nat.le_add_right _ _) (isnew _ _ m2))) (Nat.lt_irrefl _)
    · exact I.ok.inj x y c (hcl _ _ q1) (hcl _ _ q2)
  · have hx' : (relabel scope X.env).names.lookup x = some .cell ∨ (relabel scope X.env).names.lookup x = some .free := hx
    have key : scope.names.lookup x = some .cell ∨ scope.names.lookup x = some .free := by
      rcases hx' with z | z
      · obtain ⟨k', e, r | r⟩ := relabel_look z
        · rw [← r] at e; exact .inl e
        · rw [r.1] at e; exact .inr e
      · obtain ⟨k', e, r | r⟩ := relabel_look z
        · rw [← r] at e; exact .inr e
        · cases r.2
    rw [hcells]
    rcases key with z | z
    · obtain ⟨c, q⟩ := cell_has (n := s.heap.objs.size + 2) z
      exact ⟨c, by rw [lookup_append', q]⟩
    · obtain ⟨c, q⟩ := hcf x (PySem.mem_of_lookup z)
      cases q2 : (cellsFrom (s.heap.objs.size + 2) scope.names []).lookup x with
      | none => exact ⟨c, by rw [lookup_append', q2]; exact q⟩
      | some c' => exact ⟨c', by rw [lookup_append', q2]⟩
  · have hx' : scope.names.lookup x = some .cell := by simpa [blkCx] using hx
    rcases cases_ x c e with ⟨m1, k1⟩ | ⟨n1, q1⟩
    · exact Nat.le_trans (Nat.le_add_right _ _) (isnew _ _ m1)
    · obtain ⟨c', q⟩ := cell_has (n := s.heap.objs.size + 2) hx'
      rw [q] at n1; cases n1
  · exact Nat.ne_of_lt (Nat.lt_succ_of_lt (hlt b hb))
  · rcases cases_ x c e with ⟨m1, k1⟩ | ⟨n1, q1⟩
    · exact Nat.ne_of_gt (Nat.lt_of_lt_of_le (hlt b hb) (Nat.le_trans (Nat.le_add_right _ _) (isnew _ _ m1)))
    · exact (hfp b hb).2.2.2.2.1 x c (hcl _ _ q1)
  · rcases (hfp b hb).2.2.2.1 with z | z
    · exact I.ok.noex b o e z
    · exact absurd (Nat.lt_of_lt_of_le (Heap.lt_size e) (Nat.le_trans I.ok.bsz z)) (Nat.lt_irrefl _)
  · rcases List.mem_cons.mp (I.stkSub b hb2) with z | z
    · exact (hfp b hb).2.1 z
    · exact (hfp b hb).2.2.1 z
  · show Heap.Ns _ (s.heap.objs.size + 1) _
    rw [← hs2]
    exact (Heap.Ns.new _ (.type "dict")).keeps (pushCells_keeps _ _)
  · -- a name of the block
    unfold subσ at e2
    rw [List.getElem?_map] at e2
    cases q : ix[j]? with
    | none => rw [q] at e2; cases e2
    | some o =>
      rw [q] at e2
      cases o with
      | none => cases e2
      | some i =>
        simp only [Option.map_some, Option.some.injEq] at e2
        obtain ⟨hN, hm⟩ := B.at_ j i x e1 q
        have hσ : σ[i]? = some (some v) := by
          cases q2 : σ[i]? with
          | none => rw [q2] at e2; cases e2
          | some z => rw [q2] at e2; exact congrArg some e2
        obtain ⟨m, hn, hl'⟩ := I.loc
        have hkind := B.free x hm
        have hvis : Vis X.env.scope x := hkind.elim (fun z => .inr (.inl z)) fun z => .inr (.inr z)
        obtain ⟨u, ru, lk⟩ := hl' i x v hN hσ hvis
        refine ⟨u, ru, ?_⟩
        obtain ⟨c, hc⟩ := hcf x hm
        have hnone : (cellsFrom (s.heap.objs.size + 2) scope.names []).lookup x = none := by
          cases q2 : (cellsFrom (s.heap.objs.size + 2) scope.names []).lookup x with
          | none => rfl
          | some c' =>
            rcases cellsFrom_mem _ _ _ (PySem.mem_of_lookup q2) with z | z
            · have a1 := lookup_of_mem B.names z
              have a2 := lookup_of_mem B.names hm
              rw [a1] at a2; cases a2
            · exact nomatch z
        have hcell : (blkCx X N scope cl s H fp).env.cells.lookup x = some c := by rw [hcells, lookup_append', hnone]; exact hc
        have hkk : (blkCx X N scope cl s H fp).env.kindOf x = some .cell ∨ (blkCx X N scope cl s H fp).env.kindOf x = some .free := by
          rcases e3 with z | z | z
          · obtain ⟨k', e, r | r⟩ := relabel_look (show (relabel scope X.env).names.lookup x = some .local from z)
            · rw [lookup_of_mem B.names hm] at e; cases e; cases r
            · cases r.2
          · exact .inl z
          · exact .inr z
        refine .inr ⟨hkk, c, hcell, ?_⟩
        rcases lk with ⟨k1, _⟩ | ⟨_, c2, e4, z⟩
        · rcases hkind with z | z <;> rw [k1] at z <;> cases z
        · rw [hcl x c hc] at e4; cases e4
          exact z.keeps hk
  · rcases cases_ x c e with ⟨m1, k1⟩ | ⟨n1, q1⟩
    · exact ⟨none, (ok0.empty x c m1).1⟩
    · obtain ⟨v, z⟩ := I.cell x c (hcl _ _ q1)
      exact ⟨v, z.keeps hk⟩
  · rcases cases_ x c e with ⟨m1, k1⟩ | ⟨n1, q1⟩
    · exact hfix c (Nat.lt_of_lt_of_le (Nat.lt_add_of_pos_right (by decide)) (isnew _ _ m1))
    · rw [upd_ne (Nat.ne_of_lt (oldc _ _ q1))]
      exact I.freeC x c (hcl _ _ q1)
  · exact I.hok.laid hk (Nat.le_refl _) ⟨Nat.zero_le _, [], 0, .nil, hl⟩
  · show (subσ ix σ).length = N.length
    unfold subσ
    rw [List.length_map]
    exact B.len
end L2
set_option Elab.async false
set_option linter.all false
set_option maxRecDepth 100000
namespace L2
open PySem PySem.Spec PyProof.Rows
def PTs (X : Cx) (ifs : List Expr) (t : TT) : Prop :=
  ∀ (pins : List (Addr × Obj)) (s : Shared) (σ : St) (H : Hp) (Q : Bool → Hp → Prop), Inv X pins σ H s → t σ H Q →
    wpAny (model X.prog X.w) X.A (forIn ifs true fun c r => if r = true then do let ok ← isTrue c X.env (eval c X.env); pure (ForInStep.yield ok) else pure (ForInStep.yield r)) (TP X pins σ Q) X.xe s
def tTrue : TT := fun _ H Q => Q true H
theorem pts_nil {X : Cx} : PTs X [] tTrue := fun _ _ _ H _ I h => wpAny_tests_nil ⟨H, I, h⟩
theorem pts_one {X : Cx} {c : Expr} {t : TT} (h : PT X c t) : PTs X [c] t := fun pins s σ H Q I q => wpAny_tests_one (h pins s σ H Q I q)
def tCompG (ix : List (Option Nat)) (wi : TI) (g : TG) (tt : TT) (te : TE) (fin : Addr → Hp → Prop) : St → Hp → Prop := fun σ H => wi σ H fun J H1 => ∀ l, H1 l = none →
  ∃ W : Nat → Nat → St → Hp → Prop, (∃ m, W 0 m (subσ ix σ) (upd H1 l (.lst []))) ∧ ∀ i m σ' H', W i m σ' H' →
    (J.stop i H' ∧ fin l H') ∨ (J.go i H' ∧ ∃ N : St → Hp → Prop, (∀ σ'' H'', N σ'' H'' → ∃ m', m' < m ∧ W (i + 1) m' σ'' H'') ∧ ∀ x H2, J.yld i H' x H2 → g x σ' H2 fun σ2 H3 => tt σ2 H3 fun b H4 =>
      if b = true then te σ2 H4 fun y H5 => ∃ ys, H5 l = some (.lst ys) ∧ ys.length < sizeLine ∧ N σ2 (upd H5 l (.lst (ys ++ [y]))) else N σ2 H4)
section
variable {X : Cx} {pins : List (Addr × Obj)} {σ σ' : St} {H H' : Hp} {s s' : Shared} {N : List Str} {scope : Scope} {cl : List (Str × Addr)} {fp : List Addr}
theorem blk_end {h' : Heap} (I : Inv X pins σ H s) (J : Inv (blkCx X N scope cl s H fp) [] σ' H' s') (hfp : ∀ b ∈ fp, FpOk X pins H b) (sb : Heap.SameBut (s.heap.objs.size + 1) s'.heap h') : Inv X pins σ H' { s' with heap := h' } := by
  have u : Un (frs X.stack) fp H H' s.heap s'.heap := J.base
  have hC : H' (s.heap.objs.size + 1) = none := J.free
  have ne : ∀ b o, s.heap.get? b = some o → b ≠ s.heap.objs.size + 1 := fun b o e => Nat.ne_of_lt (Nat.lt_succ_of_lt (Heap.lt_size e))
  refine I.call' (s' := { s' with heap := h' }) (ch := fp) J.os ⟨fun b o e n hb hx => ?_, fun b o e n hb hx => ?_, u.free, fun b o e hx => ?_, u.tups, u.frzs, u.tbls⟩ (fun b ob e => ?_) J.bare fun b hb => ?_
  · exact (sb.2 b (ne b o e)).trans (u.keep b o e n hb hx)
  · obtain ⟨sl, q⟩ := u.slot b o e n hb hx
    exact ⟨sl, (sb.2 b (ne b o e)).trans q⟩
  · obtain ⟨o', q⟩ := u.there b o e hx
    exact ⟨o', (sb.2 b (ne b o e)).trans q⟩
  · refine (J.hok b ob e).stay (fun c w' hc q => (sb.2 c ?_).trans q) (fun _ q => q) fun _ _ q => q
    rintro rfl
    rcases hc with rfl | hc
    · rw [hC] at e; cases e
    · rw [hC] at hc; cases hc
  · obtain ⟨f0, f1, f2, f3, f4, f5⟩ := hfp b hb
    exact ⟨f3, f1, f4, f5⟩
theorem comp_run {tg iter elt : Expr} {ifs : List Expr} {pos : Pos} {ix : List (Option Nat)} {wi : TI} {g : TG} {tt : TT} {te : TE} {fin : Addr → Hp → Prop} {RR : Value → Addr → Result → Shared → Prop} (B : BlkOk X N ix scope) (hc : X.calm = true)
    (hi : PI X tg iter wi) (hg : ∀ cl s H fp, PG (blkCx X N scope cl s H fp) tg g) (ht : ∀ cl s H fp, PTs (blkCx X N scope cl s H fp) ifs tt) (he : ∀ cl s H fp, PE (blkCx X N scope cl s H fp) elt te)
    (hcl : ∀ x c, cl.lookup x = some c → X.env.cells.lookup x = some c) (hcf : ∀ x, (x, NameKind.free) ∈ scope.names → ∃ c, cl.lookup x = some c)
    (I : Inv X pins σ H s) (h : tCompG ix wi g tt te fin σ H)
    (ok : ∀ (s2 : Shared) (H2 : Hp) (fp : List Addr) (σ3 : St) (H3 : Hp) (s3 : Shared), Inv X pins σ H2 s2 → (∀ b ∈ fp, FpOk X pins H2 b) → Inv (blkCx X N scope cl s2 H2 fp) [] σ3 H3 s3 → fin s2.heap.objs.size H3 → RR (.ref s2.heap.objs.size) (s2.heap.objs.size + 1) (.ok .next) s3)
    (bad : ∀ (a C : Addr) (x : Value) (s' : Shared), (∃ m, s'.heap.Ns C m ∧ ∀ h', Heap.SameBut C s'.heap h' → ∀ cenv : Env, cenv.locals = C → wpAny (model X.prog X.w) X.A (passOn "comprehension.variables-let-go" x cenv : Sem Value) (fun _ _ => False) X.xe { s' with heap := h' }) → RR (.ref a) C (.error x) s') :
    wpAny (model X.prog X.w) X.A (eval iter X.env) (fun x s₁ => wpAny (model X.prog X.w) X.A (pyIter x) (fun it s₂ => wpAny (model X.prog X.w) X.A (newList []) (fun acc s₃ =>
      wpAny (model X.prog X.w) X.A (newFunctionEnv scope X.env.globals cl [] X.env.qual none .none (some X.env)) (fun cenv s₄ =>
        codeAny (model X.prog X.w) X.A (.compStart (.ListComp elt [⟨tg, iter, ifs, 0⟩] scope pos) 0 it acc { cenv with scope := relabel scope X.env }) (RR acc cenv.locals) s₄) X.xe s₃) X.xe s₂) X.xe s₁) X.xe s := by
  refine thn (hi pins s σ H _ I h) fun v s1 h1 => thn h1 fun itv s2 h2 => ?_
  obtain ⟨it, fp, tn, J, H2, e, I2, T, st2, f2, h2⟩ := h2
  subst e
  refine wpAny_newList (nfe_comp ?_) (Nat.zero_le _)
  have hs2 : (s2.heap.push { cls := .type "list", data := .seq (([] : List Value)).toArray }).objs.size = s2.heap.objs.size + 1 := Heap.size_push ..
  dsimp only
  rw [hs2]
  have I3 := blk_start (fp := fp) B I2 hcl hcf f2 (T.obj _ _ st2)
  obtain ⟨W, ⟨m0, w0⟩, turn⟩ := h2 s2.heap.objs.size I2.fresh
  have hk : ∀ b o, s2.heap.get? b = some o → (pushCells ((s2.heap.push { cls := .type "list", data := .seq #[] }).push { cls := .type "dict", data := .dict #[] }) scope.names).get? b = some o :=
    fun b o e => pushCells_keeps _ _ b o (Heap.get?_push_of_some _ (Heap.get?_push_of_some _ e))
  have st3 := T.keep _ _ _ st2 fun b _ o e => hk b o e
  have fr3 : ∀ b ∈ fp, (upd H2 s2.heap.objs.size (.lst [])) b = none := fun b hb => by
    obtain ⟨o, e, _⟩ := T.obj _ _ st2 b hb
    rw [upd_ne (Nat.ne_of_lt (Heap.lt_size e))]
    exact (f2 b hb).1
  have stat : ∀ {σ5 : St} {H5 : Hp} {s5 : Shared}, Inv (blkCx X N scope cl s2 H2 fp) [] σ5 H5 s5 → (∀ b ∈ fp, H5 b = none) → ∀ b ∈ fp, FpOk (blkCx X N scope cl s2 H2 fp) [] H5 b := fun I5 hn b hb =>
    ⟨hn b hb, (I5.ok.exf b hb).1, I5.ok.exfs b hb, .inl hb, (I5.ok.exf b hb).2, fun p hp => absurd (show p ∈ ([] : List (Addr × Obj)) from hp) (by simp)⟩
  have loop : ∀ s₃ : Shared, s₃ = { s2 with heap := pushCells ((s2.heap.push { cls := .type "list", data := .seq #[] }).push { cls := .type "dict", data := .dict #[] }) scope.names } →
      codeAny (model X.prog X.w) X.A (.compLoop (.ListComp elt [⟨tg, iter, ifs, 0⟩] scope pos) 0 (.ref it) (.ref s2.heap.objs.size) (blkCx X N scope cl s2 H2 fp).env) (RR (.ref s2.heap.objs.size) (s2.heap.objs.size + 1)) s₃ := by
    rintro s₃ rfl
    refine comp_loop (fun n s' => ∃ i σ' H', Inv (blkCx X N scope cl s2 H2 fp) [] σ' H' s' ∧ tn i s'.heap ∧ (∀ b ∈ fp, H' b = none) ∧ W i n σ' H') ?_ m0 ⟨0, _, _, I3, st3, fr3, w0⟩
    rintro n s4 ⟨i, σ4, H4, I4, st4, fr4, w4⟩
    have xe_ : ∀ x s', (blkCx X N scope cl s2 H2 fp).xe x s' → notedBy (model X.prog X.w) X.A (blkCx X N scope cl s2 H2 fp).env (fun e s' => RR (.ref s2.heap.objs.size) (s2.heap.objs.size + 1) (.error e) s') x s' := fun x s' hx =>
      wpAny_mono (hx ⟨pins, σ, I2, f2⟩) (fun _ s'' q => bad _ _ _ _ q) fun e s'' q => bad _ _ _ _ q
    rcases turn i n σ4 H4 w4 with ⟨stop, qn⟩ | ⟨go, Nx, hN, step⟩
    · refine wpAny_mono (T.done (blkCx X N scope cl s2 H2 fp) rfl rfl rfl hc i [] s4 σ4 H4 _ I4 (stat I4 fr4) st4 stop) (fun r s5 ⟨hr, I5⟩ => ?_) xe_
      subst hr
      exact ok s2 H2 fp σ4 H4 s5 I2 f2 I5 qn
    · refine wpAny_mono (T.item (blkCx X N scope cl s2 H2 fp) rfl rfl rfl hc i [] s4 σ4 H4 _ I4 (stat I4 fr4) st4 go) (fun r s5 ⟨u, hr, h5⟩ => ?_) xe_
      subst hr
      refine wpAny_mono h5 (fun _ s6 ⟨x, H6, I6, r6, y6, st6, fr6⟩ => ?_) xe_
      have I6' := I6.pinned (stat I6 fr6) (T.obj _ _ st6)
      refine wpAny_mono (hg cl s2 H2 fp _ s6 σ4 H6 x u _ I6' r6 (step x H6 y6)) (fun _ s7 ⟨σ7, H7, I7, q7⟩ => ?_) xe_
      have again : ∀ {σ8 : St} {H8 : Hp} {s8 : Shared}, Inv (blkCx X N scope cl s2 H2 fp) ([] ++ pinsAt fp s6.heap) σ8 H8 s8 → Nx σ8 H8 → ∃ m, m < n ∧ ∃ i σ' H', Inv (blkCx X N scope cl s2 H2 fp) [] σ' H' s8 ∧ tn i s8.heap ∧ (∀ b ∈ fp, H' b = none) ∧ W i m σ' H' := fun {σ8 H8 s8} I8 n8 => by
        obtain ⟨m', hm, w8⟩ := hN σ8 H8 n8
        refine ⟨m', hm, i + 1, σ8, H8, I8.unpinned, T.keep _ _ _ st6 fun b hb o e => (I8.pin (b, o) (List.mem_append_right _ (List.mem_append_right _ (mem_pinsAt hb e)))).1, fun b hb => ?_, w8⟩
        obtain ⟨o, e, d⟩ := T.obj _ _ st6 b hb
        exact (I8.pin (b, o) (List.mem_append_right _ (List.mem_append_right _ (mem_pinsAt hb e)))).2.1
      refine wpAny_mono (ht cl s2 H2 fp _ s7 σ7 H7 _ I7 q7) (fun okb s8 ⟨H8, I8, q8⟩ => ?_) xe_
      cases okb with
      | false => exact again I8 q8
      | true =>
        refine wpAny_mono (he cl s2 H2 fp _ s8 σ7 H8 _ I8 q8) (fun y s9 ⟨yv, H9, I9, r9, ys, hl, hz, q9⟩ => ?_) xe_
        refine wpAny_mono (mt_append (X := blkCx X N scope cl s2 H2 fp) _ s9 σ7 H9 (.ref s2.heap.objs.size) [yv] (.ref s2.heap.objs.size) [y] (fun _ H10 => Nx σ7 H10) I9 rfl (.cons r9 .nil) ⟨_, ys, yv, rfl, rfl, hl, hz, q9⟩) (fun _ s10 ⟨_, H10, I10, _, q10⟩ => ?_) xe_
        exact again I10 q10
  exact codeAny_compStart_list (loop _ rfl) (T.self _ 0 _ _ _ st3 (loop _ rfl))
def tComp (ix : List (Option Nat)) (wi : TI) (g : TG) (tt : TT) (te : TE) : TE := fun σ H Q => tCompG ix wi g tt te (fun l H' => Q (.ref l) H') σ H
def sComp (k : Nat) (ix : List (Option Nat)) (wi : TI) (g : TG) (tt : TT) (te : TE) : TS := fun D σ H => tCompG ix wi g tt te (fun l H' => D.nx (σ.set k (some (.ref l))) H') σ H
theorem comp_cl (I : Inv X pins σ H s) {ix : List (Option Nat)} (B : BlkOk X N ix scope) : ∃ cl, closureFor scope X.env = pure cl ∧ (∀ x c, cl.lookup x = some c → X.env.cells.lookup x = some c) ∧ ∀ x, (x, NameKind.free) ∈ scope.names → ∃ c, cl.lookup x = some c :=
  closure_of fun x hx => I.ok.has x (B.free x hx)
theorem names_local {ix : List (Option Nat)} (B : BlkOk X N ix scope) : ∀ x ∈ scope.names, x.2 = NameKind.local → scope.names.lookup x.1 = some .local := fun x hx e => by
  obtain ⟨n, k⟩ := x
  cases e
  exact lookup_of_mem B.names hx
theorem pe_comp {tg iter elt : Expr} {ifs : List Expr} {pos : Pos} {ix : List (Option Nat)} {wi : TI} {g : TG} {tt : TT} {te : TE} (N : List Str) (B : BlkOk X N ix scope) (hc : X.calm = true)
    (hi : PI X tg iter wi) (hg : ∀ cl s H fp, PG (blkCx X N scope cl s H fp) tg g) (ht : ∀ cl s H fp, PTs (blkCx X N scope cl s H fp) ifs tt) (he : ∀ cl s H fp, PE (blkCx X N scope cl s H fp) elt te)
    (hs : ∀ x, foldedSetIterable iter X.env x = pure x := by intro _; rfl) : PE X (.ListComp elt [⟨tg, iter, ifs, 0⟩] scope pos) (tComp ix wi g tt te) := by
  intro pins s σ H Q I h
  obtain ⟨cl, e1, e2, e3⟩ := comp_cl I B
  rw [eval_ListComp]
  refine wpAny_comprehension_free (use := none) rfl hs e1 B.kind (names_local B) ?_
  refine comp_run (RR := fun acc C => compPost (model X.prog X.w) X.A X.xe none (EP X pins σ Q) acc C) B hc hi hg ht he e2 e3 I h (fun s2 H2 fp σ3 H3 s3 I2 f2 J q => ?_) (fun a C x s' q => q)
  obtain ⟨m, hn, _⟩ := J.loc
  exact ⟨m, hn, fun h' sb => ⟨.ref _, H3, blk_end I2 J f2 sb, rfl, q⟩⟩
theorem ps_comp {y : Str} {py spos : Pos} {k : Nat} {tg iter elt : Expr} {ifs : List Expr} {pos : Pos} {ix : List (Option Nat)} {wi : TI} {g : TG} {tt : TT} {te : TE} (hN : X.N.Nodup) (hy : X.N[k]? = some y) (hx : Loc X.env.scope y)
    (hsw : swapsWith (.ListComp elt [⟨tg, iter, ifs, 0⟩] scope pos) (some (.Name y py)) spos.line X.env = pure true) (N : List Str) (B : BlkOk X N ix scope) (hc : X.calm = true)
    (hi : PI X tg iter wi) (hg : ∀ cl s H fp, PG (blkCx X N scope cl s H fp) tg g) (ht : ∀ cl s H fp, PTs (blkCx X N scope cl s H fp) ifs tt) (he : ∀ cl s H fp, PE (blkCx X N scope cl s H fp) elt te)
    (hs : ∀ x, foldedSetIterable iter X.env x = pure x := by intro _; rfl) (hf : X.fn y = true ∨ X.env.scope.names.lookup y = some .local := by first | exact .inl rfl | exact .inr rfl | assumption) :
    PS X (.Assign [.Name y py] (.ListComp elt [⟨tg, iter, ifs, 0⟩] scope pos) spos) (sComp k ix wi g tt te) := by
  intro pins s σ H D I h
  obtain ⟨cl, e1, e2, e3⟩ := comp_cl I B
  rw [exec_Assign_Name_used _ _ _ _ hsw]
  refine wpAny_bind (wpAny_standAt (wpAny_bind ?_))
  show wpAny _ X.A (do let _ ← comprehension (.ListComp elt [⟨tg, iter, ifs, 0⟩] scope pos) scope X.env _ (newList []) false (eval iter X.env) (some (assign (.Name y py) X.env))) _ _ s
  refine wpAny_bind (wpAny_mono (wpAny_comprehension_free (use := some (assign (.Name y py) X.env)) (Q := fun _ s' => SP X pins D .next s') rfl hs e1 B.kind (names_local B) ?_) (fun _ s' hq => wpAny_pure (wpAny_pure hq)) fun _ _ e => e)
  refine comp_run (RR := fun acc C => compPost (model X.prog X.w) X.A X.xe (some (assign (.Name y py) X.env)) (fun _ s' => SP X pins D .next s') acc C) B hc hi hg ht he e2 e3 I h (fun s2 H2 fp σ3 H3 s3 I2 f2 J q => ?_) (fun a C x s' q => q)
  obtain ⟨m, hn, _⟩ := J.loc
  have I3 : Inv X pins σ H3 { s3 with heap := s3.heap } := blk_end I2 J f2 (Heap.SameBut.refl _ _)
  show wpAny _ X.A (assign (.Name y py) X.env (.ref _)) _ _ _
  refine wpAny_assign_Name (store_ok2 (v := .ref _) I3 hN hy hx rfl (fun s4 I4 ⟨a, sb4, ha⟩ => ?_) hf)
  have hlt : a < s2.heap.objs.size := by
    rcases ha with rfl | ha
    · exact I2.lt
    · obtain ⟨v, z⟩ := I2.cell _ _ ha
      exact z.lt
  have hCa : s2.heap.objs.size + 1 ≠ a := Nat.ne_of_gt (Nat.lt_succ_of_lt hlt)
  refine ⟨m, hn.sameBut sb4 hCa, fun h' sb => ?_⟩
  refine ⟨_, H3, I4.turned (t' := s4.toks) (it := s2.heap.objs.size + 1) (fun b o hb e => (sb.2 b hb).trans e) J.free (Nat.ne_of_gt (Nat.lt_succ_of_lt I2.lt)) (.inr (Nat.le_trans I2.sz (Nat.le_succ _))) (fun x c e => ?_) (fun p hp => ?_), q⟩
  · obtain ⟨v, z⟩ := I2.cell x c e
    exact Nat.ne_of_lt (Nat.lt_succ_of_lt z.lt)
  · exact Nat.ne_of_lt (Nat.lt_succ_of_lt (Heap.lt_size (I2.pin p hp).1))
end
end L2
set_option Elab.async false
set_option linter.all false
set_option maxRecDepth 100000
namespace L2
open PySem PySem.Spec PyProof.Rows
def bnd {α : Type} : Option α → (α → Prop) → Prop
  | some a, k => k a
  | none, _ => False
theorem bnd_of {α : Type} {o : Option α} {a : α} {k : α → Prop} (h : o = some a) (q : k a) : bnd o k := by subst h; exact q
theorem bnd_ex {α : Type} {o : Option α} {k : α → Prop} (h : bnd o k) : ∃ a, o = some a ∧ k a := by
  cases o with
  | none => exact h.elim
  | some a => exact ⟨a, rfl, h⟩
theorem bnd_some {α : Type} {a : α} {k : α → Prop} : bnd (some a) k = k a := rfl
def unM : Option HO → Option (List V)
  | some (.lst xs) => some xs
  | _ => none
def unL : Option HO → Option (List V)
  | some (.lst xs) => some xs
  | some (.frz _ (.lst xs)) => some xs
  | _ => none
def unS : Option HO → Option (List V)
  | some (.lst xs) => some xs
  | some (.frz _ (.lst xs)) => some xs
  | some (.tup xs) => some xs
  | _ => none
theorem unM_ex {o : Option HO} {xs : List V} (h : unM o = some xs) : o = some (.lst xs) := by
  unfold unM at h; split at h
  · cases h; rfl
  · cases h
theorem unL_sq {K : PySem.W.Frag} {H : Hp} {p : Addr} {xs : List V} (h : unL (H p) = some xs) : SqL K H p xs := by
  unfold unL at h; split at h
  · rename_i e; cases h; exact .inl (.inl e)
  · rename_i o _ e; cases h; exact .inl (.inr ⟨_, e⟩)
  · cases h
theorem unS_sq {K : PySem.W.Frag} {H : Hp} {p : Addr} {xs : List V} (h : unS (H p) = some xs) : SqL K H p xs ∨ SqT K H p xs := by
  unfold unS at h; split at h
  · rename_i e; cases h; exact .inl (.inl (.inl e))
  · rename_i o _ e; cases h; exact .inl (.inl (.inr ⟨_, e⟩))
  · rename_i e; cases h; exact .inr (.inl (.inl e))
  · cases h
mutual
inductive DV (K : PySem.W.Frag) (H : Hp) : V → PyData → Prop
  | non : DV K H .non .none
  | bl (b : Bool) : DV K H (.bl b) (.bool b)
  | int (i : Int) : DV K H (.int i) (.int i)
  | str (x : Str) : DV K H (.str x) (.str x)
  | lst {a : Addr} {xs : List V} {ds : List PyData} : SqL K H a xs → DVs K H xs ds → DV K H (.ref a) (.list ds)
  | tup {a : Addr} {xs : List V} {ds : List PyData} : SqT K H a xs → DVs K H xs ds → DV K H (.ref a) (.tuple ds)
inductive DVs (K : PySem.W.Frag) (H : Hp) : List V → List PyData → Prop
  | nil : DVs K H [] []
  | cons {x : V} {d : PyData} {xs : List V} {ds : List PyData} : DV K H x d → DVs K H xs ds → DVs K H (x :: xs) (d :: ds)
end
section
variable {X : Cx} {pins : List (Addr × Obj)} {σ : St} {H : Hp} {s : Shared}
mutual
theorem DV.reads (I : Inv X pins σ H s) : ∀ {x : V} {d : PyData} {v : Value}, DV X.K H x d → RelV x v → ∃ as, Reads s.heap v d as
  | _, _, _, .non, r => by cases r; exact ⟨_, .none⟩
  | _, _, _, .bl b, r => by cases r; exact ⟨_, .bool b⟩
  | _, _, _, .int i, r => by obtain ⟨t, rfl⟩ := r; exact ⟨_, .int i t⟩
  | _, _, _, .str x, r => by obtain ⟨t, rfl⟩ := r; exact ⟨_, .str x t⟩
  | _, _, _, .lst (a := a) h hs, r => by
    cases r
    obtain ⟨its, rv, p, _⟩ := I.list h
    obtain ⟨as, q⟩ := DVs.reads I hs rv
    obtain ⟨o, h1, h2, n, h3⟩ := p.isList
    exact ⟨_, .list h1 h2 h3 q⟩
  | _, _, _, .tup (a := a) h hs, r => by
    cases r
    obtain ⟨its, rv, p, _⟩ := I.tuple h
    obtain ⟨as, q⟩ := DVs.reads I hs rv
    obtain ⟨o, h1, h2, n, h3⟩ := p
    exact ⟨_, .tuple h1 h2 h3 q⟩
theorem DVs.reads (I : Inv X pins σ H s) : ∀ {xs : List V} {ds : List PyData} {us : List Value}, DVs X.K H xs ds → Vals xs us → ∃ as, ReadsAll s.heap us ds as
  | _, _, _, .nil, .nil => ⟨_, .nil⟩
  | _, _, _, .cons h hs, .cons r rs => by
    obtain ⟨as, q⟩ := DV.reads I h r
    obtain ⟨bs, q2⟩ := DVs.reads I hs rs
    exact ⟨_, .cons q q2⟩
end
end
theorem DVs.ints {K : PySem.W.Frag} {H : Hp} : ∀ ns : List Int, DVs K H (ns.map V.int) (ns.map PyData.int)
  | [] => .nil
  | n :: r => .cons (.int n) (DVs.ints r)
theorem eqv_ints : ∀ ns ms : List Int, PyData.eqvAll (ns.map PyData.int) (ms.map PyData.int) = decide (ns = ms) := PySem.W.ked_eqvAll
theorem lay_ints : ∀ ns : List Int, PyData.canLayAll0 (ns.map PyData.int) = true
  | [] => rfl
  | n :: r => by rw [List.map_cons, PyData.canLayAll0, lay_ints r]; rfl
theorem depth_ints : ∀ ns : List Int, PyData.depthAll (ns.map PyData.int) = 0
  | [] => rfl
  | n :: r => by rw [List.map_cons, PyData.depthAll, depth_ints r]; rfl
theorem shaped_ints (ns : List Int) : SeqAt.shaped (.list (ns.map PyData.int)) = true := by
  simp [SeqAt.shaped, PyData.canLay0, lay_ints, PyData.depth, depth_ints]
def cAdd : R2
  | .int i, .int j, H, Q => Q (.int (i + j)) H
  | .str i, .str j, H, Q => i.length + j.length ≤ sizeLine ∧ Q (.str (i ++ j)) H
  | .ref l, .ref b, H, Q => bnd (unM (H l)) fun xs => bnd (unM (H b)) fun zs => xs.length + zs.length ≤ sizeLine ∧ ∀ p, H p = none → Q (.ref p) (upd H p (.lst (xs ++ zs)))
  | _, _, _, _ => False
def cSub : R2
  | .int i, .int j, H, Q => Q (.int (i - j)) H
  | _, _, _, _ => False
def cMul : R2
  | .int i, .int j, H, Q => CMul i j ∧ Q (.int (i * j)) H
  | _, _, _, _ => False
def cDiv : R2
  | .int i, .int j, H, Q => CDiv i j ∧ Q (.int (i / j)) H
  | _, _, _, _ => False
def cMod : R2
  | .int i, .int j, H, Q => 0 < j ∧ Q (.int (i % j)) H
  | _, _, _, _ => False
def cPow : R2
  | .int i, .int j, H, Q => CPow i j ∧ Q (.int (i ^ j.toNat)) H
  | _, _, _, _ => False
def cCmp (g : Int → Int → Bool) : R2
  | .int i, .int j, H, Q => Q (.bl (g i j)) H
  | _, _, _, _ => False
def rEqD (K : PySem.W.Frag) : R2 := fun x y H Q => ∃ d e, DV K H x d ∧ DV K H y e ∧ SeqAt.shaped d = true ∧ SeqAt.shaped e = true ∧ Q (.bl (PyData.eqv d e)) H
def rNeD (K : PySem.W.Frag) : R2 := fun x y H Q => ∃ d e, DV K H x d ∧ DV K H y e ∧ SeqAt.shaped d = true ∧ SeqAt.shaped e = true ∧ Q (.bl (!PyData.eqv d e)) H
def cEq (K : PySem.W.Frag) : R2
  | .int i, .int j, H, Q => Q (.bl (decide (i = j))) H
  | .bl i, .bl j, H, Q => Q (.bl (decide (i = j))) H
  | .str i, .str j, H, Q => Q (.bl (decide (i = j))) H
  | x, y, H, Q => rEqD K x y H Q
def cNe (K : PySem.W.Frag) : R2
  | .int i, .int j, H, Q => Q (.bl (!decide (i = j))) H
  | .bl i, .bl j, H, Q => Q (.bl (!decide (i = j))) H
  | .str i, .str j, H, Q => Q (.bl (!decide (i = j))) H
  | x, y, H, Q => rNeD K x y H Q
def keyOf : V → Option Key
  | .int i => some (.inl i)
  | .str x => some (.inr x)
  | _ => none
def unD : Option HO → Option (List (Key × V))
  | some (.dK kvs) => some kvs
  | _ => none
def cIx : R2
  | .ref p, y, H, Q => (match unD (H p) with
    | some kvs => bnd (keyOf y) fun k => bnd (valV kvs k) fun v => Q v H
    | none => match y with
      | .int i => bnd (unS (H p)) fun xs => bnd (atI xs i) fun v => Q v H
      | _ => False)
  | .str z, .int i, H, Q => z.length ≤ sizeLine ∧ bnd (atI z.cps.toList i) fun c => Q (.str ⟨#[c]⟩) H
  | _, _, _, _ => False
theorem unD_ex {o : Option HO} {kvs : List (Key × V)} (h : unD o = some kvs) : o = some (.dK kvs) := by
  unfold unD at h; split at h
  · cases h; rfl
  · cases h
theorem keyOf_kV {x : V} {k : Key} (h : keyOf x = some k) : x = kV k := by
  unfold keyOf at h; split at h
  · cases h; rfl
  · cases h; rfl
  · cases h
section
variable {X : Cx} {a b c : Expr} {ta tb tc : TE} {pos : Pos}
theorem op_cAdd : OpR X (binaryOp .Add) cAdd := by
  intro pins s σ H x y v u Q I rx ry h
  unfold cAdd at h
  split at h
  · exact op_add pins s σ H _ _ v u Q I rx ry ⟨_, _, rfl, rfl, h⟩
  · exact op_add_str pins s σ H _ _ v u Q I rx ry ⟨_, _, rfl, rfl, h.1, h.2⟩
  · obtain ⟨xs, e1, h⟩ := bnd_ex h
    obtain ⟨zs, e2, h⟩ := bnd_ex h
    exact op_cat pins s σ H _ _ v u Q I rx ry ⟨_, _, xs, zs, rfl, rfl, unM_ex e1, unM_ex e2, h.1, h.2⟩
  · exact h.elim
theorem op_cSub : OpR X (binaryOp .Sub) cSub := by
  intro pins s σ H x y v u Q I rx ry h
  unfold cSub at h
  split at h
  · exact op_sub pins s σ H _ _ v u Q I rx ry ⟨_, _, rfl, rfl, h⟩
  · exact h.elim
theorem op_cMul : OpR X (binaryOp .Mult) cMul := by
  intro pins s σ H x y v u Q I rx ry h
  unfold cMul at h
  split at h
  · exact op_mul pins s σ H _ _ v u Q I rx ry ⟨_, _, rfl, rfl, h.1, h.2⟩
  · exact h.elim
theorem op_cDiv : OpR X (binaryOp .FloorDiv) cDiv := by
  intro pins s σ H x y v u Q I rx ry h
  unfold cDiv at h
  split at h
  · exact op_fdiv pins s σ H _ _ v u Q I rx ry ⟨_, _, rfl, rfl, h.1, h.2⟩
  · exact h.elim
theorem op_cMod : OpR X (binaryOp .Mod) cMod := by
  intro pins s σ H x y v u Q I rx ry h
  unfold cMod at h
  split at h
  · exact op_mod pins s σ H _ _ v u Q I rx ry ⟨_, _, rfl, rfl, h.1, h.2⟩
  · exact h.elim
theorem op_cPow : OpR X (binaryOp .Pow) cPow := by
  intro pins s σ H x y v u Q I rx ry h
  unfold cPow at h
  split at h
  · exact op_pow pins s σ H _ _ v u Q I rx ry ⟨_, _, rfl, rfl, h.1, h.2⟩
  · exact h.elim
theorem op_cCmp {op : CmpOp} {g : Int → Int → Bool} (o : OpR X (compareOp op) (rI0 fun i j => .bl (g i j))) : OpR X (compareOp op) (cCmp g) := by
  intro pins s σ H x y v u Q I rx ry h
  unfold cCmp at h
  split at h
  · exact o pins s σ H _ _ v u Q I rx ry ⟨_, _, rfl, rfl, h⟩
  · exact h.elim
theorem op_cLt : OpR X (compareOp .Lt) (cCmp fun i j => decide (i < j)) := op_cCmp op_lt
theorem op_cGt : OpR X (compareOp .Gt) (cCmp fun i j => decide (j < i)) := op_cCmp op_gt
theorem op_cGe : OpR X (compareOp .GtE) (cCmp fun i j => decide (j ≤ i)) := op_cCmp op_ge
theorem op_eqD (hu : X.A.units + 64 < cLine) : OpR X (compareOp .Eq) (rEqD X.K) := by
  intro pins s σ H x y v u Q I rx ry h
  obtain ⟨d, e, h1, h2, h3, h4, q⟩ := h
  obtain ⟨as, r1⟩ := h1.reads I rx
  obtain ⟨bs, r2⟩ := h2.reads I ry
  exact eq_dataH r1 r2 h3 h4 hu ⟨.bl _, H, I, rfl, q⟩
theorem op_neD (hu : X.A.units + 64 < cLine) : OpR X (compareOp .NotEq) (rNeD X.K) := by
  intro pins s σ H x y v u Q I rx ry h
  obtain ⟨d, e, h1, h2, h3, h4, q⟩ := h
  obtain ⟨as, r1⟩ := h1.reads I rx
  obtain ⟨bs, r2⟩ := h2.reads I ry
  exact ne_dataH r1 r2 h3 h4 hu ⟨.bl _, H, I, rfl, q⟩
theorem op_cEq (hu : X.A.units + 64 < cLine) : OpR X (compareOp .Eq) (cEq X.K) := by
  intro pins s σ H x y v u Q I rx ry h
  unfold cEq at h
  split at h
  · refine op_eq pins s σ H _ _ v u Q I rx ry ⟨rfl, ?_⟩
    simpa using h
  · refine op_eq pins s σ H _ _ v u Q I rx ry ⟨rfl, ?_⟩
    simpa using h
  · refine op_eq pins s σ H _ _ v u Q I rx ry ⟨rfl, ?_⟩
    simpa using h
  · exact op_eqD hu pins s σ H _ _ v u Q I rx ry h
theorem op_cNe (hu : X.A.units + 64 < cLine) : OpR X (compareOp .NotEq) (cNe X.K) := by
  intro pins s σ H x y v u Q I rx ry h
  unfold cNe at h
  split at h
  · refine op_ne pins s σ H _ _ v u Q I rx ry ⟨rfl, ?_⟩
    simpa using h
  · refine op_ne pins s σ H _ _ v u Q I rx ry ⟨rfl, ?_⟩
    simpa using h
  · refine op_ne pins s σ H _ _ v u Q I rx ry ⟨rfl, ?_⟩
    simpa using h
  · exact op_neD hu pins s σ H _ _ v u Q I rx ry h
end
end L2
set_option Elab.async false
set_option linter.all false
set_option maxRecDepth 100000
namespace L2
open PySem PySem.Spec PyProof.Rows
section
variable {X : Cx} {a b c : Expr} {ta tb tc : TE} {pos : Pos}
theorem ix_c (hu : X.A.units + 64 < cLine) : IxR X cIx := by
  intro value slice pins s σ H x y v u Q I rx ry h hs
  cases x with
  | ref p =>
    unfold cIx at h
    dsimp only at h
    split at h
    · rename_i kvs e
      obtain ⟨k, ek, h⟩ := bnd_ex h
      obtain ⟨z, ez, q⟩ := bnd_ex h
      cases (show v = Value.ref p from rx)
      have g : DGet H p y (some z) := by rw [keyOf_kV ek, ← ez]; exact DGet.k (unD_ex e)
      exact tail_any (dict_typeIs I g) PySem.F.slot_dict_getitem.lookup (d_getItem (Nat.lt_of_le_of_lt (Nat.add_le_add_left (by decide : 1 ≤ 64) _) hu) I g ry fun w' s3 I3 rw' => ⟨z, H, I3, rw', q⟩) hs
    · split at h
      · obtain ⟨xs, e, h⟩ := bnd_ex h
        obtain ⟨z, ez, q⟩ := bnd_ex h
        rcases unS_sq (K := X.K) e with r | r
        · exact ix_list value slice pins s σ H _ _ v u Q I rx ry ⟨p, xs, _, z, rfl, rfl, r, ez, q⟩ hs
        · exact ix_tup value slice pins s σ H _ _ v u Q I rx ry ⟨p, xs, _, z, rfl, rfl, r, ez, q⟩ hs
      · exact h.elim
  | str zz =>
    cases y with
    | int i =>
      obtain ⟨hz, h⟩ := (show zz.length ≤ sizeLine ∧ bnd (atI zz.cps.toList i) fun c => Q (.str ⟨#[c]⟩) H from h)
      obtain ⟨z, ez, q⟩ := bnd_ex h
      exact ix_str value slice pins s σ H _ _ v u Q I rx ry ⟨_, _, z, rfl, rfl, hz, ez, q⟩ hs
    | _ => exact False.elim h
  | _ => exact False.elim h
def kLen : List V → Hp → VK → Prop
  | [.ref p], H, Q => (match unD (H p) with
    | some kvs => Q (.int kvs.length) H
    | none => bnd (unS (H p)) fun xs => Q (.int xs.length) H)
  | [.str z], H, Q => z.length ≤ sizeLine ∧ Q (.int z.length) H
  | _, _, _ => False
theorem call_kLen : CallR X (.builtin "len") kLen := by
  intro pins s σ H xs us Q I r h
  unfold kLen at h
  split at h
  · split at h
    · rename_i kvs e
      exact call_lenD pins s σ H _ us Q I r ⟨_, kvs, rfl, unD_ex e, h⟩
    · obtain ⟨ys, e, q⟩ := bnd_ex h
      exact call_len_seq pins s σ H _ us Q I r ⟨_, ys, rfl, unS_sq e, q⟩
  · exact call_len_str pins s σ H _ us Q I r ⟨_, rfl, h.1, h.2⟩
  · exact h.elim
def kAbs : List V → Hp → VK → Prop
  | [.int i], H, Q => Q (.int (if i < 0 then -i else i)) H
  | _, _, _ => False
def kMin : List V → Hp → VK → Prop
  | [.int i, .int j], H, Q => Q (.int (if j < i then j else i)) H
  | _, _, _ => False
theorem call_kMin (hc : X.calm = true) : CallR X (.builtin "min") kMin := by
  intro pins s σ H xs us Q I r h
  unfold kMin at h
  split at h
  · exact call_min2 hc pins s σ H _ us Q I r ⟨_, _, rfl, h⟩
  · exact h.elim
def kList : List V → Hp → VK → Prop
  | [.ref p], H, Q => bnd (unS (H p)) fun ys => ∀ l, H l = none → Q (.ref l) (upd H l (.lst ys))
  | _, _, _ => False
theorem call_kList : CallR X (.type "list") kList := by
  intro pins s σ H xs us Q I r h
  unfold kList at h
  split at h
  · obtain ⟨ys, e, q⟩ := bnd_ex h
    exact call_list_of pins s σ H _ us Q I r ⟨_, ys, rfl, unS_sq e, q⟩
  · exact h.elim
def kSorted : List V → Hp → VK → Prop
  | [.ref p], H, Q => bnd (unL (H p)) fun ys => ∃ ns : List Int, ys = ns.map V.int ∧ ns.length < 64 ∧ ∀ (ns' : List Int) l, H l = none → ns'.Perm ns → ns'.Pairwise (· ≤ ·) → Q (.ref l) (upd H l (.lst (ns'.map V.int)))
  | _, _, _ => False
theorem call_kSorted : CallR X (.builtin "sorted") kSorted := by
  intro pins s σ H xs us Q I r h
  unfold kSorted at h
  split at h
  · rename_i p
    obtain ⟨ys, e, ns, rfl, hlen, q⟩ := bnd_ex h
    obtain ⟨u, rfl, ru⟩ := vals1 r
    cases ru
    obtain ⟨its, rv, pl, hz⟩ := I.list (unL_sq e)
    have hI : IntsAre its ns := intsAre_of rv
    have hl := rv.length
    rw [List.length_map] at hl
    refine sorted_ints pl.isList hI (by omega) fun out ns' hI' hp hs => ?_
    have old : ∀ b o, s.heap.get? b = some o → (sortedAll s.heap its out).get? b = some o := fun b o e => sortedAll_old e
    obtain ⟨n, at_⟩ := sortedAll_at s.heap its out
    have hfresh : H (s.heap.objs.size + 1) = none := I.hok.fresh (Nat.le_succ _)
    have hlen' : (ns'.map V.int).length ≤ sizeLine := by
      rw [List.length_map, hp.length_eq]
      exact Nat.le_of_lt (Nat.lt_trans hlen (by decide))
    refine ⟨.ref (s.heap.objs.size + 1), _, I.laid (t' := s.toks) (a := s.heap.objs.size + 1) (o := .lst (ns'.map V.int)) old (Nat.le_succ _) ⟨hlen', out.toList, n, vals_ints hI', ?_⟩, rfl, q ns' _ hfresh hp hs⟩
    rw [at_]
  · exact h.elim
def tyName (H : Hp) : V → Option String
  | .non => some "NoneType"
  | .bl _ => some "bool"
  | .int _ => some "int"
  | .str _ => some "str"
  | .ref p => match H p with
    | some (.lst _) => some "list"
    | some (.frz _ (.lst _)) => some "list"
    | some (.tup _) => some "tuple"
    | some (.dK _) => some "dict"
    | _ => none
  | _ => none
def isTy (t n : String) : Bool := t == n || (t == "bool" && n == "int")
def tyKnown (n : String) : Bool := ["int", "bool", "str", "list", "tuple", "dict"].contains n
theorem tyName_of {K : PySem.W.Frag} {H : Hp} {x : V} {t : String} (h : tyName H x = some t) : TyOf K H x (.type t) ∧ ["NoneType", "int", "bool", "str", "list", "tuple", "dict"].contains t = true := by
  cases x with
  | non => cases h; exact ⟨.non, by decide⟩
  | bl b => cases h; exact ⟨.bl b, by decide⟩
  | int i => cases h; exact ⟨.int i, by decide⟩
  | str i => cases h; exact ⟨.str i, by decide⟩
  | byt _ => cases h
  | flt _ => cases h
  | ty _ => cases h
  | ref p =>
    unfold tyName at h
    dsimp only at h
    split at h
    · rename_i e; cases h; exact ⟨.lst e, by decide⟩
    · rename_i e; cases h; exact ⟨.frz e, by decide⟩
    · rename_i e; cases h; exact ⟨.tup e, by decide⟩
    · rename_i e; cases h; exact ⟨.dK e, by decide⟩
    · cases h
theorem kit_ty (K : PySem.W.Frag) : ∀ t ∈ ["NoneType", "int", "bool", "str", "list", "tuple", "dict"], ∀ n ∈ ["int", "bool", "str", "list", "tuple", "dict"], PySem.W.kitOne K (.type t) (.type n) = some (isTy t n) := by
  intro t ht n hn
  simp only [List.mem_cons, List.not_mem_nil, or_false] at ht hn
  rcases ht with rfl | rfl | rfl | rfl | rfl | rfl | rfl <;> rcases hn with rfl | rfl | rfl | rfl | rfl | rfl <;> rfl
def kIsi : List V → Hp → VK → Prop
  | [x, .ty n], H, Q => tyKnown n = true ∧ bnd (tyName H x) fun t => Q (.bl (isTy t n)) H
  | _, _, _ => False
theorem call_kIsi : CallR X (.builtin "isinstance") kIsi := by
  intro pins s σ H xs us Q I r h
  unfold kIsi at h
  split at h
  · obtain ⟨hn, h⟩ := h
    obtain ⟨t, et, q⟩ := bnd_ex h
    obtain ⟨u, w, rfl, ru, rw'⟩ := vals2 r
    cases rw'
    obtain ⟨ty, ht⟩ := tyName_of (K := X.K) et
    exact isinst_ok I ru ty (kit_ty X.K t (by simpa using ht) _ (by simpa [tyKnown] using hn)) fun tk => ⟨.bl _, H, I.tok tk, rfl, q⟩
  · exact h.elim
def kAppend : V → List V → Hp → VK → Prop
  | .ref l, [y], H, Q => bnd (unM (H l)) fun xs => xs.length < sizeLine ∧ Q .non (upd H l (.lst (xs ++ [y])))
  | _, _, _, _ => False
theorem mt_kAppend : MtR X "list.append" kAppend := by
  intro pins s σ H x vs v us Q I rx rv h
  unfold kAppend at h
  split at h
  · obtain ⟨xs, e, h1, q⟩ := bnd_ex h
    exact mt_append pins s σ H _ _ v us Q I rx rv ⟨_, xs, _, rfl, rfl, unM_ex e, h1, q⟩
  · exact h.elim
def kClear : V → List V → Hp → VK → Prop
  | .ref l, [], H, Q => bnd (unM (H l)) fun _ => Q .non (upd H l (.lst []))
  | _, _, _, _ => False
theorem mt_kClear : MtR X "list.clear" kClear := by
  intro pins s σ H x vs v us Q I rx rv h
  unfold kClear at h
  split at h
  · obtain ⟨xs, e, q⟩ := bnd_ex h
    exact mt_clear pins s σ H _ _ v us Q I rx rv ⟨_, xs, rfl, rfl, unM_ex e, q⟩
  · exact h.elim
theorem tyV_list {K : PySem.W.Frag} {H : Hp} {p : Addr} {xs : List V} (h : H p = some (.lst xs)) : tyV K "list" (.ref p) H := .inl ⟨rfl, _, SqL.of h⟩
def cSl : V → Option Int → Option Int → Hp → VK → Prop
  | .ref p, lo, hi, H, Q => bnd (unL (H p)) fun xs => ∀ l, H l = none → Q (.ref l) (upd H l (.lst (cutV xs lo hi)))
  | _, _, _, _, _ => False
theorem sl_c : SlR X cSl := by
  intro pins s σ H x v vl vu lo hi sl Q I rx hs pl pu h
  unfold cSl at h
  split at h
  · obtain ⟨xs, e, q⟩ := bnd_ex h
    exact sl_list pins s σ H _ v vl vu lo hi sl Q I rx hs pl pu ⟨_, xs, rfl, unL_sq e, q⟩
  · exact h.elim
end
structure Cal (P : Program) (w : World) (K : PySem.W.Frag) (mg : Str → Option Value) (base : Heap) (k : Nat) (x : Str) (ps : List Str) (sp : Sp) : Prop where
  ex : ∃ (f : Addr) (fd : FuncData), FnOk P w K mg base CX0 k f fd ps sp ∧ mg x = some (.ref f) ∧ PySem.W.keepIn K (.ref f) = true ∧ Binds K fd ps []
theorem pe_cal {X : Cx} {k n : Nat} {x : Str} {ps : List Str} {sp : Sp} {p pos : Pos} {e : Expr} {es : List Expr} {t : TA} (C : Cal X.prog X.w X.K X.mg X.base k x ps sp) (hr : Room n X.A) (hk : k ≤ n) (hg : Gl X x) (ha : PA X (e :: es) t)
    (hdb : (x == ("__debug__" : Str)) = false := by decide) (he : starEach (e :: es) X.env = (false, eval e X.env) :: starEach es X.env := by rfl) (hpl : (backTo pos (starEach es X.env)).any (·.1) = false := by rfl) :
    PE X (.Call (.Name x p) (e :: es) [] pos) (tCall sp [] E0 t) := by
  obtain ⟨f, fd, F, hm, hkp, hb⟩ := C.ex
  exact pe_call F (hr.mono hk) hg hm hkp hb .nil pass0 ha hdb he hpl
end L2
set_option Elab.async false
set_option linter.all false
set_option maxRecDepth 100000
namespace L2
open PySem PySem.Spec PyProof.Rows
theorem bt_len : bootBuiltins "len" = some (.builtin "len") := by decide +kernel
theorem bt_min : bootBuiltins "min" = some (.builtin "min") := by decide +kernel
theorem bt_sorted : bootBuiltins "sorted" = some (.builtin "sorted") := by decide +kernel
theorem bt_any : bootBuiltins "any" = some (.builtin "any") := by decide +kernel
theorem bt_isinstance : bootBuiltins "isinstance" = some (.builtin "isinstance") := by decide +kernel
theorem bt_list : bootBuiltins "list" = some (.type "list") := by decide +kernel
theorem bt_int : bootBuiltins "int" = some (.type "int") := by decide +kernel
theorem bt_bool : bootBuiltins "bool" = some (.type "bool") := by decide +kernel
def compN (scope : Scope) : List Str := (scope.names.filter fun p => p.2 == .local || p.2 == .cell || p.2 == .free).map (·.1)
def compIx (N : List Str) (scope : Scope) : List (Option Nat) := (compN scope).map fun x => if scope.names.lookup x == some .free then N.findIdx? (· == x) else none
def isCF : Option NameKind → Bool
  | some .cell => true
  | some .free => true
  | _ => false
theorem blk_ok {X : Cx} {scope : Scope} (h1 : scope.kind = .function) (h2 : (scope.names.map (·.1)).Nodup) (h3 : (scope.names.all fun p => p.2 != .free || isCF (X.env.kindOf p.1)) = true) : BlkOk X (compN scope) (compIx X.N scope) scope where
  kind := h1
  nd := h2.sublist (List.Sublist.map _ (List.filter_sublist ..))
  len := by unfold compIx; rw [List.length_map]
  names := h2
  free := fun x hx => by
    have := List.all_eq_true.mp h3 (x, .free) hx
    simp only [bne_self_eq_false, Bool.false_or] at this
    unfold isCF at this
    split at this
    · rename_i e; exact .inl e
    · rename_i e; exact .inr e
    · cases this
  at_ := fun j i x e1 e2 => by
    unfold compIx at e2
    rw [List.getElem?_map, e1] at e2
    simp only [Option.map_some, Option.some.injEq] at e2
    split at e2
    · rename_i hf
      obtain ⟨hlt, hp, _⟩ := List.findIdx?_eq_some_iff_getElem.mp e2
      have hx : X.N[i]? = some x := by
        rw [List.getElem?_eq_getElem hlt]
        have : X.N[i] = x := by simpa using hp
        rw [this]
      refine ⟨hx, PySem.mem_of_lookup (by simpa using hf)⟩
    · cases e2
end L2
set_option Elab.async false
set_option linter.all false
set_option maxRecDepth 100000
namespace L2
open PySem PySem.Spec PyProof.Rows
section
variable {t u : TS} {D : Ends} {σ : St} {H : Hp} {Q : VK} {ta tb : TE} {R : Bool → Hp → Prop} {c d : TT}
theorem w_seq : tSeq t u D σ H = t { D with nx := u D } σ H := rfl
theorem w_next : tNext D σ H = D.nx σ H := rfl
theorem w_asg {g : TG} : tAsg ta g D σ H = ta σ H fun x H1 => g x σ H1 D.nx := rfl
theorem w_gname {i : Nat} {v : V} {k : St → Hp → Prop} : gName i v σ H k = k (σ.set i (some v)) H := rfl
theorem w_var {i : Nat} : tVar i σ H Q = ∃ v, σ[i]? = some (some v) ∧ Q v H := rfl
theorem w_c {v : V} : tC v σ H Q = Q v H := rfl
theorem w_op {r : R2} : tOp r ta tb σ H Q = ta σ H fun x H1 => tb σ H1 fun y H2 => r x y H2 Q := rfl
theorem w_ret : tRet ta D σ H = ta σ H D.rt := rfl
theorem w_retN : tRetN D σ H = D.rt .non H := rfl
theorem w_drop : tDrop ta D σ H = ta σ H fun _ H1 => D.nx σ H1 := rfl
theorem w_if : tIfS c t u D σ H = c σ H fun b H1 => if b = true then t D σ H1 else u D σ H1 := rfl
theorem w_test : tTest ta σ H R = ta σ H fun x H' => ∃ k, x = .bl k ∧ R k H' := rfl
theorem w_b : tB ta σ H R = ta σ H fun x H' => ∃ k, x = .bl k ∧ R k H' := rfl
theorem w_not : tNot c σ H R = c σ H fun k H1 => R (!k) H1 := rfl
theorem w_and : tAnd c d σ H R = c σ H fun k H1 => if k = true then d σ H1 R else R false H1 := rfl
theorem w_or : tOr c d σ H R = c σ H fun k H1 => if k = true then R true H1 else d σ H1 R := rfl
theorem w_notV : tNotV ta σ H Q = ta σ H fun x H1 => ∃ c, x = .bl c ∧ Q (.bl (!c)) H1 := rfl
theorem w_andV : tAndV ta tb σ H Q = ta σ H fun x H1 => ∃ c, x = .bl c ∧ if c = true then tb σ H1 Q else Q (.bl false) H1 := rfl
theorem w_orV : tOrV ta tb σ H Q = ta σ H fun x H1 => ∃ c, x = .bl c ∧ if c = true then Q (.bl true) H1 else tb σ H1 Q := rfl
theorem w_nil {k : List V → Hp → Prop} : tNil σ H k = k [] H := rfl
theorem w_cons {tr : TA} {k : List V → Hp → Prop} : tCons ta tr σ H k = ta σ H fun x H1 => tr σ H1 fun xs H2 => k (x :: xs) H2 := rfl
theorem w_cb {r : List V → Hp → VK → Prop} {tr : TA} : tCB r tr σ H Q = tr σ H fun vs H1 => r vs H1 Q := rfl
theorem w_call {sp : Sp} {dvs : List V} {E : XK} {tr : TA} : tCall sp dvs E tr σ H Q = tr σ H fun vs H1 => sp (vs ++ dvs) H1 Q E := rfl
theorem w_tup {tr : TA} : tTup tr σ H Q = tr σ H fun xs H1 => xs.length ≤ sizeLine ∧ ∀ p, H1 p = none → Q (.ref p) (upd H1 p (.tup xs)) := rfl
theorem w_lst {tr : TA} : tLst tr σ H Q = tr σ H fun xs H1 => xs.length ≤ sizeLine ∧ ∀ p, H1 p = none → Q (.ref p) (upd H1 p (.lst xs)) := rfl
theorem w_bm {K : PySem.W.Frag} {T : String} {r : V → List V → Hp → VK → Prop} {tr : TA} : tBM K T r ta tr σ H Q = ta σ H fun x H1 => tyV K T x H1 ∧ tr σ H1 fun xs H2 => r x xs H2 Q := rfl
theorem w_bm0 {K : PySem.W.Frag} {T : String} {r : V → List V → Hp → VK → Prop} : tBM0 K T r ta σ H Q = ta σ H fun x H1 => tyV K T x H1 ∧ r x [] H1 Q := rfl
theorem w_true : tTrue σ H R = R true H := rfl
theorem w_dnew : tDNewK σ H Q = ∀ p, H p = none → Q (.ref p) (upd H p (.dK [])) := rfl
theorem w_dput {td ty tv : TE} : sDPut td ty tv D σ H = tv σ H fun v H1 => td σ H1 fun x H2 => ty σ H2 fun y H3 => ∃ a H4, x = .ref a ∧ DPut H3 a y v H4 ∧ D.nx σ H4 := rfl
theorem w_add {i j : Int} : cAdd (.int i) (.int j) H Q = Q (.int (i + j)) H := rfl
theorem w_sub {i j : Int} : cSub (.int i) (.int j) H Q = Q (.int (i - j)) H := rfl
theorem w_mul {i j : Int} : cMul (.int i) (.int j) H Q = (CMul i j ∧ Q (.int (i * j)) H) := rfl
theorem w_div {i j : Int} : cDiv (.int i) (.int j) H Q = (CDiv i j ∧ Q (.int (i / j)) H) := rfl
theorem w_mod {i j : Int} : cMod (.int i) (.int j) H Q = (0 < j ∧ Q (.int (i % j)) H) := rfl
theorem w_cmp {g : Int → Int → Bool} {i j : Int} : cCmp g (.int i) (.int j) H Q = Q (.bl (g i j)) H := rfl
theorem w_eqI {K : PySem.W.Frag} {i j : Int} : cEq K (.int i) (.int j) H Q = Q (.bl (decide (i = j))) H := rfl
theorem w_neI {K : PySem.W.Frag} {i j : Int} : cNe K (.int i) (.int j) H Q = Q (.bl (!decide (i = j))) H := rfl
theorem w_eqB {K : PySem.W.Frag} {i j : Bool} : cEq K (.bl i) (.bl j) H Q = Q (.bl (decide (i = j))) H := rfl
theorem w_neB {K : PySem.W.Frag} {i j : Bool} : cNe K (.bl i) (.bl j) H Q = Q (.bl (!decide (i = j))) H := rfl
theorem w_ix {p : Addr} {i : Int} {xs : List V} (h : H p = some (.tup xs)) : cIx (.ref p) (.int i) H Q = bnd (atI xs i) fun v => Q v H := by
  unfold cIx; dsimp only; rw [h]; rfl
theorem w_ixL {p : Addr} {i : Int} {xs : List V} (h : H p = some (.lst xs)) : cIx (.ref p) (.int i) H Q = bnd (atI xs i) fun v => Q v H := by
  unfold cIx; dsimp only; rw [h]; rfl
theorem w_abs {i : Int} : kAbs [.int i] H Q = Q (.int (if i < 0 then -i else i)) H := rfl
theorem w_min {i j : Int} : kMin [.int i, .int j] H Q = Q (.int (if j < i then j else i)) H := rfl
theorem w_len {p : Addr} {xs : List V} (h : H p = some (.lst xs)) : kLen [.ref p] H Q = Q (.int xs.length) H := by
  unfold kLen; dsimp only; rw [h]; rfl
theorem w_append {p : Addr} {xs : List V} {y : V} (h : H p = some (.lst xs)) : kAppend (.ref p) [y] H Q = (xs.length < sizeLine ∧ Q .non (upd H p (.lst (xs ++ [y])))) := by
  unfold kAppend; dsimp only; rw [h]; rfl
end
def LoopR (J : It) (g : TG) (tb : TS) (D : Ends) (σ : St) (H1 : Hp) : Prop := ∃ W : Nat → Nat → St → Hp → Prop, (∃ m, W 0 m σ H1) ∧ ∀ i m σ H, W i m σ H →
  (J.stop i H ∧ D.nx σ H) ∨ (J.go i H ∧ ∃ N : St → Hp → Prop, (∀ σ' H', N σ' H' → ∃ m', m' < m ∧ W (i + 1) m' σ' H') ∧ ∀ x H', J.yld i H x H' → g x σ H' fun σ2 H2 => tb { D with nx := N, ct := N, bk := D.nx } σ2 H2)
def CompR (J : It) (g : TG) (tt : TT) (te : TE) (fin : Addr → Hp → Prop) (σ0 : St) (H1 : Hp) : Prop := ∀ l, H1 l = none →
  ∃ W : Nat → Nat → St → Hp → Prop, (∃ m, W 0 m σ0 (upd H1 l (.lst []))) ∧ ∀ i m σ' H', W i m σ' H' →
    (J.stop i H' ∧ fin l H') ∨ (J.go i H' ∧ ∃ N : St → Hp → Prop, (∀ σ'' H'', N σ'' H'' → ∃ m', m' < m ∧ W (i + 1) m' σ'' H'') ∧ ∀ x H2, J.yld i H' x H2 → g x σ' H2 fun σ2 H3 => tt σ2 H3 fun b H4 =>
      if b = true then te σ2 H4 fun y H5 => ∃ ys, H5 l = some (.lst ys) ∧ ys.length < sizeLine ∧ N σ2 (upd H5 l (.lst (ys ++ [y]))) else N σ2 H4)
section
variable {K : PySem.W.Frag} {g : TG} {tb : TS} {D : Ends} {σ : St} {H : Hp} {tl : TE} {ta : TA} {ix : List (Option Nat)} {tt : TT} {te : TE} {k : Nat} {Q : VK}
theorem w_forL : tFor (iList K tl) g tb D σ H = tl σ H fun x H1 => ∃ a, x = .ref a ∧ (∃ xs, SqL K H1 a xs) ∧ LoopR (Itl K a) g tb D σ H1 := rfl
theorem w_forR1 : tFor (iRng1 ta) g tb D σ H = ta σ H fun vs H1 => ∃ j : Int, vs = [.int j] ∧ -(2 ^ 62) ≤ j ∧ j < 2 ^ 62 ∧ LoopR (Itr 0 j.toNat) g tb D σ H1 := rfl
theorem w_forR2 : tFor (iRng2 ta) g tb D σ H = ta σ H fun vs H1 => ∃ i j : Int, vs = [.int i, .int j] ∧ (-(2 ^ 62) ≤ i ∧ i < 2 ^ 62 ∧ -(2 ^ 62) ≤ j ∧ j < 2 ^ 62) ∧ LoopR (Itr i (j - i).toNat) g tb D σ H1 := rfl
theorem w_compL : tComp ix (iList K tl) g tt te σ H Q = tl σ H fun x H1 => ∃ a, x = .ref a ∧ (∃ xs, SqL K H1 a xs) ∧ CompR (Itl K a) g tt te (fun l H' => Q (.ref l) H') (subσ ix σ) H1 := rfl
theorem w_compR1 : tComp ix (iRng1 ta) g tt te σ H Q = ta σ H fun vs H1 => ∃ j : Int, vs = [.int j] ∧ -(2 ^ 62) ≤ j ∧ j < 2 ^ 62 ∧ CompR (Itr 0 j.toNat) g tt te (fun l H' => Q (.ref l) H') (subσ ix σ) H1 := rfl
theorem w_scompL : sComp k ix (iList K tl) g tt te D σ H = tl σ H fun x H1 => ∃ a, x = .ref a ∧ (∃ xs, SqL K H1 a xs) ∧ CompR (Itl K a) g tt te (fun l H' => D.nx (σ.set k (some (.ref l))) H') (subσ ix σ) H1 := rfl
theorem w_scompR1 : sComp k ix (iRng1 ta) g tt te D σ H = ta σ H fun vs H1 => ∃ j : Int, vs = [.int j] ∧ -(2 ^ 62) ≤ j ∧ j < 2 ^ 62 ∧ CompR (Itr 0 j.toNat) g tt te (fun l H' => D.nx (σ.set k (some (.ref l))) H') (subσ ix σ) H1 := rfl
theorem comp_range {lo : Int} {n : Nat} {fin : Addr → Hp → Prop} {σ0 : St} {H1 : Hp} (Pv : Addr → Nat → St → Hp → Prop) (h0 : ∀ l, H1 l = none → Pv l 0 σ0 (upd H1 l (.lst [])))
    (hs : ∀ l i σ H, H1 l = none → i < n → Pv l i σ H → g (.int (lo + i)) σ H fun σ2 H3 => tt σ2 H3 fun b H4 => if b = true then te σ2 H4 fun y H5 => ∃ ys, H5 l = some (.lst ys) ∧ ys.length < sizeLine ∧ Pv l (i + 1) σ2 (upd H5 l (.lst (ys ++ [y]))) else Pv l (i + 1) σ2 H4)
    (hd : ∀ l σ H, H1 l = none → Pv l n σ H → fin l H) : CompR (Itr lo n) g tt te fin σ0 H1 := by
  intro l hl0
  refine ⟨fun i m σ H => m = n - i ∧ i ≤ n ∧ Pv l i σ H, ⟨n, by simp, Nat.zero_le _, h0 l hl0⟩, ?_⟩
  rintro i m σ H ⟨rfl, hi, p⟩
  by_cases hlt : i < n
  · refine .inr ⟨hlt, Pv l (i + 1), fun σ' H' p' => ⟨n - (i + 1), by omega, rfl, hlt, p'⟩, fun x H' y => ?_⟩
    obtain ⟨e, y⟩ := y
    subst e y
    exact hs l i σ _ hl0 hlt p
  · have e : i = n := by omega
    subst e
    exact .inl ⟨Nat.le_refl _, hd l σ H hl0 p⟩
theorem comp_list {a : Addr} {xs : List V} {fin : Addr → Hp → Prop} {σ0 : St} {H1 : Hp} (Pv : Addr → Nat → St → Hp → Prop) (h0 : ∀ l, H1 l = none → Pv l 0 σ0 (upd H1 l (.lst []))) (hq : ∀ l i σ H, H1 l = none → i ≤ xs.length → Pv l i σ H → SqL K H a xs)
    (hs : ∀ l i x σ H, H1 l = none → xs[i]? = some x → Pv l i σ H → g x σ H fun σ2 H3 => tt σ2 H3 fun b H4 => if b = true then te σ2 H4 fun y H5 => ∃ ys, H5 l = some (.lst ys) ∧ ys.length < sizeLine ∧ Pv l (i + 1) σ2 (upd H5 l (.lst (ys ++ [y]))) else Pv l (i + 1) σ2 H4)
    (hd : ∀ l σ H, H1 l = none → Pv l xs.length σ H → fin l H) : CompR (Itl K a) g tt te fin σ0 H1 := by
  intro l hl0
  refine ⟨fun i m σ H => m = xs.length - i ∧ i ≤ xs.length ∧ Pv l i σ H, ⟨xs.length, by simp, Nat.zero_le _, h0 l hl0⟩, ?_⟩
  rintro i m σ H ⟨rfl, hi, p⟩
  have q := hq l i σ H hl0 hi p
  by_cases hlt : i < xs.length
  · refine .inr ⟨⟨xs, xs[i], q, by simp [hlt]⟩, Pv l (i + 1), fun σ' H' p' => ⟨xs.length - (i + 1), by omega, rfl, hlt, p'⟩, fun x H' y => ?_⟩
    obtain ⟨e, y⟩ := y
    subst e
    exact hs l i x σ _ hl0 (y xs q) p
  · have e : i = xs.length := by omega
    subst e
    exact .inl ⟨⟨xs, q, Nat.le_refl _⟩, hd l σ H hl0 p⟩
theorem w_eqL {p q : Addr} {xs ys : List Int} (hp : H p = some (.lst (xs.map V.int))) (hq : H q = some (.lst (ys.map V.int))) (h : Q (.bl (decide (xs = ys))) H) : cEq K (.ref p) (.ref q) H Q := by
  show rEqD K (.ref p) (.ref q) H Q
  refine ⟨.list (xs.map PyData.int), .list (ys.map PyData.int), .lst (SqL.of hp) (.ints xs), .lst (SqL.of hq) (.ints ys), shaped_ints xs, shaped_ints ys, ?_⟩
  rw [PyData.eqv, eqv_ints]
  exact h
theorem w_neL {p q : Addr} {xs ys : List Int} (hp : H p = some (.lst (xs.map V.int))) (hq : H q = some (.lst (ys.map V.int))) (h : Q (.bl (!decide (xs = ys))) H) : cNe K (.ref p) (.ref q) H Q := by
  show rNeD K (.ref p) (.ref q) H Q
  refine ⟨.list (xs.map PyData.int), .list (ys.map PyData.int), .lst (SqL.of hp) (.ints xs), .lst (SqL.of hq) (.ints ys), shaped_ints xs, shaped_ints ys, ?_⟩
  rw [PyData.eqv, eqv_ints]
  exact h
theorem w_sorted {p : Addr} {ns : List Int} (hp : H p = some (.lst (ns.map V.int))) (hn : ns.length < 64) (h : ∀ (ns' : List Int) l, H l = none → ns'.Perm ns → ns'.Pairwise (· ≤ ·) → Q (.ref l) (upd H l (.lst (ns'.map V.int)))) : kSorted [.ref p] H Q := by
  unfold kSorted
  dsimp only
  rw [hp]
  exact ⟨ns, rfl, hn, h⟩
theorem w_list {p : Addr} {xs : List V} (hp : H p = some (.lst xs)) (h : ∀ l, H l = none → Q (.ref l) (upd H l (.lst xs))) : kList [.ref p] H Q := by
  unfold kList
  dsimp only
  rw [hp]
  exact h
end
theorem blk_ok2 {X : Cx} {N : List Str} {ix : List (Option Nat)} {scope : Scope} (h1 : scope.kind = .function) (h2 : (scope.names.map (·.1)).Nodup) (h3 : (scope.names.all fun p => p.2 != .free || isCF (X.env.kindOf p.1)) = true) (h4 : N = compN scope) (h5 : ix = compIx X.N scope) : BlkOk X N ix scope := by
  subst h4 h5
  exact blk_ok h1 h2 h3
def kLenS (K : PySem.W.Frag) : List V → Hp → VK → Prop := fun xs H Q => ∃ p ys, xs = [.ref p] ∧ (SqL K H p ys ∨ SqT K H p ys) ∧ Q (.int ys.length) H
structure Bt (mg : Str → Option Value) : Prop where
  len_ : mg "len" = none
  abs_ : mg "abs" = none
  min_ : mg "min" = none
  max_ : mg "max" = none
  sorted_ : mg "sorted" = none
  any_ : mg "any" = none
  isinstance_ : mg "isinstance" = none
  list_ : mg "list" = none
  int_ : mg "int" = none
  bool_ : mg "bool" = none
  str_ : mg "str" = none
  tuple_ : mg "tuple" = none
  reversed_ : mg "reversed" = none
  set_ : mg "set" = none
  range_ : mg "range" = none
  zip_ : mg "zip" = none
end L2
set_option Elab.async false
set_option linter.all false
set_option maxRecDepth 100000
namespace L2
open PySem PySem.Spec PyProof.Rows
theorem Vals.get' : ∀ {xs : List V} {us : List Value} {i : Nat} {u : Value}, Vals xs us → us[i]? = some u → ∃ x, xs[i]? = some x ∧ RelV x u
  | _, _, _, _, .nil, h => by simp at h
  | _, _, 0, _, .cons r _, h => by simp at h; subst h; exact ⟨_, rfl, r⟩
  | _, _, i + 1, _, .cons _ t, h => by
    obtain ⟨x, hx, r⟩ := Vals.get' (i := i) t (by simpa using h)
    exact ⟨x, by simpa using hx, r⟩
section
variable {X : Cx} {pins : List (Addr × Obj)} {σ : St} {H : Hp} {s s' : Shared}
theorem Inv.kept' (I : Inv X pins σ H s) (k : ∀ b u, s.heap.get? b = some u → s'.heap.get? b = some u) (ho : s'.os = s.os) (hg : AllBare s'.gens) : Inv X pins σ H s' :=
  I.call' (ch := []) ho (Un.kept k) (I.hok.kept k) hg fun b z => absurd z (by simp)
theorem Inv.walked {l : Addr} {o : Obj} (I : Inv X pins σ H s) (hm : Moved [s.heap.objs.size] (fun a b => b = a) { s with heap := s.heap.push o } s') : Inv X pins σ H s' := by
  refine I.kept' (fun b u e => hm.heap b u (fun z => ?_) (Heap.get?_push_of_some _ e)) hm.os (by rw [show s'.gens = s.gens from hm.gens]; exact I.bare)
  have : b = s.heap.objs.size := by simpa using z
  exact absurd (Heap.lt_size e) (by rw [this]; exact Nat.lt_irrefl _)
def kAny : List V → Hp → VK → Prop
  | [.ref p], H, Q => bnd (unL (H p)) fun ys => ∃ bs : List Bool, ys = bs.map V.bl ∧ Q (.bl (bs.any id)) H
  | _, _, _ => False
theorem any_range (bs : List Bool) : (List.range bs.length).any (fun i => bs.getD i false) = bs.any id := by
  rw [Bool.eq_iff_iff, List.any_eq_true, List.any_eq_true]
  constructor
  · rintro ⟨i, hi, h⟩
    have hi' : i < bs.length := List.mem_range.mp hi
    exact ⟨bs[i], List.getElem_mem hi', by simpa [List.getD, hi'] using h⟩
  · rintro ⟨b, hb, h⟩
    obtain ⟨i, hi, e⟩ := List.mem_iff_getElem.mp hb
    refine ⟨i, List.mem_range.mpr hi, ?_⟩
    have h' : b = true := h
    rw [List.getD, List.getElem?_eq_getElem hi, e]
    exact h'
theorem call_kAny (hc : X.calm = true) : CallR X (.builtin "any") kAny := by
  intro pins s σ H xs us Q I r h
  unfold kAny at h
  split at h
  · rename_i p
    obtain ⟨ys, e, bs, rfl, q⟩ := bnd_ex h
    obtain ⟨u, rfl, ru⟩ := vals1 r
    cases ru
    obtain ⟨its, rv, pl, hz⟩ := I.list (unL_sq e)
    have hl := rv.length
    rw [List.length_map] at hl
    have hlt : p < s.heap.objs.size := by
      obtain ⟨o, h1, _⟩ := pl.isList
      exact Heap.lt_size h1
    refine call_any_walkS (wpAny_pyIter_list pl.isList ?_)
    refine ⟨s.heap.objs.size, _, _, _, its.toArray.size, _, _, fun i => bs.getD i false, rfl, (Walks.list (A := X.A.in1) (I.ok.hd hc) s.heap.objs.size p (Nat.ne_of_lt hlt) its.toArray).toS, ⟨⟨_, Heap.get?_push_size _ rfl, rfl, rfl⟩, pl.isList.push _⟩, ?_, fun s' hm => ?_⟩
    · intro i v s1 Q1 E1 hP hQ
      have hv : its[i]? = some v := by simpa using hP
      obtain ⟨x, hx, rx⟩ := rv.get' hv
      obtain ⟨b, hb, rfl⟩ : ∃ b, bs[i]? = some b ∧ V.bl b = x := by simpa using hx
      cases rx
      refine wpAny_truthy_bool ?_
      have e3 : bs.getD i false = b := by simp [List.getD, hb]
      rw [← e3]
      exact hQ
    · refine ⟨.bl _, H, I.walked (l := p) hm, ?_, q⟩
      have e2 : its.toArray.size = bs.length := by rw [List.size_toArray]; exact hl.symm
      rw [e2, any_range]
      rfl
  · exact h.elim
def kIndex (K : PySem.W.Frag) : V → List V → Hp → VK → Prop
  | .ref p, [y], H, Q => ∃ (ds : List PyData) (d : PyData) (j : Nat), DV K H (.ref p) (.list ds) ∧ DV K H y d ∧ PyData.canLayAll0 ds = true ∧ PyData.canLay0 d = true ∧ min (PyData.depthAll ds) d.depth ≤ 62 ∧
      j ≤ 1000 ∧ (∃ e, ds[j]? = some e ∧ PyData.eqv e d = true) ∧ (∀ m e, m < j → ds[m]? = some e → PyData.eqv e d = false) ∧ Q (.int j) H
  | _, _, _, _ => False
theorem mt_kIndex (hu : X.A.units + 64 < cLine) : MtR X "list.index" (kIndex X.K) := by
  intro pins s σ H x vs v us Q I rx rv h
  unfold kIndex at h
  split at h
  · rename_i p y
    obtain ⟨ds, d, j, hp, hy, hl, hd, hdep, hj, ⟨e, ej, et⟩, hno, q⟩ := h
    cases rx
    obtain ⟨u, rfl, ru⟩ := vals1 rv
    obtain ⟨as, rc⟩ := hp.reads I rfl
    obtain ⟨bs, rx⟩ := hy.reads I ru
    cases rc with
    | @list _ o its n _ _ h1 h2 h3 h4 =>
      obtain ⟨oc, od, oda, osl⟩ := o
      dsimp only at h2 h3
      subst h2 h3
      have hmap := SeqAt.readsAll_map ds _ _ hl h4
      have at_ : ∀ (m : Nat) (hm : m < its.size), ds[m]? = some (SeqAt.readOf s.heap its[m]) := fun m hm => by
        rw [← hmap, List.getElem?_map, Array.getElem?_toList, Array.getElem?_eq_getElem hm]; rfl
      have hjs : j < its.size := by
        have := (List.getElem?_eq_some_iff.mp ej).1
        rw [← hmap, List.length_map, Array.length_toList] at this
        exact this
      refine call_meets F.slot_list_index ⟨_, h1, rfl⟩ F.entry_list_index (F.args_list_index_2 _ _) (SeqAt.list_indexAt p its n od osl u (fun y => PyData.eqv (SeqAt.readOf s.heap y) d) j hjs (by omega) ?_ ?_) ⟨h1, SeqAt.items_eqAt h4 rx hl hd ?_, ⟨.int j, H, I.tok _, ⟨_, rfl⟩, q⟩⟩
      · have := at_ j hjs
        rw [ej] at this
        cases this
        exact et
      · intro m hm hlt
        exact hno m _ hlt (at_ m hm)
      · omega
  · exact h.elim
def Itz (K : PySem.W.Frag) (a b : Addr) : It :=
  ⟨fun i H => ∃ xs ys x y, SqL K H a xs ∧ SqL K H b ys ∧ xs[i]? = some x ∧ ys[i]? = some y,
   fun i H v H' => ∃ T x y, v = .ref T ∧ H T = none ∧ H' = upd H T (.tup [x, y]) ∧ (∀ xs, SqL K H a xs → xs[i]? = some x) ∧ ∀ ys, SqL K H b ys → ys[i]? = some y,
   fun i H => ∃ xs ys, SqL K H a xs ∧ SqL K H b ys ∧ (xs.length ≤ i ∨ ys.length ≤ i)⟩
theorem ne_cls {h : Heap} {a b : Addr} {o u : Obj} {c d : String} (ha : h.get? a = some o) (hb : h.get? b = some u) (hc : o.cls = .type c) (hd : u.cls = .type d) (ne : c ≠ d) : a ≠ b := by
  rintro rfl; rw [ha] at hb; cases hb; rw [hc] at hd; cases hd; exact ne rfl
def ZSt (a b z TI TO i1 i2 : Addr) (i : Nat) (h : Heap) : Prop := IsZip h z TI TO .none ∧ IsPair h TI (.ref i1) (.ref i2) ∧ (∃ u v, IsPair h TO u v) ∧ h.IsListIter i1 a i ∧ h.IsListIter i2 b i
theorem turn_zip {P : Program} {w : World} {K : PySem.W.Frag} {es : List Expr} {x1 : Nat} {pos : Pos} (a b z TI TO i1 i2 : Addr) (dT : TI ≠ TO) (d1 : i1 ≠ i2) :
    Turn P w K (.Tuple es x1 pos) (Itz K a b) [z, TI, TO, i1, i2] z (ZSt a b z TI TO i1 i2) where
  mem := by simp
  obj := fun i h st c hc => by
    obtain ⟨hz, hTI, ⟨u, v, hTO⟩, ⟨o1, e1, c1, f1⟩, ⟨o2, e2, c2, f2⟩⟩ := st
    simp only [List.mem_cons, List.not_mem_nil, or_false] at hc
    rcases hc with rfl | rfl | rfl | rfl | rfl
    · exact ⟨_, hz, fun v z => by have z' : Data.fields _ = Data.cell v := z; cases z'⟩
    · exact ⟨_, hTI, fun v z => by have z' : Data.seq _ _ = Data.cell v := z; cases z'⟩
    · exact ⟨_, hTO, fun v z => by have z' : Data.seq _ _ = Data.cell v := z; cases z'⟩
    · exact ⟨_, e1, fun v z => by rw [f1] at z; cases z⟩
    · exact ⟨_, e2, fun v z => by rw [f2] at z; cases z⟩
  keep := fun i h h' st k => by
    obtain ⟨hz, hTI, ⟨u, v, hTO⟩, h1, h2⟩ := st
    exact ⟨k z (by simp) _ hz, k TI (by simp) _ hTI, ⟨u, v, k TO (by simp) _ hTO⟩, h1.at fun o e => k i1 (by simp) o e, h2.at fun o e => k i2 (by simp) o e⟩
  item := by
    intro X hP hw hK hc i pins s σ H E I hf st hg
    subst hP hw hK
    obtain ⟨xs, ys, x, y, hq1, hq2, hx, hy⟩ := hg
    obtain ⟨its1, rv1, p1, hz1⟩ := I.list hq1
    obtain ⟨its2, rv2, p2, hz2⟩ := I.list hq2
    obtain ⟨u1, hu1, ru1⟩ := rv1.get hx
    obtain ⟨u2, hu2, ru2⟩ := rv2.get hy
    obtain ⟨hz, hTI, ⟨u, v, hTO⟩, ⟨o1, e1, c1, f1⟩, ⟨o2, e2, c2, f2⟩⟩ := id st
    obtain ⟨oa, ea, ca, _⟩ := p1.isList
    obtain ⟨ob, eb, cb, _⟩ := p2.isList
    have D : ZipApart z TI TO i1 i2 a b := ⟨ne_cls hTI hz rfl rfl (by decide), ne_cls hTO hz rfl rfl (by decide), ne_cls e1 hz c1 rfl (by decide), ne_cls e2 hz c2 rfl (by decide), dT, ne_cls hTI e1 rfl c1 (by decide), ne_cls hTI e2 rfl c2 (by decide), ne_cls hTO e1 rfl c1 (by decide), ne_cls hTO e2 rfl c2 (by decide), d1,
      ne_cls ea hz ca rfl (by decide), ne_cls ea hTO ca rfl (by decide), ne_cls ea e1 ca c1 (by decide), ne_cls ea e2 ca c2 (by decide), ne_cls eb hz cb rfl (by decide), ne_cls eb hTO cb rfl (by decide), ne_cls eb e1 cb c1 (by decide), ne_cls eb e2 cb c2 (by decide)⟩
    refine wpAny_pyNext_zip_item D hz hTI hTO ⟨o1, e1, c1, f1⟩ ⟨o2, e2, c2, f2⟩ p1.isList p2.isList (x := u1) (y := u2) (by simpa using hu1) (by simpa using hu2) fun h' a1 a2 a3 a4 a5 a6 hk => ?_
    refine ⟨_, rfl, wpAny_letOwnedTupleGo_zip a1 fun h2 hz2 sb => ?_⟩
    have hT : H s.heap.objs.size = none := I.fresh
    have lt : ∀ {c o}, s.heap.get? c = some o → c ≠ s.heap.objs.size := fun e => Nat.ne_of_lt (Heap.lt_size e)
    have kp : ∀ c o, c ∉ [z, TO, i1, i2] → s.heap.get? c = some o → h2.get? c = some o := fun c o hc e => by
      simp only [List.mem_cons, List.not_mem_nil, or_false, not_or] at hc
      exact sb.extBut _ _ hc.1 (hk c o hc.1 hc.2.1 hc.2.2.1 hc.2.2.2 e)
    have hTz : s.heap.objs.size ≠ z := (lt hz).symm
    have gT : h2.get? s.heap.objs.size = some { cls := .type "tuple", data := .seq #[u1, u2] } := sb.extBut _ _ hTz a5
    have nH : ∀ c ∈ [z, TO, i1, i2], H c = none := fun c hc => (hf c (by simp only [List.mem_cons, List.not_mem_nil, or_false] at hc ⊢; rcases hc with h | h | h | h <;> simp [h])).1
    refine ⟨.ref s.heap.objs.size, upd H s.heap.objs.size (.tup [x, y]), I.call' (s' := { s with heap := h2 }) (ch := [z, TO, i1, i2]) rfl ⟨fun c o e n _ hx => kp c o hx e, fun c o e n _ hx => ⟨o.slots, kp c o hx e⟩, fun c o e n _ => by rw [upd_ne (lt e)]; exact n, fun c o e hx => ⟨o, kp c o hx e⟩, fun c xs e => by rw [upd_ne (ne_of_none e hT)]; exact e, fun c o u e => by rw [upd_ne (ne_of_none e hT)]; exact e, fun c ps e => ⟨#[], by rw [upd_ne (ne_of_none e hT), e]; simp⟩⟩ ?_ I.bare ?_, rfl, ⟨_, x, y, rfl, hT, rfl, fun zs hz' => by rw [I.list_inj hz' hq1]; exact hx, fun zs hz' => by rw [I.list_inj hz' hq2]; exact hy⟩, ?_, ?_⟩
    · intro c ob e
      by_cases hb : c = s.heap.objs.size
      · subst hb
        rw [upd_same] at e
        cases e
        exact ⟨by show (2 : Nat) ≤ sizeLine; exact Nat.le_of_lt (small1000 (by decide)), [u1, u2], .cons ru1 (.cons ru2 .nil), ⟨_, gT, rfl, _, rfl⟩⟩
      · rw [upd_ne hb] at e
        refine (I.hok c ob e).stay (fun d w' hd g => kp d w' ?_ g) (fun d g => by rw [upd_ne (ne_of_none g hT)]; exact g) fun d xs g => by rw [upd_ne (ne_of_none g hT)]; exact g
        intro hm
        rcases hd with rfl | hd
        · rw [nH _ hm] at e; cases e
        · rw [nH _ hm] at hd; cases hd
    · intro c hc
      obtain ⟨f0, f1, f2, f3, f4, f5⟩ := hf c (by simp only [List.mem_cons, List.not_mem_nil, or_false] at hc ⊢; rcases hc with h | h | h | h <;> simp [h])
      exact ⟨f3, f1, f4, f5⟩
    · exact ⟨hz2, sb.extBut _ _ D.TIz (hk _ _ D.TIz D.TITO D.TIi1 D.TIi2 hTI), ⟨_, _, sb.extBut _ _ D.TOz a2⟩, a3.extBut sb.extBut D.i1z, a4.extBut sb.extBut D.i2z⟩
    · intro c hc
      obtain ⟨o, e, _⟩ : ∃ o, s.heap.get? c = some o ∧ True := by
        simp only [List.mem_cons, List.not_mem_nil, or_false] at hc
        rcases hc with rfl | rfl | rfl | rfl | rfl
        · exact ⟨_, hz, trivial⟩
        · exact ⟨_, hTI, trivial⟩
        · exact ⟨_, hTO, trivial⟩
        · exact ⟨_, e1, trivial⟩
        · exact ⟨_, e2, trivial⟩
      rw [upd_ne (lt e)]
      exact (hf c hc).1
  done := by
    intro X hP hw hK hc i pins s σ H E I hf st hg
    subst hP hw hK
    obtain ⟨xs, ys, hq1, hq2, hx⟩ := hg
    obtain ⟨its1, rv1, p1, hz1⟩ := I.list hq1
    obtain ⟨its2, rv2, p2, hz2⟩ := I.list hq2
    have hl1 := rv1.length
    have hl2 := rv2.length
    obtain ⟨hz, hTI, ⟨u, v, hTO⟩, ⟨o1, e1, c1, f1⟩, ⟨o2, e2, c2, f2⟩⟩ := id st
    obtain ⟨oa, ea, ca, _⟩ := p1.isList
    obtain ⟨ob, eb, cb, _⟩ := p2.isList
    have D : ZipApart z TI TO i1 i2 a b := ⟨ne_cls hTI hz rfl rfl (by decide), ne_cls hTO hz rfl rfl (by decide), ne_cls e1 hz c1 rfl (by decide), ne_cls e2 hz c2 rfl (by decide), dT, ne_cls hTI e1 rfl c1 (by decide), ne_cls hTI e2 rfl c2 (by decide), ne_cls hTO e1 rfl c1 (by decide), ne_cls hTO e2 rfl c2 (by decide), d1,
      ne_cls ea hz ca rfl (by decide), ne_cls ea hTO ca rfl (by decide), ne_cls ea e1 ca c1 (by decide), ne_cls ea e2 ca c2 (by decide), ne_cls eb hz cb rfl (by decide), ne_cls eb hTO cb rfl (by decide), ne_cls eb e1 cb c1 (by decide), ne_cls eb e2 cb c2 (by decide)⟩
    have hend : its1.toArray[i]? = none ∨ its2.toArray[i]? = none := by
      rcases hx with h | h
      · exact .inl (by simp; omega)
      · exact .inr (by simp; omega)
    refine wpAny_pyNext_zip_end (I.ok.hd hc) D hz hTI hTO ⟨o1, e1, c1, f1⟩ ⟨o2, e2, c2, f2⟩ p1.isList p2.isList hend fun h' hk => ⟨rfl, ?_⟩
    have kp : ∀ c o, c ∉ [z, TO, i1, i2] → s.heap.get? c = some o → h'.get? c = some o := fun c o hc e => by
      simp only [List.mem_cons, List.not_mem_nil, or_false, not_or] at hc
      exact hk c o hc.1 hc.2.1 hc.2.2.1 hc.2.2.2 e
    have nH : ∀ c ∈ [z, TO, i1, i2], H c = none := fun c hc => (hf c (by simp only [List.mem_cons, List.not_mem_nil, or_false] at hc ⊢; rcases hc with h | h | h | h <;> simp [h])).1
    refine I.call' (s' := { s with heap := h' }) (ch := [z, TO, i1, i2]) rfl ⟨fun c o e n _ hx => kp c o hx e, fun c o e n _ hx => ⟨o.slots, kp c o hx e⟩, fun c o e n _ => n, fun c o e hx => ⟨o, kp c o hx e⟩, fun c xs e => e, fun c o u e => e, fun c ps e => ⟨#[], by rw [e]; simp⟩⟩ ?_ I.bare ?_
    · intro c ob e
      refine (I.hok c ob e).stay (fun d w' hd g => kp d w' ?_ g) (fun d g => g) fun d xs g => g
      intro hm
      rcases hd with rfl | hd
      · rw [nH _ hm] at e; cases e
      · rw [nH _ hm] at hd; cases hd
    · intro c hc
      obtain ⟨f0, f1, f2, f3, f4, f5⟩ := hf c (by simp only [List.mem_cons, List.not_mem_nil, or_false] at hc ⊢; rcases hc with h | h | h | h <;> simp [h])
      exact ⟨f3, f1, f4, f5⟩
  self := fun _ _ _ _ _ st h => wpAny_pyIter_zip st.1 h
def iZip (K : PySem.W.Frag) (ta : TA) : TI := fun σ H R => ta σ H fun vs H1 => ∃ a b, vs = [.ref a, .ref b] ∧ (∃ xs, SqL K H1 a xs) ∧ (∃ ys, SqL K H1 b ys) ∧ R (Itz K a b) H1
theorem bt_zip : bootBuiltins "zip" = some (.type "zip") := by decide +kernel
theorem pi_zip {es : List Expr} {x1 : Nat} {tpos : Pos} {e1 e2 : Expr} {ta : TA} {p pos : Pos} (hg : Gl X "zip") (hm : X.mg "zip" = none) (ha : PA X [e1, e2] ta) (hs : starEach [e1, e2] X.env = [(false, eval e1 X.env), (false, eval e2 X.env)] := by rfl) (hs2 : starEach [e2] X.env = [(false, eval e2 X.env)] := by rfl) :
    PI X (.Tuple es x1 tpos) (.Call (.Name "zip" p) [e1, e2] [] pos) (iZip X.K ta) := by
  intro pins s σ H R I h
  refine Call_ (ld_blt I hg hm bt_zip (PyProof.Rows.callWith_type1 (thn (ha pos pins s σ H _ I h) fun us s1 ⟨vs, H1, I1, r1, q1⟩ => ?_) (by rw [hs, hs2]) (by rw [hs2]; rfl)))
  obtain ⟨a, b, rfl, ⟨xs, hq1⟩, ⟨ys, hq2⟩, q⟩ := q1
  obtain ⟨u1, u2, rfl, ru1, ru2⟩ := vals2 r1
  cases ru1
  cases ru2
  obtain ⟨its1, rv1, p1, hz1⟩ := I1.list hq1
  obtain ⟨its2, rv2, p2, hz2⟩ := I1.list hq2
  refine call_zip_2 p1.isList p2.isList fun h' a1 a2 a3 a4 a5 a6 hk => ?_
  refine wpAny_pyIter_zip a1 ?_
  have I2 : Inv X pins σ H1 { s1 with heap := h', toks := s1.toks } := I1.kept hk
  refine ⟨s1.heap.objs.size + 4, [s1.heap.objs.size + 4, s1.heap.objs.size + 2, s1.heap.objs.size + 3, s1.heap.objs.size, s1.heap.objs.size + 1], ZSt a b (s1.heap.objs.size + 4) (s1.heap.objs.size + 2) (s1.heap.objs.size + 3) s1.heap.objs.size (s1.heap.objs.size + 1), Itz X.K a b, H1, rfl, I2, turn_zip a b (s1.heap.objs.size + 4) (s1.heap.objs.size + 2) (s1.heap.objs.size + 3) s1.heap.objs.size (s1.heap.objs.size + 1) (fun z => by have : s1.heap.objs.size + 2 = s1.heap.objs.size + 3 := z; omega) (fun z => by have : s1.heap.objs.size = s1.heap.objs.size + 1 := z; omega), ⟨a1, a2, ⟨_, _, a3⟩, a4, a5⟩, fun c hc => ?_, q⟩
  have hge : s1.heap.objs.size ≤ c := by
    simp only [List.mem_cons, List.not_mem_nil, or_false] at hc
    rcases hc with rfl | rfl | rfl | rfl | rfl <;> omega
  exact I1.fpOk hge (I1.hok.fresh hge)
end
end L2
set_option Elab.async false
set_option linter.all false
set_option maxRecDepth 100000
namespace L2
open PySem PySem.Spec PyProof.Rows
open Builtin Builtin.Str
section
variable {X : Cx}
def kFind : V → List V → Hp → VK → Prop
  | .str x, [.str y], H, Q => Q (.int (Txt.find x y)) H
  | _, _, _, _ => False
def cSl2 : V → Option Int → Option Int → Hp → VK → Prop
  | .ref p, lo, hi, H, Q => cSl (.ref p) lo hi H Q
  | .str z, lo, hi, H, Q => z.length ≤ sizeLine ∧ Q (.str (Txt.slice z lo hi)) H
  | _, _, _, _, _ => False
theorem sl_c2 : SlR X cSl2 := by
  intro pins s σ H x v vl vu lo hi sl Q I rx hs pl pu h
  cases x with
  | ref p => exact sl_c pins s σ H _ v vl vu lo hi sl Q I rx hs pl pu h
  | str z =>
    obtain ⟨hz, q⟩ := (show z.length ≤ sizeLine ∧ Q (.str (Txt.slice z lo hi)) H from h)
    obtain ⟨t, rfl⟩ := rx
    have fin : ∀ t' k, EP X pins σ Q (.str (Txt.slice z lo hi) t') { s with toks := k } := fun t' k => ⟨.str _, H, I.tok k, ⟨t', rfl⟩, q⟩
    refine ⟨"str", _, F.slot_str_getitem.lookup, typeIs_str _ _ _, ?_⟩
    cases pl with
    | none =>
      cases pu with
      | none => exact wpAny_getItem_str_slice (l := none) (u := none) (st := none) hs rfl (post_val_or_str ⟨Nat.le_trans (Txt.slice_le z _ _) hz, fin⟩)
      | int j tj => exact wpAny_getItem_str_slice (l := none) (u := some (j, tj)) (st := none) hs rfl (post_val_or_str ⟨Nat.le_trans (Txt.slice_le z _ _) hz, fin⟩)
    | int i ti =>
      cases pu with
      | none => exact wpAny_getItem_str_slice (l := some (i, ti)) (u := none) (st := none) hs rfl (post_val_or_str ⟨Nat.le_trans (Txt.slice_le z _ _) hz, fin⟩)
      | int j tj => exact wpAny_getItem_str_slice (l := some (i, ti)) (u := some (j, tj)) (st := none) hs rfl (post_val_or_str ⟨Nat.le_trans (Txt.slice_le z _ _) hz, fin⟩)
  | _ => exact False.elim h
def Its (x : Str) : It := ⟨fun i _ => i < x.cps.size, fun i H v H' => H' = H ∧ ∃ c, x.cps[i]? = some c ∧ v = .str ⟨#[c]⟩, fun i _ => x.cps.size ≤ i⟩
def iStr (tl : TE) : TI := fun σ H R => tl σ H fun x H1 => ∃ z, x = .str z ∧ R (Its z) H1
theorem setItem_lst {prog : Program} {w : World} {A : Around} {E : Value → Shared → Prop} {s : Shared} {l : Addr} {items : Array Value} {k : Int} {t : Tok} {v : Value} {Q : Unit → Shared → Prop} (hl : s.heap.IsList l items)
    (h0 : 0 ≤ k) (hfit : k < 2 ^ 63) (hn : k < items.size)
    (hQ : Q () { s with heap := s.heap.update l (Obj.mapSeq (·.setIfInBounds k.toNat v)) }) :
    wpAny (model prog w) A (setItem (.ref l) (.int k t) v) Q E s := by
  obtain ⟨o, ho, hc, ne, hd⟩ := id hl
  unfold setItem
  try with_reducible refine wpAny_holding ?_
  first | refine wpAny_bind (wpAny_pure ?_) | skip
  refine wpAny_bind (wpAny_sequenceKey hl.typeIs (by decide) ?_)
  refine wpAny_bind (wpAny_callSpecial?_slot (name := Str.ofString "__setitem__") hl.typeIs slot_list_setitem
    (wpAny_call_entry slot_list_setitem hl.typeIs entry_list_setitem ?_ (args_list_setitem _ _ _)))
  show wpAny _ _ (Builtin.List.listSubscript? (.int k t) >>= _) _ _ s
  refine wpAny_bind (wpAny_listSubscript_int (fitsIndex_of h0 hfit) ?_)
  clear hfit
  obtain ⟨j, rfl⟩ := Int.eq_ofNat_of_zero_le h0
  have hj : j < items.size := by omega
  have hx' : items[j]? = some items[j] := Array.getElem?_eq_getElem hj
  show wpAny _ _ ((seqItemAt l j >>= fun r => pure (r.map (j, ·))) >>= _) _ _ s
  refine wpAny_bind (wpAny_bind (wpAny_seqItemAt ho hd (wpAny_pure ?_)))
  rw [hx']
  show wpAny _ _ (setSeqItemAt l j v >>= _) _ _ s
  refine wpAny_bind (wpAny_setSeqItemAt ho hd ?_)
  first
    | exact wpAny_bind (wpAny_pure (wpAny_pure ⟨.none, rfl, wpAny_pure hQ⟩))
    | exact wpAny_pure ⟨.none, rfl, wpAny_pure hQ⟩
theorem vals_set : ∀ {xs : List V} {us : List Value} {x : V} {u : Value} (i : Nat), Vals xs us → RelV x u → Vals (xs.set i x) (us.set i u)
  | _, _, _, _, _, .nil, _ => .nil
  | _, _, _, _, 0, .cons _ t, r => .cons r t
  | _, _, _, _, i + 1, .cons q t, r => .cons q (vals_set i t r)
def cPut : TSet
  | .ref p, y, v, H, Q => (match unD (H p) with
    | some _ => ∃ H', DPut H p y v H' ∧ Q H'
    | none => match y with
      | .int i => bnd (unM (H p)) fun xs => 0 ≤ i ∧ i < xs.length ∧ Q (upd H p (.lst (xs.set i.toNat v)))
      | _ => False)
  | _, _, _, _, _ => False
theorem set_c (hu : X.A.units + 64 < cLine) : PSet X cPut := by
  intro pins s σ H o i v ov iv u Q I ro ri rv h
  cases o with
  | ref p =>
    cases ro
    unfold cPut at h
    dsimp only at h
    split at h
    · obtain ⟨H', g, q⟩ := h
      exact d_setItem (Nat.lt_of_le_of_lt (Nat.add_le_add_left (by decide : 1 ≤ 64) _) hu) I g ri rv fun s' I' => ⟨H', I', q⟩
    · split at h
      · rename_i i
        obtain ⟨xs, e, h0, h1, q⟩ := bnd_ex h
        obtain ⟨t, rfl⟩ := ri
        have hH := unM_ex e
        obtain ⟨z, its, n, r, hl, eo⟩ := I.lstM hH
        have hs : s.heap.IsList p its.toArray := ⟨_, eo, rfl, n, rfl⟩
        have hz : its.length ≤ sizeLine := by rw [← hl]; exact z
        refine setItem_lst hs h0 ?_ (by rw [List.size_toArray, ← hl]; exact h1) ⟨_, I.lset (t' := s.toks) (ys := xs.set i.toNat v) (its' := its.set i.toNat u) hH eo (by simp) (vals_set _ r rv) (by rw [List.length_set]; exact z), q⟩
        have : (sizeLine : Int) < 2 ^ 63 := by decide
        omega
      · exact h.elim
  | _ => exact False.elim h
end
section
variable {K : PySem.W.Frag} {g : TG} {tb : TS} {D : Ends} {σ : St} {H : Hp} {tl : TE} {ix : List (Option Nat)} {tt : TT} {te ta : TE} {k : Nat} {Q : VK}
theorem w_sl {r : V → Option Int → Option Int → Hp → VK → Prop} {a b : TO} : tSl r te a b σ H Q = te σ H fun x H1 => a σ H1 fun l H2 => b σ H2 fun u H3 => r x l u H3 Q := rfl
theorem w_part {R : Option Int → Hp → Prop} : tPart te σ H R = te σ H fun x H1 => ∃ i, x = .int i ∧ R (some i) H1 := rfl
theorem w_nopart {R : Option Int → Hp → Prop} : tNoPart σ H R = R none H := rfl
theorem w_gsub {to ti : TE} {t : TSet} {v : V} {R : St → Hp → Prop} : gSub to ti t v σ H R = to σ H fun o H1 => ti σ H1 fun i H2 => t o i v H2 fun H3 => R σ H3 := rfl
theorem w_un {r : V → Hp → VK → Prop} : tUn r te σ H Q = te σ H fun x H1 => r x H1 Q := rfl
theorem w_forS : tFor (iStr tl) g tb D σ H = tl σ H fun x H1 => ∃ z, x = .str z ∧ LoopR (Its z) g tb D σ H1 := rfl
theorem w_compS : tComp ix (iStr tl) g tt te σ H Q = tl σ H fun x H1 => ∃ z, x = .str z ∧ CompR (Its z) g tt te (fun l H' => Q (.ref l) H') (subσ ix σ) H1 := rfl
theorem w_scompS : sComp k ix (iStr tl) g tt te D σ H = tl σ H fun x H1 => ∃ z, x = .str z ∧ CompR (Its z) g tt te (fun l H' => D.nx (σ.set k (some (.ref l))) H') (subσ ix σ) H1 := rfl
theorem w_eqS {i j : Str} : cEq K (.str i) (.str j) H Q = Q (.bl (decide (i = j))) H := rfl
theorem w_neS {i j : Str} : cNe K (.str i) (.str j) H Q = Q (.bl (!decide (i = j))) H := rfl
theorem w_lenS {z : Str} : kLen [.str z] H Q = (z.length ≤ sizeLine ∧ Q (.int z.length) H) := rfl
theorem w_addS {i j : Str} : cAdd (.str i) (.str j) H Q = (i.length + j.length ≤ sizeLine ∧ Q (.str (i ++ j)) H) := rfl
theorem w_find {x y : Str} : kFind (.str x) [.str y] H Q = Q (.int (Txt.find x y)) H := rfl
theorem w_put {p : Addr} {i : Int} {v : V} {xs : List V} {R : Hp → Prop} (hp : H p = some (.lst xs)) (h0 : 0 ≤ i) (h1 : i < xs.length) (h : R (upd H p (.lst (xs.set i.toNat v)))) : cPut (.ref p) (.int i) v H R := by
  unfold cPut
  dsimp only
  rw [hp]
  exact ⟨h0, h1, h⟩
theorem w_slL {p : Addr} {lo hi : Option Int} {xs : List V} (hp : H p = some (.lst xs)) (h : ∀ l, H l = none → Q (.ref l) (upd H l (.lst (cutV xs lo hi)))) : cSl2 (.ref p) lo hi H Q := by
  show bnd (unL (H p)) _
  rw [hp]
  exact h
end
end L2
namespace L2
def besL (h w c : Int) : List Int := (if 0 < c / w then [c - w] else []) ++ (if 0 < c % w then [c - 1] else []) ++ (if c % w < w - 1 then [c + 1] else []) ++ (if c / w < h - 1 then [c + w] else [])
theorem strict_of {rs fs : List Int} (p : rs.Perm fs) (s : rs.Pairwise (· ≤ ·)) (nd : fs.Nodup) : rs.Pairwise (· < ·) := by
  have nd' : rs.Nodup := p.nodup_iff.mpr nd
  refine (s.and nd').imp ?_
  intro a b h
  have := h.1
  have := h.2
  omega
theorem strict_ext : ∀ {xs ys : List Int}, xs.Pairwise (· < ·) → ys.Pairwise (· < ·) → (∀ z, z ∈ xs ↔ z ∈ ys) → xs = ys
  | [], [], _, _, _ => rfl
  | [], y :: ys, _, _, h => absurd ((h y).mpr List.mem_cons_self) (fun q => nomatch q)
  | x :: xs, [], _, _, h => absurd ((h x).mp List.mem_cons_self) (fun q => nomatch q)
  | x :: xs, y :: ys, hx, hy, h => by
    have hx' := List.pairwise_cons.mp hx
    have hy' := List.pairwise_cons.mp hy
    have e : x = y := by
      rcases List.mem_cons.mp ((h x).mp List.mem_cons_self) with e | m1
      · exact e
      · rcases List.mem_cons.mp ((h y).mpr List.mem_cons_self) with e | m2
        · exact e.symm
        · have := hy'.1 x m1
          have := hx'.1 y m2
          omega
    subst e
    refine congrArg (x :: ·) (strict_ext hx'.2 hy'.2 fun z => ⟨fun m => ?_, fun m => ?_⟩)
    · rcases List.mem_cons.mp ((h z).mp (List.mem_cons_of_mem _ m)) with e | q
      · have := hx'.1 z m; omega
      · exact q
    · rcases List.mem_cons.mp ((h z).mpr (List.mem_cons_of_mem _ m)) with e | q
      · have := hy'.1 z m; omega
      · exact q
end L2
set_option Elab.async false
set_option linter.all false
set_option maxRecDepth 100000
namespace L2
open PySem PySem.Spec PyProof.Rows
local macro_rules | `(tactic| walk_at "w") => `(tactic| (first | simp only [w_seq, w_next, w_asg, w_gname, w_var, w_c, w_op, w_ret, w_retN, w_drop, w_test, w_b, w_not, w_and, w_or, w_notV, w_andV, w_orV, w_nil, w_cons, w_cb, w_call, w_tup, w_lst, w_bm, w_bm0, w_true, w_dnew, w_dput, w_forL, w_forR1, w_forR2, w_compL, w_compR1, w_scompL, w_scompR1, w_add, w_sub, w_mul, w_div, w_mod, w_cmp, w_eqI, w_neI, w_eqB, w_neB, w_abs, w_min, w_sl, w_part, w_nopart, w_gsub, w_un, w_forS, w_compS, w_scompS, w_eqS, w_neS, w_lenS, w_addS, w_find,
  List.getElem?_cons_zero, List.getElem?_cons_succ, Option.some.injEq, exists_eq_left', exists_eq_left, List.set_cons_zero, List.set_cons_succ, bnd_some, V.int.injEq, V.bl.injEq, V.ref.injEq, V.str.injEq, List.append_nil, List.nil_append, List.cons_append] | dsimp only | skip))
theorem len_le {n : Nat} (h : n ≤ 1000) : n ≤ sizeLine := Nat.le_of_lt (small1000 h)
def IsFl (H : Hp) (a : Addr) (h w g : Int) : Prop := H a = some (.tup [.int h, .int w, .int g])
theorem Same.laid {H H' : Hp} {p : Addr} {o : HO} (s : Same H H') (h : H' p = none) : Same H (upd H' p o) := fun b u e => by
  rw [upd_ne (ne_of_none (s b u e) h)]
  exact s b u e
theorem Same.own {H H' : Hp} {p : Addr} {o : HO} (s : Same H H') (h : H p = none) : Same H (upd H' p o) := fun b u e => by
  rw [upd_ne (ne_of_none e h)]
  exact s b u e
theorem getD_of {l : List Int} {i : Nat} {x : Int} (h : l[i]? = some x) : l.getD i 0 = x := by
  rw [List.getD, h]; rfl
theorem atI_ints {ns : List Int} {k : Int} (h0 : 0 ≤ k) (h1 : k < ns.length) : atI (ns.map V.int) k = some (.int (ns.getD k.toNat 0)) := by
  have e : ((k.toNat : Nat) : Int) = k := Int.toNat_of_nonneg h0
  have hlt : k.toNat < ns.length := by omega
  have : (ns.map V.int)[k.toNat]? = some (.int (ns.getD k.toNat 0)) := by
    rw [List.getElem?_map, List.getElem?_eq_getElem hlt]
    simp [List.getD, hlt]
  have q := atI_nat this
  rw [e] at q
  exact q
theorem filter_tt {α : Type} (l : List α) : l.filter (fun _ => true) = l := List.filter_eq_self.mpr fun _ _ => rfl
theorem map_int_get {l : List Int} {i : Nat} {y : V} (h : (l.map V.int)[i]? = some y) : ∃ z, l[i]? = some z ∧ y = .int z := by
  rw [List.getElem?_map] at h
  cases e : l[i]? with
  | none => rw [e] at h; cases h
  | some z => rw [e] at h; cases h; exact ⟨z, rfl, rfl⟩
theorem map_ref_get {l : List Addr} {i : Nat} {y : V} (h : (l.map V.ref)[i]? = some y) : ∃ z, l[i]? = some z ∧ y = .ref z := by
  rw [List.getElem?_map] at h
  cases e : l[i]? with
  | none => rw [e] at h; cases h
  | some z => rw [e] at h; cases h; exact ⟨z, rfl, rfl⟩
theorem mul_small {h w : Int} (h0 : 1 ≤ h) (h1 : h ≤ 6) : CMul h w := .inl ⟨by omega, by omega⟩
section
variable {k : Nat} {lo : Int} {n : Nat} {tt : TT} {te : TE} {fin : Addr → Hp → Prop} {σ0 : St} {H1 : Hp} {K : PySem.W.Frag} {a : Addr}
theorem filt_len {n i : Nat} (b : Nat → Bool) (h : i < n) (hn : n ≤ 900) : ((List.range i).filter b).length ≤ 900 := by
  have := List.length_filter_le b (List.range i)
  rw [List.length_range] at this
  omega
theorem compV_range (b : Nat → Bool) (f : Nat → V) (hn : n ≤ 900)
    (ht : ∀ i H R, i < n → Same H1 H → (∀ H', Same H H' → R (b i) H') → tt (σ0.set k (some (.int (lo + i)))) H R)
    (he : ∀ i H Q, i < n → b i = true → Same H1 H → (∀ H', Same H H' → Q (f i) H') → te (σ0.set k (some (.int (lo + i)))) H Q)
    (hd : ∀ l H, H1 l = none → Same H1 H → H l = some (.lst (((List.range n).filter b).map f)) → fin l H) :
    CompR (Itr lo n) (gName k) tt te fin σ0 H1 := by
  refine comp_range (fun l i σ H => (σ = σ0 ∨ ∃ cv, σ = σ0.set k cv) ∧ Same H1 H ∧ H l = some (.lst (((List.range i).filter b).map f))) (fun l hl => ⟨.inl rfl, (Same.refl H1).laid hl, by rw [upd_same]; rfl⟩) ?_ (fun l σ H hl p => hd l H hl p.2.1 p.2.2)
  rintro l i σ H hl hi ⟨hσ, s1, el⟩
  rw [w_gname]
  have e : σ.set k (some (.int (lo + i))) = σ0.set k (some (.int (lo + i))) := by
    rcases hσ with rfl | ⟨cv, rfl⟩
    · rfl
    · exact List.set_set ..
  rw [e]
  refine ht i H _ hi s1 fun H2 s2 => ?_
  have el2 := s2 _ _ el
  cases hb : b i with
  | false =>
    rw [if_neg Bool.false_ne_true]
    refine ⟨.inr ⟨_, rfl⟩, s1.trans s2, ?_⟩
    rw [List.range_succ, List.filter_append, List.filter_cons, hb]
    simpa using el2
  | true =>
    rw [if_pos rfl]
    refine he i H2 _ hi hb (s1.trans s2) fun H3 s3 => ⟨_, s3 _ _ el2, by rw [List.length_map]; exact small1000 (Nat.le_trans (filt_len b hi hn) (by decide)), .inr ⟨_, rfl⟩, ((s1.trans s2).trans s3).own hl, ?_⟩
    rw [upd_same, List.range_succ, List.filter_append, List.filter_cons, hb]
    simp
theorem compV_list {xs : List V} (b : Nat → Bool) (f : Nat → V) (hn : xs.length ≤ 900) (hq : SqL K H1 a xs)
    (ht : ∀ i x H R, xs[i]? = some x → Same H1 H → (∀ H', Same H H' → R (b i) H') → tt (σ0.set k (some x)) H R)
    (he : ∀ i x H Q, xs[i]? = some x → b i = true → Same H1 H → (∀ H', Same H H' → Q (f i) H') → te (σ0.set k (some x)) H Q)
    (hd : ∀ l H, H1 l = none → Same H1 H → H l = some (.lst (((List.range xs.length).filter b).map f)) → fin l H) :
    CompR (Itl K a) (gName k) tt te fin σ0 H1 := by
  refine comp_list (xs := xs) (fun l i σ H => (σ = σ0 ∨ ∃ cv, σ = σ0.set k cv) ∧ Same H1 H ∧ H l = some (.lst (((List.range i).filter b).map f))) (fun l hl => ⟨.inl rfl, (Same.refl H1).laid hl, by rw [upd_same]; rfl⟩) (fun l i σ H _ _ p => p.2.1.seq hq) ?_ (fun l σ H hl p => hd l H hl p.2.1 p.2.2)
  rintro l i x σ H hl hx ⟨hσ, s1, el⟩
  have hi : i < xs.length := (List.getElem?_eq_some_iff.mp hx).1
  rw [w_gname]
  have e : σ.set k (some x) = σ0.set k (some x) := by
    rcases hσ with rfl | ⟨cv, rfl⟩
    · rfl
    · exact List.set_set ..
  rw [e]
  refine ht i x H _ hx s1 fun H2 s2 => ?_
  have el2 := s2 _ _ el
  cases hb : b i with
  | false =>
    rw [if_neg Bool.false_ne_true]
    refine ⟨.inr ⟨_, rfl⟩, s1.trans s2, ?_⟩
    rw [List.range_succ, List.filter_append, List.filter_cons, hb]
    simpa using el2
  | true =>
    rw [if_pos rfl]
    refine he i x H2 _ hx hb (s1.trans s2) fun H3 s3 => ⟨_, s3 _ _ el2, by rw [List.length_map]; exact small1000 (Nat.le_trans (filt_len b hi hn) (by decide)), .inr ⟨_, rfl⟩, ((s1.trans s2).trans s3).own hl, ?_⟩
    rw [upd_same, List.range_succ, List.filter_append, List.filter_cons, hb]
    simp
theorem compI_range (b : Nat → Bool) (f : Nat → Int) (hn : n ≤ 900)
    (ht : ∀ i H R, i < n → Same H1 H → (∀ H', Same H H' → R (b i) H') → tt (σ0.set k (some (.int (lo + i)))) H R)
    (he : ∀ i H Q, i < n → b i = true → Same H1 H → (∀ H', Same H H' → Q (.int (f i)) H') → te (σ0.set k (some (.int (lo + i)))) H Q)
    (hd : ∀ l H, H1 l = none → Same H1 H → H l = some (.lst ((((List.range n).filter b).map f).map V.int)) → fin l H) :
    CompR (Itr lo n) (gName k) tt te fin σ0 H1 :=
  compV_range b (fun i => .int (f i)) hn ht he fun l H hl s1 el => hd l H hl s1 (by rw [List.map_map]; exact el)
theorem filter_ix (b : Int → Bool) (f : Int → Int) (xs : List Int) : ((List.range xs.length).filter fun i => b (xs.getD i 0)).map (fun i => V.int (f (xs.getD i 0))) = ((xs.filter b).map f).map V.int := by
  have e : xs = (List.range xs.length).map fun i => xs.getD i 0 := by
    refine List.ext_getElem? fun i => ?_
    rw [List.getElem?_map]
    by_cases h : i < xs.length
    · rw [List.getElem?_range h, List.getElem?_eq_getElem h]
      simp [List.getD, h]
    · rw [List.getElem?_eq_none (by omega), List.getElem?_eq_none (by simpa using h)]; rfl
  conv => rhs; rw [e]
  rw [List.filter_map, List.map_map, List.map_map]
  rfl
theorem compI_list {xs : List Int} (b : Int → Bool) (f : Int → Int) (hn : xs.length ≤ 900) (hq : SqL K H1 a (xs.map V.int))
    (ht : ∀ x H R, x ∈ xs → Same H1 H → (∀ H', Same H H' → R (b x) H') → tt (σ0.set k (some (.int x))) H R)
    (he : ∀ x H Q, x ∈ xs → b x = true → Same H1 H → (∀ H', Same H H' → Q (.int (f x)) H') → te (σ0.set k (some (.int x))) H Q)
    (hd : ∀ l H, H1 l = none → Same H1 H → H l = some (.lst (((xs.filter b).map f).map V.int)) → fin l H) :
    CompR (Itl K a) (gName k) tt te fin σ0 H1 := by
  refine compV_list (xs := xs.map V.int) (fun i => b (xs.getD i 0)) (fun i => .int (f (xs.getD i 0))) (by rw [List.length_map]; exact hn) hq ?_ ?_ ?_
  · intro i x H R hx s1 h
    obtain ⟨z, hz, rfl⟩ := map_int_get hx
    rw [getD_of hz] at h
    exact ht z H R (List.mem_of_getElem? hz) s1 h
  · intro i x H Q hx hb s1 h
    obtain ⟨z, hz, rfl⟩ := map_int_get hx
    rw [getD_of hz] at h hb
    exact he z H Q (List.mem_of_getElem? hz) hb s1 h
  · intro l H hl s1 el
    refine hd l H hl s1 ?_
    rw [List.length_map] at el
    rw [el, filter_ix]
end
theorem DVs.of_get {K : PySem.W.Frag} {H : Hp} : ∀ {xs : List V} {ds : List PyData}, xs.length = ds.length → (∀ (i : Nat) x d, xs[i]? = some x → ds[i]? = some d → DV K H x d) → DVs K H xs ds
  | [], [], _, _ => .nil
  | [], _ :: _, h, _ => by simp at h
  | _ :: _, [], h, _ => by simp at h
  | x :: xs, d :: ds, h, f => .cons (f 0 x d rfl rfl) (DVs.of_get (by simpa using h) fun i y e h1 h2 => f (i + 1) y e (by simpa using h1) (by simpa using h2))
theorem lay_all : ∀ {ds : List PyData}, (∀ d ∈ ds, PyData.canLay0 d = true) → PyData.canLayAll0 ds = true
  | [], _ => rfl
  | d :: r, h => by rw [PyData.canLayAll0, h d List.mem_cons_self, lay_all fun e he => h e (List.mem_cons_of_mem _ he)]; rfl
theorem depth_all {n : Nat} : ∀ {ds : List PyData}, (∀ d ∈ ds, PyData.depth d ≤ n) → PyData.depthAll ds ≤ n
  | [], _ => Nat.zero_le _
  | d :: r, h => by rw [PyData.depthAll]; exact Nat.max_le.mpr ⟨h d List.mem_cons_self, depth_all fun e he => h e (List.mem_cons_of_mem _ he)⟩
def dLI (xs : List Int) : PyData := .list (xs.map PyData.int)
theorem dLI_lay (xs : List Int) : PyData.canLay0 (dLI xs) = true := by unfold dLI; rw [PyData.canLay0]; exact lay_ints xs
theorem dLI_depth (xs : List Int) : PyData.depth (dLI xs) = 1 := by unfold dLI; rw [PyData.depth, depth_ints]
theorem dLI_eqv (xs ys : List Int) : PyData.eqv (dLI xs) (dLI ys) = decide (xs = ys) := by unfold dLI; rw [PyData.eqv, eqv_ints]
theorem eqv_all {α : Type} [DecidableEq α] (g : α → PyData) (hg : ∀ a b, PyData.eqv (g a) (g b) = decide (a = b)) : ∀ xs ys : List α, PyData.eqvAll (xs.map g) (ys.map g) = decide (xs = ys)
  | [], [] => rfl
  | [], _ :: _ => rfl
  | _ :: _, [] => rfl
  | x :: xs, y :: ys => by
    rw [List.map_cons, List.map_cons, PyData.eqvAll, hg, eqv_all g hg xs ys, Bool.eq_iff_iff]
    simp
structure IsLL (H : Hp) (l : Addr) (as : List Addr) (xss : List (List Int)) : Prop where
  top : H l = some (.lst (as.map V.ref))
  len : as.length = xss.length
  at_ : ∀ (j : Nat) (a : Addr) (xs : List Int), as[j]? = some a → xss[j]? = some xs → H a = some (.lst (xs.map V.int))
theorem IsLL.dv {K : PySem.W.Frag} {H : Hp} {l : Addr} {as : List Addr} {xss : List (List Int)} (x : IsLL H l as xss) : DV K H (.ref l) (.list (xss.map dLI)) := by
  refine .lst (SqL.of x.top) (DVs.of_get (by simp [x.len]) fun i y d h1 h2 => ?_)
  obtain ⟨a, ha, rfl⟩ := map_ref_get h1
  rw [List.getElem?_map] at h2
  cases e : xss[i]? with
  | none => rw [e] at h2; cases h2
  | some xs =>
    rw [e] at h2
    cases h2
    exact .lst (SqL.of (x.at_ i a xs ha e)) (.ints xs)
theorem shaped_LL (xss : List (List Int)) : SeqAt.shaped (.list (xss.map dLI)) = true := by
  have h1 : PyData.canLayAll0 (xss.map dLI) = true := lay_all fun d hd => by obtain ⟨x, _, rfl⟩ := List.mem_map.mp hd; exact dLI_lay x
  have h2 : PyData.depthAll (xss.map dLI) ≤ 1 := depth_all fun d hd => by obtain ⟨x, _, rfl⟩ := List.mem_map.mp hd; rw [dLI_depth]; exact Nat.le_refl _
  simp [SeqAt.shaped, PyData.canLay0, h1, PyData.depth]
  omega
def sp_spot_of (K : PySem.W.Frag) : Sp := fun vs H Q _ => ∃ (a : Addr) (h w g c : Int), vs = [.ref a, .int c] ∧ IsFl H a h w g ∧ 0 < w ∧ w < 100 ∧ ∀ p, H p = none → Q (.ref p) (upd H p (.tup [.int (c / w), .int (c % w)]))
theorem sl_spot_of {K : PySem.W.Frag} {vs : List V} {H : Hp} {Q : VK} {E : XK} (h : sp_spot_of K vs H Q E) : vs.length = 2 := by
  obtain ⟨_, _, _, _, _, rfl, _⟩ := h; rfl
def rd_spot_of (K : PySem.W.Frag) : TS :=
  (tSeq (tAsg (tOp cIx (tVar 0) (tC (.int 1))) (gName 2))
    (tRet (tTup (tCons (tOp cDiv (tVar 1) (tVar 2)) (tCons (tOp cMod (tVar 1) (tVar 2)) tNil)))))
theorem rk_spot_of {K : PySem.W.Frag} {vs : List V} {H : Hp} {Q : VK} {E : XK} (h : sp_spot_of K vs H Q E) : rd_spot_of K { nx := fun _ H' => Q .non H', rt := Q } (start ["floor", "cell", "wide"] vs) H := by
  obtain ⟨a, h, w, g, c, rfl, ha, w0, w1, k⟩ := h
  show rd_spot_of K _ [some (.ref a), some (.int c), none] H
  unfold rd_spot_of
  walk_at "w"
  rw [w_ix ha]
  refine bnd_of (a := V.int w) rfl ?_
  walk_at "w"
  refine ⟨⟨w0, by omega⟩, w0, len_le (by show (2 : Nat) ≤ 1000; decide), k⟩
def lawAt (ns : List Int) (k : Int) : Int :=
  if k < (ns.length : Int) then ns.getD k.toNat 0 else
    (if 0 < (ns.length : Int) then 7 * k + 3 + ns.getD (k % ns.length).toNat 0 % 1000003 * (k + 1) else 7 * k + 3) * (if 0 < (ns.length : Int) then 7 * k + 3 + ns.getD (k % ns.length).toNat 0 % 1000003 * (k + 1) else 7 * k + 3) % 999979 +
    (if 0 < (ns.length : Int) then 7 * k + 3 + ns.getD (k % ns.length).toNat 0 % 1000003 * (k + 1) else 7 * k + 3) % 101
def sp__law_at (K : PySem.W.Frag) : Sp := fun vs H Q _ => ∃ (a : Addr) (ns : List Int) (k : Int), vs = [.ref a, .int k] ∧ SqL K H a (ns.map V.int) ∧ ns.length ≤ 63 ∧ 0 ≤ k ∧ k ≤ 1000 ∧ Q (.int (lawAt ns k)) H
theorem sl__law_at {K : PySem.W.Frag} {vs : List V} {H : Hp} {Q : VK} {E : XK} (h : sp__law_at K vs H Q E) : vs.length = 2 := by
  obtain ⟨_, _, _, rfl, _⟩ := h; rfl
def rd__law_at (K : PySem.W.Frag) : TS :=
  (tSeq (tIfS (tTest (tOp (cCmp fun i j => decide (i < j)) (tVar 1) (tCB (kLenS K) (tCons (tVar 0) tNil)))) (tRet (tOp (rIxL K) (tVar 0) (tVar 1))) tNext)
    (tSeq (tAsg (tOp cAdd (tOp cMul (tC (.int 7)) (tVar 1)) (tC (.int 3))) (gName 2))
    (tSeq (tIfS (tTest (tOp (cCmp fun i j => decide (j < i)) (tCB (kLenS K) (tCons (tVar 0) tNil)) (tC (.int 0)))) (tAsg (tOp cAdd (tVar 2) (tOp cMul (tOp cMod (tOp (rIxL K) (tVar 0) (tOp cMod (tVar 1) (tCB (kLenS K) (tCons (tVar 0) tNil)))) (tC (.int 1000003))) (tOp cAdd (tVar 1) (tC (.int 1))))) (gName 2)) tNext)
    (tRet (tOp cAdd (tOp cMod (tOp cMul (tVar 2) (tVar 2)) (tC (.int 999979))) (tOp cMod (tVar 2) (tC (.int 101))))))))
theorem rk__law_at {K : PySem.W.Frag} {vs : List V} {H : Hp} {Q : VK} {E : XK} (h : sp__law_at K vs H Q E) : rd__law_at K { nx := fun _ H' => Q .non H', rt := Q } (start ["_law_script", "_law_k", "_law_mixed"] vs) H := by
  obtain ⟨a, ns, k, rfl, hS, hn, k0, k1, q⟩ := h
  show rd__law_at K _ [some (.ref a), some (.int k), none] H
  unfold rd__law_at
  rw [w_seq, w_if]
  walk_at "w"
  refine ⟨a, _, rfl, .inl hS, ?_⟩
  walk_at "w"
  rw [List.length_map]
  unfold lawAt at q
  by_cases hk : k < (ns.length : Int)
  · rw [if_pos hk] at q
    rw [if_pos (decide_eq_true hk)]
    exact ⟨a, _, k, _, rfl, rfl, hS, atI_ints k0 hk, q⟩
  · rw [if_neg hk] at q
    rw [if_neg (by simpa using hk)]
    refine ⟨.inl (by omega), ?_⟩
    rw [w_if]
    walk_at "w"
    refine ⟨a, _, rfl, .inl hS, ?_⟩
    walk_at "w"
    rw [List.length_map]
    by_cases hl : 0 < (ns.length : Int)
    · simp only [if_pos hl] at q
      rw [if_pos (decide_eq_true hl)]
      refine ⟨a, _, rfl, .inl hS, ?_⟩
      walk_at "w"
      rw [List.length_map]
      have m0 := Int.emod_nonneg k (Int.ne_of_gt hl)
      have m1 := Int.emod_lt_of_pos k hl
      refine ⟨hl, a, _, _, _, rfl, rfl, hS, atI_ints m0 m1, ?_⟩
      walk_at "w"
      generalize ns.getD (k % ns.length).toNat 0 = z at q ⊢
      have z0 := Int.emod_nonneg z (by decide : (1000003 : Int) ≠ 0)
      have z1 := Int.emod_lt_of_pos z (by decide : (0 : Int) < 1000003)
      have b0 : 0 ≤ z % 1000003 * (k + 1) := Int.mul_nonneg z0 (by omega)
      have b1 : z % 1000003 * (k + 1) ≤ 1000003 * 1001 := Int.mul_le_mul (by omega) (by omega) (by omega) (by decide)
      refine ⟨by decide, .inl ⟨by omega, by omega⟩, ?_⟩
      walk_at "w"
      generalize z % 1000003 * (k + 1) = y at *
      exact ⟨.inl ⟨by omega, by omega⟩, by decide, by decide, q⟩
    · simp only [if_neg hl] at q
      rw [if_neg (by simpa using hl)]
      walk_at "w"
      exact ⟨.inl ⟨by omega, by omega⟩, by decide, by decide, q⟩
structure FlOk (h w g : Int) : Prop where
  h0 : 1 ≤ h
  h1 : h ≤ 6
  w0 : 1 ≤ w
  w1 : w ≤ 6
  m : h * w ≤ 16
  g0 : 1 ≤ g
  g1 : g ≤ 6
def lawH (ns : List Int) : Int := 1 + lawAt ns 0 % 6
def lawW (ns : List Int) : Int := 1 + lawAt ns 1 % (if 16 / lawH ns < 6 then 16 / lawH ns else 6)
def lawG (ns : List Int) : Int := 1 + lawAt ns 2 % 6
theorem lawFl (ns : List Int) : FlOk (lawH ns) (lawW ns) (lawG ns) := by
  have a0 := Int.emod_nonneg (lawAt ns 0) (by decide : (6 : Int) ≠ 0)
  have a1 := Int.emod_lt_of_pos (lawAt ns 0) (by decide : (0 : Int) < 6)
  have c0 := Int.emod_nonneg (lawAt ns 2) (by decide : (6 : Int) ≠ 0)
  have c1 := Int.emod_lt_of_pos (lawAt ns 2) (by decide : (0 : Int) < 6)
  have hh : lawH ns = 1 ∨ lawH ns = 2 ∨ lawH ns = 3 ∨ lawH ns = 4 ∨ lawH ns = 5 ∨ lawH ns = 6 := by unfold lawH; omega
  have g0 : 1 ≤ lawG ns ∧ lawG ns ≤ 6 := by unfold lawG; omega
  have key : ∀ m : Int, 1 ≤ m → m ≤ 6 → lawH ns * m ≤ 16 → (if 16 / lawH ns < 6 then 16 / lawH ns else 6) = m → FlOk (lawH ns) (lawW ns) (lawG ns) := fun m m0 m1 m2 e => by
    have b0 := Int.emod_nonneg (lawAt ns 1) (by omega : m ≠ 0)
    have b1 := Int.emod_lt_of_pos (lawAt ns 1) (by omega : 0 < m)
    have ew : lawW ns = 1 + lawAt ns 1 % m := by unfold lawW; rw [e]
    refine ⟨by omega, by omega, by omega, by omega, ?_, g0.1, g0.2⟩
    refine Int.le_trans (Int.mul_le_mul_of_nonneg_left (show lawW ns ≤ m by omega) (by omega)) m2
  rcases hh with e | e | e | e | e | e <;> rw [e] at key ⊢
  · exact key 6 (by decide) (by decide) (by decide) rfl
  · exact key 6 (by decide) (by decide) (by decide) rfl
  · exact key 5 (by decide) (by decide) (by decide) rfl
  · exact key 4 (by decide) (by decide) (by decide) rfl
  · exact key 3 (by decide) (by decide) (by decide) rfl
  · exact key 2 (by decide) (by decide) (by decide) rfl
theorem lawM (ns : List Int) : 0 < (if 16 / lawH ns < 6 then 16 / lawH ns else (6 : Int)) := by
  have a0 := Int.emod_nonneg (lawAt ns 0) (by decide : (6 : Int) ≠ 0)
  have a1 := Int.emod_lt_of_pos (lawAt ns 0) (by decide : (0 : Int) < 6)
  have hh : lawH ns = 1 ∨ lawH ns = 2 ∨ lawH ns = 3 ∨ lawH ns = 4 ∨ lawH ns = 5 ∨ lawH ns = 6 := by unfold lawH; omega
  rcases hh with e | e | e | e | e | e <;> rw [e] <;> decide
def sp__law_floor (K : PySem.W.Frag) : Sp := fun vs H Q _ => ∃ (a : Addr) (ns : List Int), vs = [.ref a] ∧ SqL K H a (ns.map V.int) ∧ ns.length ≤ 63 ∧ ∀ p, H p = none → Q (.ref p) (upd H p (.tup [.int (lawH ns), .int (lawW ns), .int (lawG ns)]))
theorem sl__law_floor {K : PySem.W.Frag} {vs : List V} {H : Hp} {Q : VK} {E : XK} (h : sp__law_floor K vs H Q E) : vs.length = 1 := by
  obtain ⟨_, _, rfl, _⟩ := h; rfl
def rd__law_floor (K : PySem.W.Frag) : TS :=
  (tSeq (tAsg (tOp cAdd (tC (.int 1)) (tOp cMod (tCall (sp__law_at K) [] E0 (tCons (tVar 0) (tCons (tC (.int 0)) tNil))) (tC (.int 6)))) (gName 1))
    (tSeq (tAsg (tOp cAdd (tC (.int 1)) (tOp cMod (tCall (sp__law_at K) [] E0 (tCons (tVar 0) (tCons (tC (.int 1)) tNil))) (tCB kMin (tCons (tC (.int 6)) (tCons (tOp cDiv (tC (.int 16)) (tVar 1)) tNil))))) (gName 2))
    (tRet (tTup (tCons (tVar 1) (tCons (tVar 2) (tCons (tOp cAdd (tC (.int 1)) (tOp cMod (tCall (sp__law_at K) [] E0 (tCons (tVar 0) (tCons (tC (.int 2)) tNil))) (tC (.int 6)))) tNil)))))))
theorem rk__law_floor {K : PySem.W.Frag} {vs : List V} {H : Hp} {Q : VK} {E : XK} (h : sp__law_floor K vs H Q E) : rd__law_floor K { nx := fun _ H' => Q .non H', rt := Q } (start ["_law_script", "_law_high", "_law_wide"] vs) H := by
  obtain ⟨a, ns, rfl, hS, hn, q⟩ := h
  have F := lawFl ns
  have := F.h0
  have := F.h1
  show rd__law_floor K _ [some (.ref a), none, none] H
  unfold rd__law_floor
  walk_at "w"
  refine ⟨a, ns, 0, rfl, hS, hn, by decide, by decide, ?_⟩
  walk_at "w"
  refine ⟨by decide, ?_⟩
  walk_at "w"
  refine ⟨a, ns, 1, rfl, hS, hn, by decide, by decide, ?_⟩
  walk_at "w"
  have hH : 1 + lawAt ns 0 % 6 = lawH ns := rfl
  rw [hH]
  refine ⟨⟨by omega, by omega⟩, lawM ns, ?_⟩
  walk_at "w"
  refine ⟨a, ns, 2, rfl, hS, hn, by decide, by decide, ?_⟩
  walk_at "w"
  exact ⟨by decide, len_le (by show (3 : Nat) ≤ 1000; decide), q⟩
section
variable {K : PySem.W.Frag} {H : Hp} {Q : VK}
theorem w_isiL {p : Addr} {xs : List V} (hp : H p = some (.lst xs)) (h : Q (.bl true) H) : kIsi [.ref p, .ty "list"] H Q := by
  refine ⟨by decide, bnd_of (a := "list") (by unfold tyName; dsimp only; rw [hp]) ?_⟩
  rw [show isTy "list" "list" = true by decide]
  exact h
theorem w_isiI {i : Int} (h : Q (.bl true) H) : kIsi [.int i, .ty "int"] H Q := by
  refine ⟨by decide, bnd_of (a := "int") rfl ?_⟩
  rw [show isTy "int" "int" = true by decide]
  exact h
theorem w_isiIB {i : Int} (h : Q (.bl false) H) : kIsi [.int i, .ty "bool"] H Q := by
  refine ⟨by decide, bnd_of (a := "int") rfl ?_⟩
  rw [show isTy "int" "bool" = false by decide]
  exact h
theorem w_clear {p : Addr} {xs : List V} (hp : H p = some (.lst xs)) (h : Q .non (upd H p (.lst []))) : kClear (.ref p) [] H Q := by
  show bnd (unM (H p)) _
  rw [hp]
  exact h
theorem w_forZ {g : TG} {tb : TS} {D : Ends} {σ : St} {ta : TA} : tFor (iZip K ta) g tb D σ H = ta σ H fun vs H1 => ∃ a b, vs = [.ref a, .ref b] ∧ (∃ xs, SqL K H1 a xs) ∧ (∃ ys, SqL K H1 b ys) ∧ LoopR (Itz K a b) g tb D σ H1 := rfl
theorem w_gtup {n : Nat} {t : TGs} {σ : St} {k : St → Hp → Prop} {p : Addr} {xs : List V} (hp : H p = some (.tup xs)) (hn : xs.length = n) (h : t xs σ H k) : gTup K n t (.ref p) σ H k := ⟨p, xs, rfl, SqT.of hp, hn, h⟩
theorem w_gcons2 {i j : Nat} {x y : V} {σ : St} {k : St → Hp → Prop} : gCons (gName i) (gCons (gName j) gNil) [x, y] σ H k = k ((σ.set i (some x)).set j (some y)) H := by
  refine propext ⟨?_, fun h => ⟨x, [y], rfl, y, [], rfl, rfl, h⟩⟩
  rintro ⟨v, r, e, v2, r2, e2, e3, h⟩
  cases e
  cases e2
  exact h
theorem for_zip {a b : Addr} {xs ys : List V} {g : TG} {tb : TS} {D : Ends} {σ : St} (Pv : Nat → St → Hp → Prop) (hlen : xs.length = ys.length) (h0 : Pv 0 σ H) (hl : ∀ i σ H, i ≤ xs.length → Pv i σ H → SqL K H a xs ∧ SqL K H b ys)
    (hs : ∀ i x y T σ H, xs[i]? = some x → ys[i]? = some y → Pv i σ H → H T = none → g (.ref T) σ (upd H T (.tup [x, y])) fun σ2 H2 => tb { D with nx := Pv (i + 1), ct := Pv (i + 1), bk := D.nx } σ2 H2) (hd : ∀ σ H, Pv xs.length σ H → D.nx σ H) :
    LoopR (Itz K a b) g tb D σ H := by
  refine ⟨fun i m σ H => m = xs.length - i ∧ i ≤ xs.length ∧ Pv i σ H, ⟨xs.length, by simp, Nat.zero_le _, h0⟩, ?_⟩
  rintro i m σ H ⟨rfl, hi, p⟩
  obtain ⟨q1, q2⟩ := hl i σ H hi p
  by_cases hlt : i < xs.length
  · have hlt2 : i < ys.length := by omega
    refine .inr ⟨⟨xs, ys, xs[i], ys[i], q1, q2, by simp [hlt], by simp [hlt2]⟩, Pv (i + 1), fun σ' H' p' => ⟨xs.length - (i + 1), by omega, rfl, hlt, p'⟩, fun v H' y => ?_⟩
    obtain ⟨T, x, y, rfl, hT, rfl, e1, e2⟩ := y
    exact hs i x y T σ H (e1 xs q1) (e2 ys q2) p hT
  · have e : i = xs.length := by omega
    subst e
    exact .inl ⟨⟨xs, ys, q1, q2, .inl (Nat.le_refl _)⟩, hd σ H p⟩
end
def sp__law_whole (K : PySem.W.Frag) : Sp := fun vs H Q _ => ∃ i : Int, vs = [.int i] ∧ Q (.bl true) H
theorem sl__law_whole {K : PySem.W.Frag} {vs : List V} {H : Hp} {Q : VK} {E : XK} (h : sp__law_whole K vs H Q E) : vs.length = 1 := by
  obtain ⟨_, rfl, _⟩ := h; rfl
def rd__law_whole (K : PySem.W.Frag) : TS :=
  (tRet (tAndV (tCB kIsi (tCons (tVar 0) (tCons (tC (.ty "int")) tNil))) (tNotV (tCB kIsi (tCons (tVar 0) (tCons (tC (.ty "bool")) tNil))))))
theorem rk__law_whole {K : PySem.W.Frag} {vs : List V} {H : Hp} {Q : VK} {E : XK} (h : sp__law_whole K vs H Q E) : rd__law_whole K { nx := fun _ H' => Q .non H', rt := Q } (start ["_law_found"] vs) H := by
  obtain ⟨i, rfl, q⟩ := h
  show rd__law_whole K _ [some (.int i)] H
  unfold rd__law_whole
  walk_at "w"
  refine w_isiI ?_
  walk_at "w"
  rw [if_pos trivial]
  refine w_isiIB ?_
  walk_at "w"
  exact q
def sp_many_cells (K : PySem.W.Frag) : Sp := fun vs H Q _ => ∃ (a : Addr) (h w g : Int), vs = [.ref a] ∧ IsFl H a h w g ∧ 1 ≤ h ∧ h ≤ 6 ∧ Q (.int (h * w)) H
theorem sl_many_cells {K : PySem.W.Frag} {vs : List V} {H : Hp} {Q : VK} {E : XK} (h : sp_many_cells K vs H Q E) : vs.length = 1 := by
  obtain ⟨_, _, _, _, rfl, _⟩ := h; rfl
def rd_many_cells (K : PySem.W.Frag) : TS :=
  (tRet (tOp cMul (tOp cIx (tVar 0) (tC (.int 0))) (tOp cIx (tVar 0) (tC (.int 1)))))
theorem rk_many_cells {K : PySem.W.Frag} {vs : List V} {H : Hp} {Q : VK} {E : XK} (h : sp_many_cells K vs H Q E) : rd_many_cells K { nx := fun _ H' => Q .non H', rt := Q } (start ["floor"] vs) H := by
  obtain ⟨a, h, w, g, rfl, ha, h0, h1, q⟩ := h
  show rd_many_cells K _ [some (.ref a)] H
  unfold rd_many_cells
  walk_at "w"
  rw [w_ix ha]
  refine bnd_of (a := V.int h) rfl ?_
  walk_at "w"
  rw [w_ix ha]
  refine bnd_of (a := V.int w) rfl ?_
  walk_at "w"
  exact ⟨mul_small h0 h1, q⟩
end L2
set_option Elab.async false
set_option linter.all false
set_option maxRecDepth 100000
namespace L2
open PySem PySem.Spec PyProof.Rows
theorem ObjOk.ob {P : Program} {w : World} {H : Hp} {h : Heap} {a : Addr} {o : HO} (x : ObjOk P w H h a o) : ∃ u, h.get? a = some u := by
  cases o with
  | lst xs => obtain ⟨_, _, _, _, e⟩ := x; exact ⟨_, e⟩
  | tup xs => obtain ⟨_, _, _, ob, e, _⟩ := x; exact ⟨_, e⟩
  | dK kvs => obtain ⟨_, _, _, _, o, _, _, e, _⟩ := x; exact ⟨_, e⟩
  | dT kvs => obtain ⟨_, _, _, _, o, _, _, e, _⟩ := x; exact ⟨_, e⟩
  | set S n => obtain ⟨o, _, _, _, e, _⟩ := x; exact ⟨_, e⟩
  | ins C dx fs => obtain ⟨_, _, _, e, _⟩ := x; exact ⟨_, e⟩
  | own y => exact x
  | xd fs => obtain ⟨_, ⟨_, _, _, e, _⟩, _⟩ := x; exact ⟨_, e⟩
  | rng lo hi => obtain ⟨_, _, _, e⟩ := x; exact ⟨_, e⟩
  | frz ob u => obtain ⟨e, _⟩ := x; exact ⟨_, e⟩
  | tbl ps => exact ⟨_, (show h.get? a = some _ from x)⟩
  | met f y => exact ⟨_, (show h.get? a = some _ from x)⟩
  | ext φ => obtain ⟨_, e, _⟩ := x; exact e
def Tr (h : Heap) (x T C : Addr) (fl : Value) : Prop := ∃ oe vs oT ts a0, h.get? x = some oe ∧ oe.cls = .ref C ∧ vs[0]? = some a0 ∧ oe.data = .fields vs ∧ vs[1]? = some (.ref T) ∧ T ≠ x ∧ h.get? T = some oT ∧ oT.data = .fields ts ∧ ts[3]? = some fl
structure Fly (P : Program) (w : World) (outer : List Env) (H : Hp) (s : Shared) (x T C : Addr) (H' : Hp) (s' : Shared) : Prop where
  os : s'.os = s.os
  bare : AllBare s'.gens
  un : Un (frs outer) [] H H' s.heap s'.heap
  hok : HOk P w H' s'.heap
  fx : H' x = none
  fT : H' T = none
  nx : s.heap.get? x = none
  nT : s.heap.get? T = none
  tr : Tr s'.heap x T C .none
def CX1 (P : Program) (w : World) : CXT := fun outer H s E e s' => ∃ x T C H', e = .ref x ∧ Fly P w outer H s x T C H' s' ∧ E (.ref C) none H'
theorem fly_left {P : Program} {w : World} {env : Env} {outer : List Env} {base : Heap} {H₀ H H' : Hp} {s₀ s sA : Shared} {x T' C L : Addr} {h' : Heap} {ex : List Addr}
    (hos : sA.os = s₀.os) (hbare : AllBare sA.gens) (hL : env.frame = some L) (nL : s₀.heap.get? L = none)
    (U0 : Un (frs outer) [] H₀ H s₀.heap s.heap) (fun0 : s.heap.FunFrames base (env :: outer)) (hfr : ∀ b ∈ frs (env :: outer), H b = none)
    (UA : Un (frs (env :: outer)) [] H H' s.heap sA.heap) (okA : HOk P w H' sA.heap)
    (exn : ∀ b ∈ ex, s.heap.get? b = none ∧ H' b = none)
    (keepAll : ∀ b o, sA.heap.get? b = some o → b ∉ frs (env :: outer) → b ∉ ex → h'.get? b = some o) (up : sA.heap.UpToSlots h')
    (nx : s.heap.get? x = none) (fx : H' x = none) (hT : ∀ o, sA.heap.get? T' = some o → T' ∈ frs (env :: outer) ∨ T' ∈ ex)
    (tr : Tr h' x T' C .none) : Fly P w outer H₀ s₀ x T' C H' { sA with heap := h' } := by
  have frD : ∀ b ∈ frs (env :: outer), ∃ o, s.heap.get? b = some o ∧ ∀ vs, o.data ≠ .fields vs := fun b hb => (fun0.mem hb).2
  have frA : ∀ b ∈ frs (env :: outer), ∃ o, sA.heap.get? b = some o ∧ ∀ vs, o.data ≠ .fields vs := fun b hb => by
    obtain ⟨o, e, d⟩ := frD b hb
    obtain ⟨sl, e2⟩ := UA.slot b o e (hfr b hb) hb (by simp)
    exact ⟨_, e2, d⟩
  have frH : ∀ b ∈ frs (env :: outer), H' b = none := fun b hb => by
    obtain ⟨o, e, d⟩ := frD b hb
    exact UA.free b o e (hfr b hb) (by simp)
  have Tfr : T' ∉ frs (env :: outer) := fun hb => by
    obtain ⟨o, e, d⟩ := frA T' hb
    obtain ⟨sl, e2⟩ := up T' o e d
    obtain ⟨_, _, oT, ts, _, _, _, _, _, _, _, e3, d3, _⟩ := tr
    rw [e2] at e3
    cases e3
    exact d _ d3
  have sub : ∀ b, b ∈ frs outer → b ∈ frs (env :: outer) := fun b hb => by
    unfold frs at hb ⊢
    rw [List.filterMap_cons, hL]
    exact List.mem_cons_of_mem _ hb
  have isL : ∀ b, b ∈ frs (env :: outer) → b = L ∨ b ∈ frs outer := fun b hb => by
    unfold frs at hb ⊢
    rw [List.filterMap_cons, hL] at hb
    exact List.mem_cons.mp hb
  have thereA : ∀ b o, sA.heap.get? b = some o → b ∉ ex → ∃ o', h'.get? b = some o' := fun b o e hx => by
    by_cases hb : b ∈ frs (env :: outer)
    · obtain ⟨o1, e1, d1⟩ := frA b hb
      rw [e] at e1; cases e1
      obtain ⟨sl, e2⟩ := up b o e d1
      exact ⟨_, e2⟩
    · exact ⟨o, keepAll b o e hb hx⟩
  have nex : ∀ b o, s.heap.get? b = some o → b ∉ ex := fun b o e hx => by rw [(exn b hx).1] at e; cases e
  refine ⟨hos, hbare, ⟨fun b o e n hb _ => ?_, fun b o e n hb _ => ?_, fun b o e n _ => ?_, fun b o e _ => ?_, fun b xs e => UA.tups b xs (U0.tups b xs e), fun b o u e => UA.frzs b o u (U0.frzs b o u e), fun b ps e => ?_⟩, ?_, fx, ?_, ?_, ?_, tr⟩
  · have e1 := U0.keep b o e n hb (by simp)
    have n1 := U0.free b o e n (by simp)
    have nb : b ∉ frs (env :: outer) := fun z => by
      rcases isL b z with z | z
      · rw [z, nL] at e; cases e
      · exact hb z
    exact keepAll b o (UA.keep b o e1 n1 nb (by simp)) nb (nex b o e1)
  · obtain ⟨sl, e1⟩ := U0.slot b o e n hb (by simp)
    have n1 := U0.free b o e n (by simp)
    obtain ⟨sl2, e2⟩ := UA.slot b _ e1 n1 (sub b hb) (by simp)
    obtain ⟨o3, e3, d3⟩ := frA b (sub b hb)
    rw [e2] at e3; cases e3
    obtain ⟨sl4, e4⟩ := up b _ e2 d3
    exact ⟨sl4, e4⟩
  · have n1 := U0.free b o e n (by simp)
    obtain ⟨o1, e1⟩ := U0.there b o e (by simp)
    exact UA.free b o1 e1 n1 (by simp)
  · obtain ⟨o1, e1⟩ := U0.there b o e (by simp)
    obtain ⟨o2, e2⟩ := UA.there b o1 e1 (by simp)
    exact thereA b o2 e2 (nex b o1 e1)
  · obtain ⟨m1, e1⟩ := U0.tbls b ps e
    obtain ⟨m2, e2⟩ := UA.tbls b _ e1
    exact ⟨m1 ++ m2, by rw [e2, Array.append_assoc]⟩
  · intro a o e
    have key : ∀ b, H' b ≠ none → b ∉ frs (env :: outer) ∧ b ∉ ex := fun b hb => ⟨fun z => hb (frH b z), fun z => hb (exn b z).2⟩
    refine (okA a o e).stay (fun b u hb q => ?_) (fun _ q => q) fun _ _ q => q
    have hb' : H' b ≠ none := by
      rcases hb with rfl | hb
      · rw [e]; simp
      · rw [hb]; simp
    exact keepAll b u q (key b hb').1 (key b hb').2
  · cases q : H' T' with
    | none => rfl
    | some o =>
      obtain ⟨u, e⟩ := (okA T' o q).ob
      rcases hT u e with z | z
      · exact absurd z Tfr
      · rw [(exn T' z).2] at q; cases q
  · cases q : s₀.heap.get? x with
    | none => rfl
    | some o =>
      obtain ⟨o1, e1⟩ := U0.there x o q (by simp)
      rw [nx] at e1; cases e1
  · cases q : s₀.heap.get? T' with
    | none => rfl
    | some o =>
      obtain ⟨o1, e1⟩ := U0.there T' o q (by simp)
      obtain ⟨o2, e2⟩ := UA.there T' o1 e1 (by simp)
      rcases hT o2 e2 with z | z
      · exact absurd z Tfr
      · rw [(exn T' z).1] at e1; cases e1
theorem funs_hid {h base : Heap} {as : List Addr} : ∀ {l : List Env}, h.FunFrames base l → (∀ b ∈ frs l, b ∈ as) → h.FunFrames (PySem.W.hideAll h as) l
  | [], _, _ => trivial
  | env :: r, ⟨hk, ⟨L, o, hf, _, ho, hd⟩, hr⟩, hin => ⟨hk, ⟨L, o, hf, PySem.W.hideAll_none as (hin L (by unfold frs; rw [List.filterMap_cons, hf]; exact List.mem_cons_self)), ho, hd⟩, funs_hid hr fun b hb => hin b (by
      unfold frs at hb ⊢; rw [List.filterMap_cons, hf]; exact List.mem_cons_of_mem _ hb)⟩
theorem funs_un {h h1 base : Heap} {H H' : Hp} {fs : List Addr} : ∀ {l : List Env}, h.FunFrames base l → (∀ b ∈ frs l, b ∈ fs ∧ H b = none) → Un fs [] H H' h h1 → h1.FunFrames base l
  | [], _, _, _ => trivial
  | env :: r, ⟨hk, ⟨L, o, hf, hn, ho, hd⟩, hr⟩, hin, u => by
    obtain ⟨h1, h2⟩ := hin L (by unfold frs; rw [List.filterMap_cons, hf]; exact List.mem_cons_self)
    obtain ⟨sl, e⟩ := u.slot L o ho h2 h1 (by simp)
    exact ⟨hk, ⟨L, _, hf, hn, e, hd⟩, funs_un hr (fun b hb => hin b (by unfold frs at hb ⊢; rw [List.filterMap_cons, hf]; exact List.mem_cons_of_mem _ hb)) u⟩
section
variable {P : Program} {w : World} {K : PySem.W.Frag} {mg : Str → Option Value} {base : Heap} {N : List Str} {qual : Str} {scope : Scope} {f : Addr} {cd : Value} {A : Around} {outer : List Env} {s₀ : Shared} {H₀ : Hp} {E : XK}
abbrev cx1 (P : Program) (w : World) (K : PySem.W.Frag) (mg : Str → Option Value) (base : Heap) (N : List Str) (qual : Str) (scope : Scope) (f : Addr) (cd : Value) (A : Around) (outer : List Env) (s : Shared) (H : Hp) (E : XK) : Cx :=
  cxOf (CX1 P w) P w K mg base N qual scope f cd A outer s H E
theorem xe_pass {E' : XK} (himp : ∀ c d H, E' c d H → E c d H) : Passes (CX1 P w) (cx1 P w K mg base N qual scope f cd A outer s₀ H₀ E) E' := by
  intro pins σ H s e s' I h
  obtain ⟨x, T, C, H', rfl, F, q⟩ := h
  obtain ⟨oe, vs, oT, ts, a0, he, hc, h0, hd, h1, hTx, hT, hdT, h3⟩ := F.tr
  have hstk : ∀ b ∈ frs (envOfC qual scope s₀.heap.objs.size f cd :: outer), H b = none := I.stkFree
  have ff : s'.heap.FunFrames base (envOfC qual scope s₀.heap.objs.size f cd :: outer) := funs_un I.stack (fun b hb => ⟨hb, hstk b hb⟩) F.un
  show wpAny (model P w) (A.deeper (envOfC qual scope s₀.heap.objs.size f cd)) (leaving (envOfC qual scope s₀.heap.objs.size f cd) (.ref x)) _ _ s'
  have hin : ∀ b ∈ frs (envOfC qual scope s₀.heap.objs.size f cd :: outer), b ∈ frs (envOfC qual scope s₀.heap.objs.size f cd :: outer) ++ [x, T] := fun b hb => List.mem_append_left _ hb
  refine wpAny_leaves_onW (base := PySem.W.hideAll s'.heap (frs (envOfC qual scope s₀.heap.objs.size f cd :: outer) ++ [x, T])) (cls := .ref C) (a0 := a0) (L := s₀.heap.objs.size) I.ok.frames rfl
    ⟨fun b o e => PySem.W.of_hideAll _ e, PySem.W.hideAll_none _ (by simp), funs_hid ff hin, oe, vs, T, oT, ts, he, ⟨hc, h0⟩, hd, h1, PySem.W.hideAll_none _ (by simp), hTx, hT, hdT, h3⟩ fun h' fl up => ?_
  obtain ⟨k1, k2, k3, oe', vs', T', oT', ts', a1, a2, a3, a4, a5, a6, a7, a8, a9⟩ := fl
  have keepAll : ∀ b o, s'.heap.get? b = some o → b ∉ frs (envOfC qual scope s₀.heap.objs.size f cd :: outer) → b ∉ [x, T] → h'.get? b = some o := fun b o e hb hx => k1 b o (PySem.W.hideAll_get _ e fun z => (List.mem_append.mp z).elim hb hx)
  refine ⟨x, T', C, H', rfl, fly_left (env := envOfC qual scope s₀.heap.objs.size f cd) (base := base) (s := s) (sA := s') (L := s₀.heap.objs.size) (ex := [x, T]) (F.os.trans I.os) F.bare rfl (Heap.get?_none_of_le (Nat.le_refl _)) I.base I.stack hstk F.un F.hok (fun b hb => ?_) keepAll up F.nx F.fx (fun o e => ?_) ⟨oe', vs', oT', ts', a0, a1, a2.1, a2.2, a3, a4, a6, a7, a8, a9⟩, himp _ _ _ q⟩
  · simp only [List.mem_cons, List.not_mem_nil, or_false] at hb
    rcases hb with rfl | rfl
    · exact ⟨F.nx, F.fx⟩
    · exact ⟨F.nT, F.fT⟩
  · by_cases z : T' ∈ frs (envOfC qual scope s₀.heap.objs.size f cd :: outer) ++ [x, T]
    · exact List.mem_append.mp z
    · rw [PySem.W.hideAll_get _ e z] at a5; cases a5
theorem xe_raise {pins : List (Addr × Obj)} {σ : St} {H : Hp} {s : Shared} {h1 : Heap} {x C : Addr} {args : List Value} (I : Inv (cx1 P w K mg base N qual scope f cd A outer s₀ H₀ E) pins σ H s) (hm : Heap.MadeExcOf s.heap h1 x (.ref C) args) (q : E (.ref C) none H) :
    (cx1 P w K mg base N qual scope f cd A outer s₀ H₀ E).xe (.ref x) { s with heap := h1 } := by
  have hstk : ∀ b ∈ frs (envOfC qual scope s₀.heap.objs.size f cd :: outer), H b = none := I.stkFree
  have ff : s.heap.FunFrames base (envOfC qual scope s₀.heap.objs.size f cd :: outer) := I.stack
  show wpAny (model P w) (A.deeper (envOfC qual scope s₀.heap.objs.size f cd)) (leaving (envOfC qual scope s₀.heap.objs.size f cd) (.ref x)) _ _ { s with heap := h1 }
  refine wpAny_leaves_madeW (s := { s with heap := h1 }) (base := PySem.W.hideAll s.heap (frs (envOfC qual scope s₀.heap.objs.size f cd :: outer))) (h := s.heap) (L := s₀.heap.objs.size) I.ok.frames rfl (fun b o e => PySem.W.of_hideAll _ e) (funs_hid ff fun b hb => hb) hm fun h' t fl _ _ up => ?_
  obtain ⟨k1, k2, k3, oe', vs', T', oT', ts', a1, a2, a3, a4, a5, a6, a7, a8, a9⟩ := fl
  have keepAll : ∀ b o, s.heap.get? b = some o → b ∉ frs (envOfC qual scope s₀.heap.objs.size f cd :: outer) → b ∉ ([] : List Addr) → h'.get? b = some o := fun b o e hb _ => k1 b o (PySem.W.hideAll_get _ e hb)
  refine ⟨x, T', C, H, rfl, fly_left (env := envOfC qual scope s₀.heap.objs.size f cd) (base := base) (s := s) (sA := s) (L := s₀.heap.objs.size) (ex := []) I.os I.bare rfl (Heap.get?_none_of_le (Nat.le_refl _)) I.base ff hstk Un.refl I.hok (fun b hb => nomatch hb) keepAll ((Heap.UpToSlots.of_keeps hm.keeps).trans up) hm.new ?_ (fun o e => ?_) ⟨oe', vs', oT', ts', _, a1, a2.1, a2.2, a3, a4, a6, a7, a8, a9⟩, q⟩
  · cases z : H x with
    | none => rfl
    | some o =>
      obtain ⟨u, e⟩ := (I.hok x o z).ob
      rw [hm.new] at e; cases e
  · by_cases z : T' ∈ frs (envOfC qual scope s₀.heap.objs.size f cd :: outer)
    · exact .inl z
    · rw [PySem.W.hideAll_get _ e z] at a5; cases a5
end
end L2
set_option Elab.async false
set_option linter.all false
set_option maxRecDepth 100000
namespace L2
open PySem PySem.Spec PyProof.Rows
section
variable {prog : Program} {w : World} {A : Around} {E : Value → Shared → Prop} {h : Heap} {g : Array GenState} {d : Drawn} {t : Nat} {os : OsState} {K : PySem.W.Frag} {a C : Addr} {o : Obj}
structure XIs (K : PySem.W.Frag) (C : Addr) : Prop where
  ga : PySem.W.findIn K (.ref C) "__getattribute__" = some (some (.builtin "BaseException.__getattribute__"))
  gx : PySem.W.findIn K (.ref C) "__getattr__" = some none
  cl : PySem.W.findIn K (.ref C) "__class__" = some (some (.builtin "object.__class__"))
  mo : PySem.W.mroIn K C (.type "object") = some true
  mb : PySem.W.mroIn K C (.type "BaseException") = some true
theorem xis_sub {M : Model} {T : Value} {v : Bool} (X : K.In h) (hm : PySem.W.mroIn K C T = some v) : PySem.W.Looks M h (isSubtype (.ref C) T) v := PySem.W.looks_mroIn X hm
theorem x_get {R : Result → Shared → Prop} (X : K.In h) (Z : XIs K C) (hx : h.get? a = some o) (hc : o.cls = .ref C) (hq : R (.ok (.ret (.ref C))) ⟨h, g, d, t, os⟩) :
    codeAny (model prog w) A (.call (.builtin "getset_descriptor.__get__") ⟨[.builtin "object.__class__", .ref a, .ref C], []⟩) R ⟨h, g, d, t, os⟩ := by
  have hT5 : (⟨h, g, d, t, os⟩ : Shared).TypeIs (.builtin "object.__class__") "getset_descriptor" := F.typeOf_object_class
  have L1 : PySem.W.Looks (model prog w) h (isSubtype (.ref C) (.type (".".intercalate ("object.__class__".cutAt '.').dropLast))) true := by rw [F.owner_object_class]; exact xis_sub X Z.mo
  refine codeAny_call_builtin F.slot_gs_get.plain F.entry_gs_get (F.slot_gs_get.check _ _ _ _ _ _ _ _ hT5 (F.args_gs_get _ _ _) ?_)
  repeat (any_goals (first | assumption | (with_reducible refine wpAny_loadPart_at hx ?_; rw [hc]) | with_reducible refine L1.at ?_ | wp_step))
  refine ⟨Code.quiet_builtin _ (by decide +kernel), codeAny_builtin F.entry_object_class ?_⟩
  repeat (any_goals (first | assumption | (with_reducible refine wpAny_loadPart_at hx ?_; rw [hc]) | wp_step))
theorem x_entry {tk : Tok} {Q : Fin → Shared → Prop} (X : K.In h) (Z : XIs K C) (hx : h.get? a = some o) (hc : o.cls = .ref C) (hq : Q (.done (.ret (.ref C))) ⟨h, g, d, t, os⟩) :
    wpAny (model prog w) A (Builtin.«object.__getattribute__» ⟨[.ref a, .str "__class__" tk], []⟩) Q E ⟨h, g, d, t, os⟩ := by
  have hT5 : (⟨h, g, d, t, os⟩ : Shared).TypeIs (.builtin "object.__class__") "getset_descriptor" := F.typeOf_object_class
  have f5 := F.typeOf_object_class
  have f6 := F.slot_gs_get.lookup
  have f7 := F.slot_gs_set.lookup
  have L1 := PySem.W.looks_findIn (M := model prog w) X Z.cl
  repeat (any_goals (first | assumption | (with_reducible refine wpAny_loadPart_at hx ?_; rw [hc]) | with_reducible refine L1.at ?_ | wp_step))
  refine x_get X Z hx hc ?_
  repeat (any_goals (first | assumption | wp_step))
theorem x_check {M : Model} {nameV : Value} {Q : Unit → Shared → Prop} (X : K.In h) (Z : XIs K C) (hx : h.get? a = some o) (hc : o.cls = .ref C) (hq : Q () ⟨h, g, d, t, os⟩) : wpAny M A (checkBuiltinCall "BaseException.__getattribute__" ⟨[.ref a, nameV], []⟩) Q E ⟨h, g, d, t, os⟩ := by
  have hk : builtinKind "BaseException.__getattribute__" = some .slot := by decide +kernel
  have hsplit : splitId "BaseException.__getattribute__" = some ("BaseException", "__getattribute__") := by decide +kernel
  have L1 := xis_sub (M := M) X Z.mb
  have ha := F.args_bexc_ga (.ref a) nameV
  simp only [checkBuiltinCall, hk, hsplit]
  refine wpAny_bind ?_
  · unfold isInstance
    repeat (first | (with_reducible refine wpAny_loadPart_at hx ?_; rw [hc]) | with_reducible refine L1.at ?_ | wp_step)
    exact hq
theorem x_call {tk : Tok} {R : Result → Shared → Prop} (X : K.In h) (Z : XIs K C) (hx : h.get? a = some o) (hc : o.cls = .ref C) (hq : R (.ok (.ret (.ref C))) ⟨h, g, d, t, os⟩) :
    codeAny (model prog w) A (.call (.builtin "BaseException.__getattribute__") ⟨[.ref a, .str "__class__" tk], []⟩) R ⟨h, g, d, t, os⟩ :=
  codeAny_call_builtin F.attr_ValueError.ga.plain F.entry_bexc_ga (x_check X Z hx hc (x_entry X Z hx hc hq))
theorem x_by {tk : Tok} {fill expr : Bool} {Q : Value → Shared → Prop} (X : K.In h) (Z : XIs K C) (hx : h.get? a = some o) (hc : o.cls = .ref C) (hq : Q (.ref C) ⟨h, g, d, t, os⟩) :
    wpAny (model prog w) A (getAttrBy (.ref a) (.str "__class__" tk) fill expr) Q E ⟨h, g, d, t, os⟩ := by
  have f3 := F.attr_ValueError.ga.bind (.ref a)
  have hx0 : (expr && onTheHeap (Value.builtin "BaseException.__getattribute__")) = false := by cases expr <;> rfl
  have hx2 : (Value.builtin "BaseException.__getattribute__" == Value.builtin "object.__getattribute__") = false := by decide +kernel
  have hx1 : (onTheHeap (Value.ref C) && Value.builtin "BaseException.__getattribute__" == Value.builtin "object.__getattribute__") = false := by rw [hx2]; rfl
  have L1 := PySem.W.looks_findIn (M := model prog w) X Z.ga
  have L2 := PySem.W.looks_findIn (M := model prog w) X Z.gx
  repeat (any_goals (first | assumption | (with_reducible refine wpAny_loadPart_at hx ?_; rw [hc]) | with_reducible refine L1.at ?_ | with_reducible refine L2.at ?_ | wp_step))
  refine x_call X Z hx hc ?_
  repeat (any_goals (first | assumption | wp_step))
theorem x_attr {Q : Option Value → Shared → Prop} (X : K.In h) (Z : XIs K C) (hx : h.get? a = some o) (hc : o.cls = .ref C) (hq : Q (some (.ref C)) ⟨h, g, d, t + 1, os⟩) :
    wpAny (model prog w) A (getAttr? (.ref a) "__class__") Q E ⟨h, g, d, t, os⟩ := by
  unfold getAttr? getAttrBy?
  repeat (any_goals (first | assumption | with_reducible apply x_by X Z hx hc | wp_step))
def XO (a C : Addr) : Heap → Prop := fun h => ∃ o vs, h.get? a = some o ∧ o.cls = .ref C ∧ o.data = .fields vs
theorem xis_cls (Z : XIs K C) : ∃ c' d' cd sl, K.lookup C = some ⟨c', d', .cls cd, sl⟩ := by
  have := Z.mo
  unfold PySem.W.mroIn PySem.W.clsIn at this
  split at this
  · rename_i c' d' cd' sl' ho
    exact ⟨_, _, _, _, ho⟩
  · cases this
theorem kitx_exc (Z : XIs K C) : PySem.W.KitX K (.ref a) (.ref C) (XO a C) where
  ty := fun M h _ ⟨o, vs, hx, hc, _⟩ => by
    intro A Q E s k q
    unfold typeOf
    refine wpAny_bind (wpAny_loadPart (k _ _ hx) ?_)
    rw [hc]
    exact wpAny_pure q
  it := fun M h X _ => by
    obtain ⟨c', d', cd, sl, ho⟩ := xis_cls Z
    intro A Q E s k q
    unfold isType loadHead
    exact wpAny_bind (wpAny_loadPart (k _ _ (X _ _ ho)) (wpAny_pure q))
  ne := fun h tp dd its n sl X htp => by
    obtain ⟨c', d', cd, sl', ho⟩ := xis_cls Z
    refine Bool.eq_false_iff.mpr fun q => ?_
    have e : C = tp := Value.ref.inj (beq_iff_eq.mp q)
    subst e
    have z := (X _ _ ho).symm.trans htp
    cases z
  ca := fun {prog w A E Q s} X ⟨o, vs, hx, hc, _⟩ hq => by
    obtain ⟨h, g, d, t, os⟩ := s
    exact x_attr X Z hx hc hq
end
def cvOf : V → Option Value
  | .ref p => some (.ref p)
  | .ty n => some (.type n)
  | _ => none
theorem cvOf_rel {c : V} {cv u : Value} (h : cvOf c = some cv) (r : RelV c u) : u = cv := by
  cases c with
  | ref p => cases h; cases r; rfl
  | ty n => cases h; cases r; rfl
  | _ => cases h
def kIsX (K : PySem.W.Frag) : List V → Hp → VK → Prop := fun vs H Q => ∃ a C c cv b, vs = [.ref a, c] ∧ H a = some (.ext (XO a C)) ∧ XIs K C ∧ cvOf c = some cv ∧ PySem.W.kitOne K (.ref C) cv = some b ∧ Q (.bl b) H
theorem call_kIsX {X : Cx} : CallR X (.builtin "isinstance") (kIsX X.K) := by
  intro pins s σ H xs us Q I r h
  obtain ⟨a, C, c, cv, b, rfl, hH, Z, rc, hk, q⟩ := h
  obtain ⟨u, w', rfl, ru, rw'⟩ := vals2 r
  cases ru
  have e : w' = cv := cvOf_rel rc rw'
  subst e
  obtain ⟨p, _⟩ := I.hok a _ hH
  exact PySem.W.kia_one (kitx_exc Z) I.kIn p hk (fun z => nomatch z) fun tk => ⟨.bl b, H, I.tok tk, rfl, q⟩
end L2
set_option Elab.async false
set_option linter.all false
set_option maxRecDepth 100000
namespace L2
open PySem PySem.Spec PyProof.Rows
abbrev VE : List Value := [.type "ValueError", .type "Exception", .type "BaseException", .type "object"]
def isStrKey (e : DictEntry) : Bool := match e.key with | .str _ _ => true | _ => false
def noInit (K : PySem.W.Frag) (N : Addr) : Bool := match K.lookup N with
  | some ⟨_, _, .dict es _, _⟩ => es.toList.all isStrKey && (nsFind es "__init__").isNone
  | _ => false
theorem noInit_ns {K : PySem.W.Frag} {N : Addr} {h : Heap} (X : K.In h) (e : noInit K N = true) : ∃ mN, h.Ns N mN ∧ mN "__init__" = none := by
  unfold noInit at e
  split at e
  · rename_i c d es ep sl ho
    simp only [Bool.and_eq_true] at e
    refine ⟨nsFind es, ⟨_, es, ep, X _ _ ho, rfl, fun en hm => ?_, fun _ => rfl⟩, Option.isNone_iff_eq_none.mp e.2⟩
    have := List.all_eq_true.mp e.1 en (Array.mem_def.mp hm)
    unfold isStrKey at this
    split at this
    · rename_i n t q; exact ⟨n, t, q⟩
    · cases this
  · cases e
structure XC (K : PySem.W.Frag) (C D : Addr) : Prop where
  oC : ∃ nm q N bs hdct sn sub ab col dd k0 k1 k2 k3 k5, K.lookup C = some (excClassObj nm q C N bs (.ref D :: VE) hdct sn sub ab col dd k0 k1 k2 k3 k5 "ValueError.__new__") ∧ noInit K N = true
  oD : ∃ c0 dd cd sl, K.lookup D = some ⟨c0, dd, .cls cd, sl⟩ ∧ noInit K cd.ns = true
theorem XC.mk' {K : PySem.W.Frag} {C D : Addr} {nm q : Str} {N : Addr} {bs : List Value} {hdct : Bool} {sn : List Str} {sub : List Value} {ab : Bool} {col : Option Bool} {dd : Option Addr} {k0 k1 k2 k3 k5 : Option Value} {c0 : Value} {dD : Option Addr} {cd : ClassData} {sl : Array (Option Value)}
    (l1 : K.lookup C = some (excClassObj nm q C N bs (.ref D :: VE) hdct sn sub ab col dd k0 k1 k2 k3 k5 "ValueError.__new__")) (n1 : noInit K N = true) (l2 : K.lookup D = some ⟨c0, dD, .cls cd, sl⟩) (n2 : noInit K cd.ns = true) : XC K C D :=
  ⟨⟨_, _, _, _, _, _, _, _, _, _, _, _, _, _, _, l1, n1⟩, ⟨_, _, _, _, l2, n2⟩⟩
def tRaise (E : XK) (C : Addr) (t : TA) : TS := fun _ σ H => t σ H fun vs H1 => vs.length ≤ sizeLine ∧ E (.ref C) none H1
section
variable {P : Program} {w : World} {K : PySem.W.Frag} {mg : Str → Option Value} {base : Heap} {N : List Str} {qual : Str} {scope : Scope} {f : Addr} {cd : Value} {A : Around} {outer : List Env} {s₀ : Shared} {H₀ : Hp} {E : XK}
theorem ps_raise {C D : Addr} {x : Str} {np cpos pos : Pos} {e₀ : Expr} {rest : List Expr} {t : TA} (Z : XC K C D) (hg : Gl (cx1 P w K mg base N qual scope f cd A outer s₀ H₀ E) x) (hm : mg x = some (.ref C))
    (ha : PA (cx1 P w K mg base N qual scope f cd A outer s₀ H₀ E) (e₀ :: rest) t) (hdb : (x == ("__debug__" : Str)) = false := by decide)
    (he : starEach (e₀ :: rest) (envOfC qual scope s₀.heap.objs.size f cd) = (false, eval e₀ (envOfC qual scope s₀.heap.objs.size f cd)) :: starEach rest (envOfC qual scope s₀.heap.objs.size f cd) := by rfl)
    (hplain : (backTo cpos (starEach rest (envOfC qual scope s₀.heap.objs.size f cd))).any (·.1) = false := by rfl) :
    PS (cx1 P w K mg base N qual scope f cd A outer s₀ H₀ E) (.Raise (some (.Call (.Name x np) (e₀ :: rest) [] cpos)) none pos) (tRaise E C t) := by
  intro pins s σ H D' I h
  obtain ⟨⟨nm, q, Nc, bs, hdct, sn, sub, ab, col, dd, k0, k1, k2, k3, k5, l1, n1⟩, ⟨c0, dD, cdD, sl, l2, n2⟩⟩ := Z
  obtain ⟨mN, hN, hni⟩ := noInit_ns I.kIn n1
  obtain ⟨mD, hD, hnd⟩ := noInit_ns I.kIn n2
  have hb := I.ok.hd rfl
  refine wpAny_Raise_call_subU (C := C) (nm := nm) (q := q) (N := Nc) (bs := bs) (bm := .ref D :: VE) (bmB := VE) (hdct := hdct) (sn := sn) (sub := sub) (ab := ab) (col := col) (dd := dd) (k0 := k0) (k1 := k1) (k2 := k2) (k3 := k3) (k5 := k5)
    F.excBase_ValueError (by decide +kernel) F.excBase_ValueError (mN := mN) (by rw [List.contains_cons, show VE.contains (.type "BaseException") = true by decide +kernel, Bool.or_true]) hb (by rw [show starEach (e₀ :: rest) (cx1 P w K mg base N qual scope f cd A outer s₀ H₀ E).env = _ from he]; show (false || (backTo cpos (starEach rest (envOfC qual scope s₀.heap.objs.size f cd))).any (·.1)) = false; rw [hplain]; rfl) hni (ld_glob I hg hm ⟨rfl, ?_⟩ hdb)
  have h1 := ha cpos pins s σ H _ I h
  rw [show starEach (e₀ :: rest) (cx1 P w K mg base N qual scope f cd A outer s₀ H₀ E).env = _ from he] at h1 ⊢
  refine Calls.evalArgs_plain (wpAny_mono h1 (fun vs s₂ h₂ => ?_) fun _ _ y => y)
  obtain ⟨xs, H2, I2, rv, hl, hE⟩ := h₂
  obtain ⟨mN2, hN2, hni2⟩ := noInit_ns I2.kIn n1
  obtain ⟨mD2, hD2, hnd2⟩ := noInit_ns I2.kIn n2
  have kk : s.heap.Ns Nc mN → s₂.heap.Ns Nc mN := fun ⟨o, es, ep, a1, a2⟩ => by
    obtain ⟨o2, es2, ep2, b1, b2⟩ := hN2
    unfold noInit at n1
    split at n1
    · rename_i c d es' ep' sl' ho
      have e1 := I.kIn _ _ ho
      have e2 := I2.kIn _ _ ho
      rw [a1] at e1; cases e1
      exact ⟨_, es, ep, e2, a2⟩
    · cases n1
  refine ⟨rfl, by rw [← rv.length]; exact hl, I2.kIn _ _ l1, kk hN, .own (I2.kIn _ _ l2) hD2 hnd2 .base, fun h' e hm' => ?_⟩
  exact xe_raise I2 hm' hE
end
end L2
set_option Elab.async false
set_option linter.all false
set_option maxRecDepth 100000
namespace L2
open PySem PySem.Spec PyProof.Rows
theorem pass1 {P : Program} {w : World} {X : Cx} : Passes (CX1 P w) X E0 := fun _ _ _ _ _ _ _ h => by obtain ⟨_, _, _, _, _, _, q⟩ := h; exact (show False from q).elim
section
variable {P : Program} {w : World} {K : PySem.W.Frag} {mg : Str → Option Value} {base : Heap}
theorem Fun.ok1 {x qual : Str} {st : Stmt} {f : Addr} {fd : FuncData} {N ps : List Str} {k : Nat} {sp : Sp} (F : Fun K x qual st f fd) (S : FnScope N ps (defScope st)) (len : ∀ vs H Q E, sp vs H Q E → vs.length = ps.length)
    (hbody : ∀ (cdv : Value) (A : Around) (outer : List Env) (s : Shared) (H : Hp) (vs : List V) (Q : VK) (E : XK), Room k (A.deeper (envOfC qual (defScope st) s.heap.objs.size f cdv)) → sp vs H Q E →
      ∃ t, PSs (cx1 P w K mg base N qual (defScope st) f cdv A outer s H E) (defBody st) t ∧ t { nx := fun _ H' => Q .non H', rt := Q } (start N vs) H) : FnOk P w K mg base (CX1 P w) (k + 1) f fd ps sp := by
  obtain ⟨oc, od, kV, doc, pm, an, cdv, ct, osl, rfl, lk, hcd⟩ := F.ex
  exact fn_of lk hcd S len fun A outer s H vs Q E hr hsp => hbody cdv A outer s H vs Q E hr hsp
end
section
variable {X : Cx} {pins : List (Addr × Obj)} {σ : St} {H : Hp} {s s' : Shared}
theorem landed {H' : Hp} {x T C : Addr} {a0 : Value} {h5 : Heap} (I : Inv X pins σ H s) (F : Fly X.prog X.w X.stack H s x T C H' s') (fl : Heap.FlyingW (PySem.W.hideAll s'.heap (frs X.stack ++ [x, T])) X.stack x (.ref C) a0 h5) (up : s'.heap.UpToSlots h5) :
    Inv X pins σ (upd H' x (.ext (XO x C))) { s' with heap := h5 } := by
  obtain ⟨k1, _, _, oe, vs, T', oT, ts, he, hc, hd, _⟩ := fl
  have keepAll : ∀ b o, s'.heap.get? b = some o → b ∉ frs X.stack → b ∉ [x, T] → h5.get? b = some o := fun b o e hb hx => k1 b o (PySem.W.hideAll_get _ e fun z => (List.mem_append.mp z).elim hb hx)
  have frD : ∀ b ∈ frs X.stack, ∃ o, s.heap.get? b = some o ∧ ∀ vs, o.data ≠ .fields vs := fun b hb => (I.stack.mem hb).2
  have hstk := I.stkFree
  have nxT : ∀ b o, s.heap.get? b = some o → b ∉ [x, T] := fun b o e z => by
    simp only [List.mem_cons, List.not_mem_nil, or_false] at z
    rcases z with rfl | rfl
    · rw [F.nx] at e; cases e
    · rw [F.nT] at e; cases e
  have slots : ∀ b o, s.heap.get? b = some o → H b = none → b ∈ frs X.stack → ∃ sl, h5.get? b = some { o with slots := sl } := fun b o e n hb => by
    obtain ⟨sl, e1⟩ := F.un.slot b o e n hb (by simp)
    obtain ⟨o2, e2, d2⟩ := frD b hb
    rw [e] at e2; cases e2
    obtain ⟨sl2, e3⟩ := up b _ e1 d2
    exact ⟨sl2, e3⟩
  have frH : ∀ b ∈ frs X.stack, H' b = none := fun b hb => by
    obtain ⟨o, e, d⟩ := frD b hb
    exact F.un.free b o e (hstk b hb) (by simp)
  have ne : ∀ b o, H' b = some o → b ≠ x := fun b o e z => by rw [z, F.fx] at e; cases e
  have okx : ObjOk X.prog X.w (upd H' x (.ext (XO x C))) h5 x (.ext (XO x C)) := ⟨⟨oe, vs, he, hc.1, hd⟩, ⟨oe, he⟩, fun h1 h2 ⟨o, vs, q, r⟩ k => ⟨o, vs, k o q, r⟩⟩
  refine I.call' (ch := []) F.os ⟨fun b o e n hb _ => ?_, fun b o e n hb _ => ?_, fun b o e n _ => ?_, fun b o e _ => ?_, fun b xs e => ?_, fun b o u e => ?_, fun b ps e => ?_⟩ (fun a o e => ?_) F.bare fun b z => absurd z (by simp)
  · exact keepAll b o (F.un.keep b o e n hb (by simp)) hb (nxT b o e)
  · exact slots b o e n hb
  · have n1 := F.un.free b o e n (by simp)
    rw [upd_ne fun z => nxT b o e (by rw [z]; simp)]
    exact n1
  · by_cases hb : b ∈ frs X.stack
    · obtain ⟨sl, e1⟩ := slots b o e (hstk b hb) hb
      exact ⟨_, e1⟩
    · obtain ⟨o', e1⟩ := F.un.there b o e (by simp)
      exact ⟨o', keepAll b o' e1 hb (nxT b o e)⟩
  · have q := F.un.tups b xs e
    rw [upd_ne (ne b _ q)]; exact q
  · have q := F.un.frzs b o u e
    rw [upd_ne (ne b _ q)]; exact q
  · obtain ⟨m, q⟩ := F.un.tbls b ps e
    exact ⟨m, by rw [upd_ne (ne b _ q)]; exact q⟩
  · by_cases ha : a = x
    · subst ha
      rw [upd_same] at e; cases e
      exact okx
    · rw [upd_ne ha] at e
      refine (F.hok a o e).stay (fun b u hb q => ?_) (fun b q => ?_) fun b xs q => ?_
      · have hb' : H' b ≠ none := by
          rcases hb with rfl | hb
          · rw [e]; simp
          · rw [hb]; simp
        refine keepAll b u q (fun z => hb' (frH b z)) fun z => ?_
        simp only [List.mem_cons, List.not_mem_nil, or_false] at z
        rcases z with rfl | rfl
        · exact hb' F.fx
        · exact hb' F.fT
      · rw [upd_ne (ne b _ q)]; exact q
      · rw [upd_ne (ne b _ q)]; exact q
theorem gone_ok {M : Model} {A : Around} {E : Value → Shared → Prop} {i : Nat} {x : Str} {pos : Pos} {Q : Unit → Shared → Prop} (I : Inv X pins σ H s) (hN : X.N.Nodup) (hi : X.N[i]? = some x) (hk : X.env.kindOf x = some .local)
    (h : ∀ s', Inv X pins (σ.set i none) H s' → Q () s') : wpAny M A (do bindName X.env x .none; unbindBehindTheSuite X.env x pos) Q E s := by
  obtain ⟨m, hn, hl⟩ := id I.loc
  have hcls : (X.env.scope.kind == .class || (X.env.scope.kind == .module && X.env.locals != X.env.globals)) = false := by rw [I.ok.kind]; rfl
  have hiσ : i < σ.length := by rw [I.len]; exact (List.getElem?_eq_some_iff.mp hi).1
  have cne := I.cne
  refine wpAny_nameGoes_keeps hk hn hcls fun h' v hn' hs => ?_
  obtain ⟨oL, _, _, hoL, _⟩ := id hn
  have tracked : HOk X.prog X.w H h' := fun b ob e => by
    refine (I.hok b ob e).stay (fun c w' hc q => (hs.2 c ?_).trans q) (fun _ q => q) fun _ _ q => q
    rintro rfl
    rcases hc with rfl | hc
    · rw [I.free] at e; cases e
    · rw [I.free] at hc; cases hc
  refine h _ ⟨I.ok, I.os, I.bare, ⟨fun b o e n hb hx => ?_, fun b o e n hb hx => ?_, I.base.free, fun b o e hx => ?_, I.base.tups, I.base.frzs, I.base.tbls⟩, ⟨_, hn', fun j y v' e1 e2 e3 => ?_⟩, fun y c e => ?_, I.free, I.freeC, fun p hp => ?_, tracked, by simpa using I.len⟩
  · exact (hs.2 b (Nat.ne_of_lt (Nat.lt_of_lt_of_le (Heap.lt_size e) I.ok.above))).trans (I.base.keep b o e n hb hx)
  · obtain ⟨sl, e1⟩ := I.base.slot b o e n hb hx
    exact ⟨sl, (hs.2 b (Nat.ne_of_lt (Nat.lt_of_lt_of_le (Heap.lt_size e) I.ok.above))).trans e1⟩
  · obtain ⟨o', e1⟩ := I.base.there b o e hx
    exact ⟨o', (hs.2 b (Nat.ne_of_lt (Nat.lt_of_lt_of_le (Heap.lt_size e) I.ok.above))).trans e1⟩
  · by_cases hj : j = i
    · subst hj
      rw [List.getElem?_set_self hiσ] at e2
      cases e2
    · rw [List.getElem?_set_ne (Ne.symm hj)] at e2
      obtain ⟨u', r', q⟩ := hl j y v' e1 e2 e3
      refine ⟨u', r', ?_⟩
      rcases q with ⟨k, e⟩ | ⟨k, c, e, z⟩
      · refine .inl ⟨k, ?_⟩
        have : y ≠ x := fun e => hj (nodup_ix hN e1 (e ▸ hi))
        simp [this, e]
      · exact .inr ⟨k, c, e, z.sameBut hs (cne y c e)⟩
  · obtain ⟨w', z⟩ := I.cell y c e
    exact ⟨w', z.sameBut hs (cne y c e)⟩
  · obtain ⟨e, n, ne, nf, d⟩ := I.pin p hp
    exact ⟨(hs.2 p.1 ne).trans e, n, ne, nf, d⟩
end
abbrev Cx.caught (X : Cx) (x : Addr) : Cx := { X with A := X.A.mark (some (.ref x)), calm := false, xe := fun _ _ => False }
section
variable {X : Cx} {pins : List (Addr × Obj)} {σ : St} {H : Hp} {s : Shared} {x : Addr}
theorem Cx.Ok.caught (ok : X.Ok) : (X.caught x).Ok :=
  ⟨ok.mod, ok.kind, ok.glob, ok.blt, ok.above, ok.inj, ok.has, ok.cab, (fun z => nomatch z), ok.frames, ok.stk, ok.exf, ok.bs, ok.bsz, ok.noex, ok.exfs, ok.funs, ok.frf⟩
theorem Inv.caught (I : Inv X pins σ H s) : Inv (X.caught x) pins σ H s := ⟨I.ok.caught, I.os, I.bare, I.base, I.loc, I.cell, I.free, I.freeC, I.pin, I.hok, I.len⟩
theorem Inv.uncaught (ok : X.Ok) (I : Inv (X.caught x) pins σ H s) : Inv X pins σ H s := ⟨ok, I.os, I.bare, I.base, I.loc, I.cell, I.free, I.freeC, I.pin, I.hok, I.len⟩
end
def Came (X : Cx) (pins : List (Addr × Obj)) (σ : St) (E : XK) (e : Value) (s' : Shared) : Prop := ∃ H1 s1, Inv X pins σ H1 s1 ∧ CX1 X.prog X.w X.stack H1 s1 E e s'
section
variable {X : Cx} {k : Nat} {f : Addr} {fd : FuncData} {ps : List Str} {sp : Sp} {x : Str} {p pos : Pos} {e : Expr} {es : List Expr} {t : TA}
theorem px_call {pins : List (Addr × Obj)} {s : Shared} {σ : St} {H : Hp} {Q : VK} (E : XK) (hnx : ∀ e s, X.xe e s → False) (F : FnOk X.prog X.w X.K X.mg X.base (CX1 X.prog X.w) k f fd ps sp) (hr : Room k X.A) (hg : Gl X x) (hm : X.mg x = some (.ref f)) (hk : PySem.W.keepIn X.K (.ref f) = true) (hb : Binds X.K fd ps [])
    (ha : PA X (e :: es) t) (I : Inv X pins σ H s) (h : t σ H fun vs H1 => sp vs H1 Q E) (hdb : (x == ("__debug__" : Str)) = false := by decide) (he : starEach (e :: es) X.env = (false, eval e X.env) :: starEach es X.env := by rfl) (hpl : (backTo pos (starEach es X.env)).any (·.1) = false := by rfl) :
    wpAny (model X.prog X.w) X.A (eval (.Call (.Name x p) (e :: es) [] pos) X.env) (EP X pins σ Q) (Came X pins σ E) s := by
  refine wpAny_Call_Name_kw (ld_glob I hg hm ?_ hdb)
  refine PySem.W.callWith_K (h₀ := X.base) I.ok.mod.kin hk (wpAny_mono (ha pos pins s σ H _ I h) (fun us s1 ⟨vs, H1, I1, r, q⟩ => ⟨I1.kIn, ?_⟩) fun e s z => (hnx e s z).elim) he hpl
  have r2 : Vals vs (us ++ []) := by simpa using r
  have hl : (us ++ []).length = ps.length := by rw [← r2.length]; exact F.len _ _ _ _ q
  refine wpAny_call (codeAny_mono (F.run X.A X.stack s1 H1 ⟨us, []⟩ (us ++ []) vs Q E hr I1.env0 (hb s1 us I1.kIn hl) r2 q) fun r s' hq => ?_)
  cases r with
  | error e => exact ⟨H1, s1, I1, hq⟩
  | ok fl =>
    cases fl with
    | ret u => exact I1.after hq
    | next => exact False.elim hq
    | brk => exact False.elim hq
    | cont => exact False.elim hq
def tCatch (K : PySem.W.Frag) (cv : Value) (i : Nat) (E : XK) (th : TS) : TS := fun D σ _ => ∀ C H2, E (.ref C) none H2 → PySem.W.exmOne K (.ref C) cv = some true ∧ ∀ x, H2 x = none →
  th { nx := fun σ' H' => D.nx (σ'.set i none) H', rt := D.rt, bk := fun σ' H' => D.bk (σ'.set i none) H', ct := fun σ' H' => D.ct (σ'.set i none) H' } (σ.set i (some (.ref x))) (upd H2 x (.ext (XO x C)))
theorem xo_type {M : Model} {a C : Addr} {h : Heap} (z : XO a C h) : PySem.W.Looks M h (typeOf (.ref a)) (.ref C) := by
  obtain ⟨o, vs, hx, hc, _⟩ := z
  intro A Q E s k q
  unfold typeOf
  refine wpAny_bind (wpAny_loadPart (k _ _ hx) ?_)
  rw [hc]
  exact wpAny_pure q
theorem catch_ok {pins : List (Addr × Obj)} {s' : Shared} {σ : St} {H : Hp} {D : Ends} {E : XK} {i : Nat} {n cn : Str} {cv e : Value} {np hpos : Pos} {b₀ : Stmt} {suite : List Stmt} {th : TS} (hN : X.N.Nodup) (hi : X.N[i]? = some n) (hkn : X.env.kindOf n = some .local) (hg : Gl X cn) (hm : X.mg cn = some cv)
    (hst : X.stack = X.env :: X.outer) (hf : X.env.frame = some X.env.locals) (hs : ∀ x, PSs (X.caught x) (b₀ :: suite) th) (hc : Came X pins σ E e s') (h : tCatch X.K cv i E th D σ H) (hdb : (cn == ("__debug__" : Str)) = false := by decide) :
    wpAny (model X.prog X.w) X.A (noteFrame e X.env) (fun _ s₂ => wpAny (model X.prog X.w) X.A (setFlight e none) (fun _ s₃ => wpAny (model X.prog X.w) X.A (handleBy e X.env [.ExceptHandler (some (.Name cn np)) (some n) (b₀ :: suite) hpos]) (SP X pins D) X.xe s₃) X.xe s₂) X.xe s' := by
  obtain ⟨H1, s1, I, x, T, C, H', rfl, F, q⟩ := hc
  obtain ⟨hC, hth⟩ := h C H' q
  obtain ⟨oe, vs, oT, ts, a0, he, hcl, h0, hd, h1, hTx, hT, hdT, h3⟩ := F.tr
  have ff : s'.heap.FunFrames X.base X.stack := funs_un I.stack (fun b hb => ⟨hb, I.stkFree b hb⟩) F.un
  have fl : Heap.FlyingW (PySem.W.hideAll s'.heap (frs X.stack ++ [x, T])) X.stack x (.ref C) a0 s'.heap :=
    ⟨fun b o e => PySem.W.of_hideAll _ e, PySem.W.hideAll_none _ (by simp), funs_hid ff fun b hb => List.mem_append_left _ hb, oe, vs, T, oT, ts, he, ⟨hcl, h0⟩, hd, h1, PySem.W.hideAll_none _ (by simp), hTx, hT, hdT, h3⟩
  have fl' := fl
  rw [hst] at fl'
  have hfr : X.A.frames = some (X.env :: X.outer) := by rw [I.ok.frames, hst]
  refine wpAny_looks_onW hfr hf fl' fun h4 held up4 => ?_
  refine wpAny_landsW held fun h5 fl5 up5 => ?_
  have I5 := landed (a0 := a0) (h5 := h5) I F (by rw [hst]; exact fl5) (up4.trans up5)
  refine wpAny_handleBy_cons (codeAny_handlers_test (ld_glob (X := X.caught x) I5.caught hg hm ?_ hdb)) (by intro q; cases q)
  have hx5 : XO x C h5 := (I5.hok x _ upd_same).1
  refine (PySem.W.exm_one (M := model X.prog X.w) (h := h5) I5.kIn (xo_type hx5) hC).here ?_
  refine codeAny_handlers_suite_as ?_
  refine lands_againW fl5 fun h6 fl6 up6 => ?_
  have I6 := landed (a0 := a0) (h5 := h6) I F (by rw [hst]; exact fl6) ((up4.trans up5).trans up6)
  refine store_ok (X := X.caught x) (v := .ref x) I6.caught hN hi (.inl hkn) rfl (fun s7 I7 => ?_) (.inr hkn)
  refine wpAny_mono (hs x pins s7 _ _ _ I7 (hth x F.fx)) (fun fw s8 h8 => ?_) fun _ _ z => z.elim
  cases fw with
  | next => obtain ⟨σ', H9, I9, q9⟩ := h8; exact gone_ok (I9.uncaught I.ok) hN hi hkn fun s' I' => ⟨_, H9, I', q9⟩
  | brk => obtain ⟨σ', H9, I9, q9⟩ := h8; exact gone_ok (I9.uncaught I.ok) hN hi hkn fun s' I' => ⟨_, H9, I', q9⟩
  | cont => obtain ⟨σ', H9, I9, q9⟩ := h8; exact gone_ok (I9.uncaught I.ok) hN hi hkn fun s' I' => ⟨_, H9, I', q9⟩
  | ret u => obtain ⟨v, σ', H9, I9, r9, q9⟩ := h8; exact gone_ok (I9.uncaught I.ok) hN hi hkn fun s' I' => ⟨v, _, H9, I', r9, q9⟩
def tTryE (K : PySem.W.Frag) (sp : Sp) (t : TA) (cv : Value) (i : Nat) (th : TS) : TS := fun D σ H => ∃ E : XK, (t σ H fun vs H1 => sp vs H1 (fun _ H2 => D.nx σ H2) E) ∧ tCatch K cv i E th D σ H
theorem ps_tryE {i : Nat} {n cn : Str} {cv : Value} {np hpos epos tpos : Pos} {b₀ : Stmt} {suite : List Stmt} {th : TS} (hnx : ∀ e s, X.xe e s → False) (F : FnOk X.prog X.w X.K X.mg X.base (CX1 X.prog X.w) k f fd ps sp) (hr : Room k X.A) (hgf : Gl X x) (hmf : X.mg x = some (.ref f)) (hk : PySem.W.keepIn X.K (.ref f) = true) (hb : Binds X.K fd ps [])
    (ha : PA X (e :: es) t) (hN : X.N.Nodup) (hi : X.N[i]? = some n) (hkn : X.env.kindOf n = some .local) (hg : Gl X cn) (hm : X.mg cn = some cv)
    (hst : X.stack = X.env :: X.outer) (hf : X.env.frame = some X.env.locals) (hs : ∀ x, PSs (X.caught x) (b₀ :: suite) th) (hdb : (x == ("__debug__" : Str)) = false := by decide) (hdc : (cn == ("__debug__" : Str)) = false := by decide)
    (he : starEach (e :: es) X.env = (false, eval e X.env) :: starEach es X.env := by rfl) (hpl : (backTo pos (starEach es X.env)).any (·.1) = false := by rfl) (hsw : swapsWith (.Call (.Name x p) (e :: es) [] pos) none epos.line X.env = pure false := by rfl) :
    PS X (.Try [.Expr (.Call (.Name x p) (e :: es) [] pos) epos] [.ExceptHandler (some (.Name cn np)) (some n) (b₀ :: suite) hpos] [] [] tpos) (tTryE X.K sp t cv i th) := by
  intro pins s σ H D I h
  obtain ⟨E, h1, h2⟩ := h
  refine wpAny_Try_except (wpAny_execs_cons (wpAny_Expr_any (wpAny_mono (px_call E hnx F hr hgf hmf hk hb ha I h1 hdb he hpl) (fun v s1 ⟨y, H1, I1, r1, q1⟩ => ?_) fun e s' hc => ?_) I.quiet hsw))
  · exact wpAny_execs_nil (wpAny_execs_nil ⟨σ, H1, I1, q1⟩)
  · exact catch_ok hN hi hkn hg hm hst hf hs hc h2 hdc
end
end L2
set_option Elab.async false
set_option linter.all false
set_option maxRecDepth 100000
namespace L2
open PySem PySem.Spec PyProof.Rows
def noInitE (es : Array DictEntry) : Bool := es.toList.all isStrKey && (nsFind es "__init__").isNone
theorem noInit_of {K : PySem.W.Frag} {N : Addr} {c : Value} {d : Option Addr} {es : Array DictEntry} {n : Nat} {sl : Array (Option Value)} (l : K.lookup N = some ⟨c, d, .dict es n, sl⟩) (h : noInitE es = true) : noInit K N = true := by
  unfold noInit
  rw [l]
  exact h
structure EA where
  ClueError : Addr
  NoFloor : Addr
  NoFilling : Addr
  NoRule : Addr
  NoPuzzle : Addr
  TooMany : Addr
  NotOne : Addr
  NoMove : Addr
  NoText : Addr
  NoName : Addr
  NoRow : Addr
  BadThought : Addr
abbrev Glb (K : PySem.W.Frag) (x : Str) (C : Addr) : Prop := PySem.W.nsIn K mainGlobals x = some (some (.ref C))
theorem Glb.eq {K : PySem.W.Frag} {x : Str} {C D : Addr} (h : Glb K x C) (h' : Glb K x D) : C = D := by
  have := h.symm.trans h'
  cases this
  rfl
structure Ref1 (K : PySem.W.Frag) (a : EA) (x : Str) (C : Addr) (os : List Addr) : Prop where
  g : Glb K x C
  xc : XC K C a.ClueError
  xis : XIs K C
  ve : PySem.W.kitOne K (.ref C) (.type "ValueError") = some true
  ex : PySem.W.exmOne K (.ref C) (.ref a.ClueError) = some true
  no : ∀ y ∈ os, PySem.W.kitOne K (.ref C) (.ref y) = some false
theorem kit_self {K : PySem.W.Frag} {C : Addr} : PySem.W.kitOne K (.ref C) (.ref C) = some true := by
  unfold PySem.W.kitOne
  rw [if_pos (by simp)]
theorem w_isX {K : PySem.W.Frag} {x C y : Addr} {b : Bool} {H : Hp} {Q : VK} (Z : XIs K C) (hx : H x = some (.ext (XO x C))) (hk : PySem.W.kitOne K (.ref C) (.ref y) = some b) (h : Q (.bl b) H) : kIsX K [.ref x, .ref y] H Q := ⟨x, C, _, _, b, rfl, hx, Z, rfl, hk, h⟩
theorem w_isXt {K : PySem.W.Frag} {x C : Addr} {n : String} {b : Bool} {H : Hp} {Q : VK} (Z : XIs K C) (hx : H x = some (.ext (XO x C))) (hk : PySem.W.kitOne K (.ref C) (.type n) = some b) (h : Q (.bl b) H) : kIsX K [.ref x, .ty n] H Q := ⟨x, C, _, _, b, rfl, hx, Z, rfl, hk, h⟩
theorem xc_of {K : PySem.W.Frag} {C D : Addr} {nm q : Str} {N ND : Addr} {bs : List Value} {hdct : Bool} {sn : List Str} {sub : List Value} {ab : Bool} {col : Option Bool} {dd : Option Addr} {k0 k1 k2 k3 k5 : Option Value} {c0 : Value} {dD : Option Addr} {cd : ClassData} {sl : Array (Option Value)}
    {cN cE : Value} {dN dE : Option Addr} {es es' : Array DictEntry} {n n' : Nat} {sN sE : Array (Option Value)}
    (l1 : K.lookup C = some (excClassObj nm q C N bs (.ref D :: VE) hdct sn sub ab col dd k0 k1 k2 k3 k5 "ValueError.__new__")) (m1 : K.lookup N = some ⟨cN, dN, .dict es n, sN⟩) (n1 : noInitE es = true)
    (l2 : K.lookup D = some ⟨c0, dD, .cls cd, sl⟩) (e2 : cd.ns = ND) (m2 : K.lookup ND = some ⟨cE, dE, .dict es' n', sE⟩) (n2 : noInitE es' = true) : XC K C D := .mk' l1 (noInit_of m1 n1) l2 (noInit_of (by rw [e2]; exact m2) n2)
theorem bt_ValueError : bootBuiltins "ValueError" = some (.type "ValueError") := by decide +kernel
structure Cal1 (P : Program) (w : World) (K : PySem.W.Frag) (mg : Str → Option Value) (base : Heap) (k : Nat) (x : Str) (ps : List Str) (sp : Sp) : Prop where
  ex : ∃ (f : Addr) (fd : FuncData), FnOk P w K mg base (CX1 P w) k f fd ps sp ∧ mg x = some (.ref f) ∧ PySem.W.keepIn K (.ref f) = true ∧ Binds K fd ps []
theorem pe_cal1 {X : Cx} {k n : Nat} {x : Str} {ps : List Str} {sp : Sp} {p pos : Pos} {e : Expr} {es : List Expr} {t : TA} {E : XK} (hE : Passes (CX1 X.prog X.w) X E) (C : Cal1 X.prog X.w X.K X.mg X.base k x ps sp) (hr : Room n X.A) (hk : k ≤ n) (hg : Gl X x) (ha : PA X (e :: es) t)
    (hdb : (x == ("__debug__" : Str)) = false := by decide) (he : starEach (e :: es) X.env = (false, eval e X.env) :: starEach es X.env := by rfl) (hpl : (backTo pos (starEach es X.env)).any (·.1) = false := by rfl) :
    PE X (.Call (.Name x p) (e :: es) [] pos) (tCall sp [] E t) := by
  obtain ⟨f, fd, F, hm, hkp, hb⟩ := C.ex
  exact pe_call F (hr.mono hk) hg hm hkp hb .nil hE ha hdb he hpl
section
variable {X : Cx} {k nn : Nat} {ps : List Str} {sp : Sp} {x : Str} {p pos : Pos} {e : Expr} {es : List Expr} {t : TA}
theorem ps_trye {i : Nat} {n cn : Str} {cv : Value} {np hpos epos tpos : Pos} {b₀ : Stmt} {suite : List Stmt} {th : TS} (hnx : ∀ e s, X.xe e s → False) (C : Cal1 X.prog X.w X.K X.mg X.base k x ps sp) (hr : Room nn X.A) (hk : k ≤ nn) (hgf : Gl X x)
    (ha : PA X (e :: es) t) (hN : X.N.Nodup) (hi : X.N[i]? = some n) (hkn : X.env.kindOf n = some .local) (hg : Gl X cn) (hm : X.mg cn = some cv)
    (hst : X.stack = X.env :: X.outer) (hf : X.env.frame = some X.env.locals) (hs : ∀ x, PSs (X.caught x) (b₀ :: suite) th) (hdb : (x == ("__debug__" : Str)) = false := by decide) (hdc : (cn == ("__debug__" : Str)) = false := by decide)
    (he : starEach (e :: es) X.env = (false, eval e X.env) :: starEach es X.env := by rfl) (hpl : (backTo pos (starEach es X.env)).any (·.1) = false := by rfl) (hsw : swapsWith (.Call (.Name x p) (e :: es) [] pos) none epos.line X.env = pure false := by rfl) :
    PS X (.Try [.Expr (.Call (.Name x p) (e :: es) [] pos) epos] [.ExceptHandler (some (.Name cn np)) (some n) (b₀ :: suite) hpos] [] [] tpos) (tTryE X.K sp t cv i th) := by
  obtain ⟨f, fd, F, hm', hkp, hb⟩ := C.ex
  exact ps_tryE hnx F (hr.mono hk) hgf hm' hkp hb ha hN hi hkn hg hm hst hf hs hdb hdc he hpl hsw
end
end L2
set_option Elab.async false
set_option linter.all false
set_option maxRecDepth 100000
namespace L2
open PySem PySem.Spec PyProof.Rows
def cMulB : R2
  | .int i, .int j, H, Q => IntMulOk i j ∧ Q (.int (i * j)) H
  | _, _, _, _ => False
end L2
namespace Att
open PySem PySem.W PySem.Calls PyProof.Rows
end Att
namespace L2
open PySem PySem.Spec PyProof.Rows
section
variable {K : PySem.W.Frag} {H : Hp} {Q : VK} {D : Ends} {σ : St}
theorem w_mulB {i j : Int} : cMulB (.int i) (.int j) H Q = (IntMulOk i j ∧ Q (.int (i * j)) H) := rfl
theorem w_pow {i j : Int} : cPow (.int i) (.int j) H Q = (CPow i j ∧ Q (.int (i ^ j.toNat)) H) := rfl
theorem w_raise {E : XK} {C : Addr} {t : TA} : tRaise E C t D σ H = t σ H fun vs H1 => vs.length ≤ sizeLine ∧ E (.ref C) none H1 := rfl
theorem w_any {p : Addr} {bs : List Bool} (hp : H p = some (.lst (bs.map V.bl))) (h : Q (.bl (bs.any id)) H) : kAny [.ref p] H Q := by
  show bnd (unL (H p)) _
  rw [hp]
  exact bnd_of (a := bs.map V.bl) rfl ⟨bs, rfl, h⟩
theorem w_addL {p q : Addr} {xs ys : List V} (hp : H p = some (.lst xs)) (hq : H q = some (.lst ys)) (hn : xs.length + ys.length ≤ 1000) (h : ∀ r, H r = none → Q (.ref r) (upd H r (.lst (xs ++ ys)))) : cAdd (.ref p) (.ref q) H Q := by
  show bnd (unM (H p)) _
  rw [hp]
  refine bnd_of (a := xs) rfl ?_
  rw [hq]
  exact bnd_of (a := ys) rfl ⟨Nat.le_of_lt (small1000 hn), h⟩
end
end L2
set_option Elab.async false
set_option linter.all false
set_option maxRecDepth 100000
namespace L2
open PySem PySem.Spec PyProof.Rows
end L2
set_option Elab.async false
set_option linter.all false
set_option maxRecDepth 100000
namespace L2
open PySem PySem.Spec PyProof.Rows
def cBitI (g : Int → Int → Int) : R2
  | .int i, .int j, H, Q => Q (.int (g i j)) H
  | _, _, _, _ => False
def cShr : R2
  | .int i, .int j, H, Q => 0 ≤ j ∧ Q (.int (i / 2 ^ j.toNat)) H
  | _, _, _, _ => False
section
variable {H : Hp} {Q : VK} {i j : Int}
theorem w_bitI {g : Int → Int → Int} : cBitI g (.int i) (.int j) H Q = Q (.int (g i j)) H := rfl
theorem w_shr : cShr (.int i) (.int j) H Q = (0 ≤ j ∧ Q (.int (i / 2 ^ j.toNat)) H) := rfl
end
end L2
set_option Elab.async false
set_option linter.all false
set_option maxRecDepth 100000
namespace L2
open PySem PySem.Spec PyProof.Rows
section
variable {X : Cx}
def kInt : List V → Hp → VK → Prop
  | [.int i], H, Q => Q (.int i) H
  | [.bl k], H, Q => Q (.int (if k then 1 else 0)) H
  | _, _, _ => False
def kBitLen : V → List V → Hp → VK → Prop
  | .int i, [], H, Q => Q (.int (Builtin.Int.intBits i : Nat)) H
  | _, _, _, _ => False
def cRepL : R2
  | .ref l, .int k, H, Q => bnd (unM (H l)) fun xs => -(2 ^ 63) ≤ k ∧ k < 2 ^ 63 ∧ xs.length * k.toNat ≤ sizeLine ∧ ∀ p, H p = none → Q (.ref p) (upd H p (.lst (List.replicate k.toNat xs).flatten))
  | _, _, _, _ => False
theorem op_cRepL : OpR X (binaryOp .Mult) cRepL := by
  intro pins s σ H x y v u Q I rx ry h
  unfold cRepL at h
  split at h
  · obtain ⟨xs, e, h1, h2, h3, q⟩ := bnd_ex h
    exact op_rep pins s σ H _ _ v u Q I rx ry ⟨_, _, xs, rfl, rfl, unM_ex e, h1, h2, h3, q⟩
  · exact h.elim
def kAll : List V → Hp → VK → Prop
  | [.ref p], H, Q => bnd (unL (H p)) fun ys => ∃ bs : List Bool, ys = bs.map V.bl ∧ Q (.bl (bs.all id)) H
  | _, _, _ => False
theorem all_range (bs : List Bool) : (List.range bs.length).all (fun i => bs.getD i false) = bs.all id := by
  rw [Bool.eq_iff_iff, List.all_eq_true, List.all_eq_true]
  constructor
  · intro h b hb
    obtain ⟨i, hi, e⟩ := List.mem_iff_getElem.mp hb
    have := h i (List.mem_range.mpr hi)
    rw [List.getD, List.getElem?_eq_getElem hi, e] at this
    exact this
  · intro h i hi
    have hi' : i < bs.length := List.mem_range.mp hi
    have := h bs[i] (List.getElem_mem hi')
    simpa [List.getD, hi'] using this
theorem bt_all : bootBuiltins "all" = some (.builtin "all") := by decide +kernel
theorem call_kAll (hc : X.calm = true) : CallR X (.builtin "all") kAll := by
  intro pins s σ H xs us Q I r h
  unfold kAll at h
  split at h
  · rename_i p
    obtain ⟨ys, e, bs, rfl, q⟩ := bnd_ex h
    obtain ⟨u, rfl, ru⟩ := vals1 r
    cases ru
    obtain ⟨its, rv, pl, hz⟩ := I.list (unL_sq e)
    have hl := rv.length
    rw [List.length_map] at hl
    have hlt : p < s.heap.objs.size := by
      obtain ⟨o, h1, _⟩ := pl.isList
      exact Heap.lt_size h1
    refine call_all_walkS (wpAny_pyIter_list pl.isList ?_)
    refine ⟨s.heap.objs.size, _, _, _, its.toArray.size, _, _, fun i => bs.getD i false, rfl, (Walks.list (A := X.A.in1) (I.ok.hd hc) s.heap.objs.size p (Nat.ne_of_lt hlt) its.toArray).toS, ⟨⟨_, Heap.get?_push_size _ rfl, rfl, rfl⟩, pl.isList.push _⟩, ?_, fun s' hm => ?_⟩
    · intro i v s1 Q1 E1 hP hQ
      have hv : its[i]? = some v := by simpa using hP
      obtain ⟨x, hx, rx⟩ := rv.get' hv
      obtain ⟨b, hb, rfl⟩ : ∃ b, bs[i]? = some b ∧ V.bl b = x := by simpa using hx
      cases rx
      refine wpAny_truthy_bool ?_
      have e3 : bs.getD i false = b := by simp [List.getD, hb]
      rw [← e3]
      exact hQ
    · refine ⟨.bl _, H, I.walked (l := p) hm, ?_, q⟩
      have e2 : its.toArray.size = bs.length := by rw [List.size_toArray]; exact hl.symm
      rw [e2, all_range]
      rfl
  · exact h.elim
def Itd (hi : Int) (n : Nat) : It := ⟨fun i _ => i < n, fun i H x H' => H' = H ∧ x = .int (hi - i), fun i _ => n ≤ i⟩
def iRngD (ta : TA) : TI := fun σ H R => ta σ H fun vs H1 => ∃ i j : Int, vs = [.int i, .int j, .int (-1)] ∧ (-(2 ^ 60) ≤ i ∧ i < 2 ^ 60 ∧ -(2 ^ 60) ≤ j ∧ j < 2 ^ 60) ∧ R (Itd i (i - j).toNat) H1
end
section
variable {K : PySem.W.Frag} {g : TG} {tb : TS} {D : Ends} {σ : St} {H : Hp} {ta : TA} {Q : VK}
theorem w_intB {k : Bool} : kInt [.bl k] H Q = Q (.int (if k then 1 else 0)) H := rfl
theorem w_intI {i : Int} : kInt [.int i] H Q = Q (.int i) H := rfl
theorem w_bitlen {i : Int} : kBitLen (.int i) [] H Q = Q (.int (Builtin.Int.intBits i : Nat)) H := rfl
theorem w_all {p : Addr} {bs : List Bool} (hp : H p = some (.lst (bs.map V.bl))) (h : Q (.bl (bs.all id)) H) : kAll [.ref p] H Q := by
  show bnd (unL (H p)) _
  rw [hp]
  exact bnd_of (a := bs.map V.bl) rfl ⟨bs, rfl, h⟩
theorem w_repL {p : Addr} {xs : List V} {k : Int} (hp : H p = some (.lst xs)) (h0 : 0 ≤ k) (h1 : k ≤ 1000) (hn : xs.length ≤ 1) (h : ∀ l, H l = none → Q (.ref l) (upd H l (.lst (List.replicate k.toNat xs).flatten))) : cRepL (.ref p) (.int k) H Q := by
  show bnd (unM (H p)) _
  rw [hp]
  refine bnd_of (a := xs) rfl ⟨by omega, by omega, ?_, h⟩
  refine Nat.le_of_lt (small1000 (Nat.le_trans (Nat.mul_le_mul_right _ hn) ?_))
  omega
theorem w_forRD : tFor (iRngD ta) g tb D σ H = ta σ H fun vs H1 => ∃ i j : Int, vs = [.int i, .int j, .int (-1)] ∧ (-(2 ^ 60) ≤ i ∧ i < 2 ^ 60 ∧ -(2 ^ 60) ≤ j ∧ j < 2 ^ 60) ∧ LoopR (Itd i (i - j).toNat) g tb D σ H1 := rfl
end
end L2
set_option Elab.async false
set_option linter.all false
set_option maxRecDepth 100000
namespace L2
open PySem PySem.Spec PyProof.Rows
section
variable {X : Cx}
def Ite (K : PySem.W.Frag) (a : Addr) : It :=
  ⟨fun i H => ∃ xs x, SqL K H a xs ∧ xs[i]? = some x,
   fun i H v H' => ∃ T x, v = .ref T ∧ H T = none ∧ H' = upd H T (.tup [.int i, x]) ∧ ∀ xs, SqL K H a xs → xs[i]? = some x,
   fun i H => ∃ xs, SqL K H a xs ∧ xs.length ≤ i⟩
def ESt (a e it : Addr) (i : Nat) (h : Heap) : Prop := (∃ old, IsEnum h e it i old) ∧ h.IsListIter it a i
theorem turn_enum {P : Program} {w : World} {K : PySem.W.Frag} {es : List Expr} {x1 : Nat} {pos : Pos} (a e it : Addr) :
    Turn P w K (.Tuple es x1 pos) (Ite K a) [e, it] e (ESt a e it) where
  mem := by simp
  obj := fun i h st c hc => by
    obtain ⟨⟨old, he⟩, ⟨o1, e1, c1, f1⟩⟩ := st
    simp only [List.mem_cons, List.not_mem_nil, or_false] at hc
    rcases hc with rfl | rfl
    · exact ⟨_, he, fun v z => by have z' : Data.fields _ = Data.cell v := z; cases z'⟩
    · exact ⟨_, e1, fun v z => by rw [f1] at z; cases z⟩
  keep := fun i h h' st k => by
    obtain ⟨⟨old, he⟩, h1⟩ := st
    exact ⟨⟨old, k e (by simp) _ he⟩, h1.at fun o q => k it (by simp) o q⟩
  item := by
    intro X hP hw hK hc i pins s σ H E I hf st hg
    subst hP hw hK
    obtain ⟨xs, x, hq1, hx⟩ := hg
    obtain ⟨its1, rv1, p1, hz1⟩ := I.list hq1
    obtain ⟨u1, hu1, ru1⟩ := rv1.get hx
    obtain ⟨⟨old, he⟩, ⟨o1, e1, c1, f1⟩⟩ := id st
    have hne : e ≠ it := ne_cls he e1 rfl c1 (by decide)
    refine wpAny_pyNext_enum_item he ⟨o1, e1, c1, f1⟩ p1.isList (x := u1) (by simpa using hu1) hne fun h' a1 a2 a3 a4 hk => ?_
    refine ⟨_, rfl, wpAny_letOwnedTupleGo_enum a1 fun h2 hz2 sb => ?_⟩
    have hT : H s.heap.objs.size = none := I.fresh
    have lt : ∀ {c o}, s.heap.get? c = some o → c ≠ s.heap.objs.size := fun e => Nat.ne_of_lt (Heap.lt_size e)
    have kp : ∀ c o, c ∉ [e, it] → s.heap.get? c = some o → h2.get? c = some o := fun c o hc q => by
      simp only [List.mem_cons, List.not_mem_nil, or_false, not_or] at hc
      exact sb.extBut _ _ hc.1 (hk c o hc.1 hc.2 q)
    have hTe : s.heap.objs.size ≠ e := (lt he).symm
    have gT : h2.get? s.heap.objs.size = some { cls := .type "tuple", data := .seq #[.int i s.toks, u1] } := sb.extBut _ _ hTe a3
    have nH : ∀ c ∈ [e, it], H c = none := fun c hc => (hf c hc).1
    refine ⟨.ref s.heap.objs.size, upd H s.heap.objs.size (.tup [.int i, x]), I.call' (s' := { s with heap := h2, toks := s.toks + 1 }) (ch := [e, it]) rfl ⟨fun c o e n _ hx => kp c o hx e, fun c o e n _ hx => ⟨o.slots, kp c o hx e⟩, fun c o e n _ => by rw [upd_ne (lt e)]; exact n, fun c o e hx => ⟨o, kp c o hx e⟩, fun c xs e => by rw [upd_ne (ne_of_none e hT)]; exact e, fun c o u e => by rw [upd_ne (ne_of_none e hT)]; exact e, fun c ps e => ⟨#[], by rw [upd_ne (ne_of_none e hT), e]; simp⟩⟩ ?_ I.bare ?_, rfl, ⟨_, x, rfl, hT, rfl, fun zs hz' => by rw [I.list_inj hz' hq1]; exact hx⟩, ?_, ?_⟩
    · intro c ob e
      by_cases hb : c = s.heap.objs.size
      · subst hb
        rw [upd_same] at e
        cases e
        exact ⟨by show (2 : Nat) ≤ sizeLine; exact Nat.le_of_lt (small1000 (by decide)), [.int i s.toks, u1], .cons ⟨_, rfl⟩ (.cons ru1 .nil), ⟨_, gT, rfl, _, rfl⟩⟩
      · rw [upd_ne hb] at e
        refine (I.hok c ob e).stay (fun d w' hd g => kp d w' ?_ g) (fun d g => by rw [upd_ne (ne_of_none g hT)]; exact g) fun d xs g => by rw [upd_ne (ne_of_none g hT)]; exact g
        intro hm
        rcases hd with rfl | hd
        · rw [nH _ hm] at e; cases e
        · rw [nH _ hm] at hd; cases hd
    · intro c hc
      obtain ⟨f0, f1, f2, f3, f4, f5⟩ := hf c hc
      exact ⟨f3, f1, f4, f5⟩
    · exact ⟨⟨_, hz2⟩, a2.extBut sb.extBut hne.symm⟩
    · intro c hc
      obtain ⟨o, q⟩ : ∃ o, s.heap.get? c = some o := by
        simp only [List.mem_cons, List.not_mem_nil, or_false] at hc
        rcases hc with rfl | rfl
        · exact ⟨_, he⟩
        · exact ⟨_, e1⟩
      rw [upd_ne (lt q)]
      exact (hf c hc).1
  done := by
    intro X hP hw hK hc i pins s σ H E I hf st hg
    subst hP hw hK
    obtain ⟨xs, hq1, hx⟩ := hg
    obtain ⟨its1, rv1, p1, hz1⟩ := I.list hq1
    have hl1 := rv1.length
    obtain ⟨⟨old, he⟩, ⟨o1, e1, c1, f1⟩⟩ := id st
    have hend : its1.toArray[i]? = none := by simp; omega
    obtain ⟨f0, f1', f2, f3, f4, f5⟩ := hf it (by simp)
    exact wpAny_pyNext_enum_end (I.ok.hd hc) he ⟨o1, e1, c1, f1⟩ p1.isList hend fun h' eb => ⟨rfl, I.turned (t' := s.toks) (fun b o hb e => eb b o hb e) f0 f1' f3 f4 f5⟩
  self := fun _ _ _ _ _ st h => by
    obtain ⟨⟨old, he⟩, _⟩ := st
    exact wpAny_pyIter_enum he h
def iEnum (K : PySem.W.Frag) (ta : TA) : TI := fun σ H R => ta σ H fun vs H1 => ∃ a, vs = [.ref a] ∧ (∃ xs, SqL K H1 a xs) ∧ R (Ite K a) H1
theorem bt_enumerate : bootBuiltins "enumerate" = some (.type "enumerate") := by decide +kernel
theorem pi_enum {es : List Expr} {x1 : Nat} {tpos : Pos} {e1 : Expr} {ta : TA} {p pos : Pos} (hg : Gl X "enumerate") (hm : X.mg "enumerate" = none) (ha : PA X [e1] ta) (hs : starEach [e1] X.env = [(false, eval e1 X.env)] := by rfl) :
    PI X (.Tuple es x1 tpos) (.Call (.Name "enumerate" p) [e1] [] pos) (iEnum X.K ta) := by
  intro pins s σ H R I h
  refine Call_ (ld_blt I hg hm bt_enumerate (PyProof.Rows.callWith_type1 (thn (ha pos pins s σ H _ I h) fun us s1 ⟨vs, H1, I1, r1, q1⟩ => ?_) hs rfl))
  obtain ⟨a, rfl, ⟨xs, hq1⟩, q⟩ := q1
  obtain ⟨u1, rfl, ru1⟩ := vals1 r1
  cases ru1
  obtain ⟨its1, rv1, p1, hz1⟩ := I1.list hq1
  refine call_enumerate_list p1.isList fun h' a1 a2 a3 hk => ?_
  refine wpAny_pyIter_enum a1 ?_
  have I2 : Inv X pins σ H1 { s1 with heap := h', toks := s1.toks } := I1.kept hk
  refine ⟨s1.heap.objs.size + 1, [s1.heap.objs.size + 1, s1.heap.objs.size], ESt a (s1.heap.objs.size + 1) s1.heap.objs.size, Ite X.K a, H1, rfl, I2, turn_enum a (s1.heap.objs.size + 1) s1.heap.objs.size, ⟨⟨_, a1⟩, a2⟩, fun c hc => ?_, q⟩
  have hge : s1.heap.objs.size ≤ c := by
    simp only [List.mem_cons, List.not_mem_nil, or_false] at hc
    rcases hc with rfl | rfl <;> omega
  exact I1.fpOk hge (I1.hok.fresh hge)
end
section
variable {K : PySem.W.Frag} {g : TG} {tb : TS} {D : Ends} {σ : St} {H : Hp} {ta : TA} {Q : VK} {ix : List (Option Nat)} {tt : TT} {te : TE} {k : Nat}
theorem w_forE : tFor (iEnum K ta) g tb D σ H = ta σ H fun vs H1 => ∃ a, vs = [.ref a] ∧ (∃ xs, SqL K H1 a xs) ∧ LoopR (Ite K a) g tb D σ H1 := rfl
theorem w_compE : tComp ix (iEnum K ta) g tt te σ H Q = ta σ H fun vs H1 => ∃ a, vs = [.ref a] ∧ (∃ xs, SqL K H1 a xs) ∧ CompR (Ite K a) g tt te (fun l H' => Q (.ref l) H') (subσ ix σ) H1 := rfl
theorem w_scompE : sComp k ix (iEnum K ta) g tt te D σ H = ta σ H fun vs H1 => ∃ a, vs = [.ref a] ∧ (∃ xs, SqL K H1 a xs) ∧ CompR (Ite K a) g tt te (fun l H' => D.nx (σ.set k (some (.ref l))) H') (subσ ix σ) H1 := rfl
end
end L2
set_option Elab.async false
set_option linter.all false
set_option maxRecDepth 100000
namespace L2
open PySem PySem.Spec PyProof.Rows
end L2
set_option Elab.async false
set_option linter.all false
set_option maxRecDepth 100000
namespace L2
open PySem PySem.Spec PyProof.Rows
end L2
set_option Elab.async false
set_option linter.all false
set_option maxRecDepth 100000
namespace L2
open PySem PySem.Spec PyProof.Rows
def rngL (i j : Int) : List Int := (List.range (j - i).toNat).map fun (k : Nat) => i + (k : Int)
theorem rngL_len (i j : Int) : (rngL i j).length = (j - i).toNat := by unfold rngL; simp
theorem vals_of_get : ∀ {xs : List V} {us : List Value}, xs.length = us.length → (∀ (i : Nat) x u, xs[i]? = some x → us[i]? = some u → RelV x u) → Vals xs us
  | [], [], _, _ => .nil
  | [], _ :: _, h, _ => by simp at h
  | _ :: _, [], h, _ => by simp at h
  | x :: xs, u :: us, h, f => .cons (f 0 x u rfl rfl) (vals_of_get (by simpa using h) fun i y e h1 h2 => f (i + 1) y e (by simpa using h1) (by simpa using h2))
theorem vals_rng {i j : Int} {acc : Array Value} (h : ItemsOf (fun k v => ∃ t, v = .int (i + k * 1) t) acc (j - i).toNat) : Vals ((rngL i j).map V.int) acc.toList := by
  refine vals_of_get (by rw [List.length_map, rngL_len, Array.length_toList]; exact h.1.symm) fun k x u hx hu => ?_
  obtain ⟨t, rfl⟩ := h.2 k u (by simpa using hu)
  unfold rngL at hx
  rw [List.map_map, List.getElem?_map] at hx
  by_cases hk : k < (j - i).toNat
  · rw [List.getElem?_range hk] at hx
    cases hx
    exact ⟨t, by rw [Int.mul_one]⟩
  · rw [List.getElem?_eq_none (by simpa using hk)] at hx
    cases hx
section
variable {X : Cx}
def tListRng1 (ta : TA) : TE := fun σ H Q => ta σ H fun vs H1 => ∃ j : Int, vs = [.int j] ∧ -(2 ^ 60) ≤ j ∧ j ≤ 1000 ∧ ∀ l, H1 l = none → Q (.ref l) (upd H1 l (.lst ((rngL 0 j).map V.int)))
def tListRng2 (ta : TA) : TE := fun σ H Q => ta σ H fun vs H1 => ∃ i j : Int, vs = [.int i, .int j] ∧ (0 ≤ i ∧ i ≤ 1000 ∧ -(2 ^ 60) ≤ j ∧ j ≤ 1000) ∧ ∀ l, H1 l = none → Q (.ref l) (upd H1 l (.lst ((rngL i j).map V.int)))
theorem list_rng {pins : List (Addr × Obj)} {σ : St} {H1 : Hp} {s1 : Shared} {Q : VK} {i j : Int} {t u v : Tok} {tk : Nat} {A : Around} {E : Value → Shared → Prop} (hh : A.handled = none) (I1 : Inv X pins σ H1 s1) (h1 : 0 ≤ i) (h2 : i ≤ 1000) (h3 : -(2 ^ 60) ≤ j) (h4 : j ≤ 1000)
    (q : ∀ l, H1 l = none → Q (.ref l) (upd H1 l (.lst ((rngL i j).map V.int)))) :
    wpAny (model X.prog X.w) A (call (.type "list") [.ref s1.heap.objs.size]) (EP X pins σ Q) E { s1 with heap := s1.heap.push { cls := .type "range", data := .fields #[.int i t, .int j u, .int 1 v] }, toks := tk } := by
  have I2 : Inv X pins σ H1 { s1 with heap := s1.heap.push { cls := .type "range", data := .fields #[.int i t, .int j u, .int 1 v] }, toks := tk } := I1.kept fun b o e => Heap.get?_push_of_some _ e
  refine call_list_range (n := (j - i).toNat) hh (IsRange.new ..) (small_one (by omega) (by omega) (by omega) (by omega)) (by rw [rangeSize_one]; split <;> omega) (by omega) fun h' tk' acc' c' old hS' hacc => ?_
  have hlen : ((rngL i j).map V.int).length ≤ sizeLine := by rw [List.length_map, rngL_len]; exact Nat.le_of_lt (small1000 (by omega))
  exact ⟨.ref _, _, I2.laid (t' := tk') (o := .lst ((rngL i j).map V.int)) old (Nat.le_refl _) ⟨hlen, acc'.toList, c', vals_rng hacc, hS'⟩, rfl, q _ (I2.hok.fresh (Nat.le_refl _))⟩
theorem pe_listrng2 {a b : Expr} {ta : TA} {p p2 pos pos2 : Pos} (hc : X.calm = true) (hgl : Gl X "list") (hgr : Gl X "range") (hl : X.mg "list" = none) (hr : X.mg "range" = none) (ha : PA X [a, b] ta)
    (hs1 : starEach [.Call (.Name "range" p2) [a, b] [] pos2] X.env = [(false, eval (.Call (.Name "range" p2) [a, b] [] pos2) X.env)] := by rfl) (hs : starEach [a, b] X.env = [(false, eval a X.env), (false, eval b X.env)] := by rfl) (hs2 : starEach [b] X.env = [(false, eval b X.env)] := by rfl) :
    PE X (.Call (.Name "list" p) [.Call (.Name "range" p2) [a, b] [] pos2] [] pos) (tListRng2 ta) := by
  intro pins s σ H Q I h
  refine wpAny_Call_Name_kw (ld_blt I hgl hl bt_list ?_ (by decide) (by decide))
  refine PyProof.Rows.callWith_type1 ?_ hs1 rfl
  rw [hs1]
  show wpAny _ _ (spliced [(false, eval (.Call (.Name "range" p2) [a, b] [] pos2) X.env)]) _ _ s
  refine Calls.spliced_cons ?_
  refine Call_ (ld_blt I hgr hr boot_range (PyProof.Rows.callWith_type1 (thn (ha pos2 pins s σ H _ I h) fun us s1 ⟨vs, H1, I1, r1, q1⟩ => ?_) (by rw [hs, hs2]) (by rw [hs2]; rfl)))
  obtain ⟨i, j, e, ⟨q1, q2, q3, q4⟩, q⟩ := q1
  subst e
  cases r1 with
  | cons r rr =>
    cases rr with
    | cons r' rr =>
      cases rr
      obtain ⟨t, rfl⟩ := r
      obtain ⟨t', rfl⟩ := r'
      refine call_range_2 ?_
      refine Calls.spliced_nil ?_
      exact list_rng (I.ok.hd hc) I1 q1 q2 q3 q4 q
end
section
variable {σ : St} {H : Hp} {Q : VK} {ta : TA}
theorem w_lrng1 : tListRng1 ta σ H Q = ta σ H fun vs H1 => ∃ j : Int, vs = [.int j] ∧ -(2 ^ 60) ≤ j ∧ j ≤ 1000 ∧ ∀ l, H1 l = none → Q (.ref l) (upd H1 l (.lst ((rngL 0 j).map V.int))) := rfl
theorem w_lrng2 : tListRng2 ta σ H Q = ta σ H fun vs H1 => ∃ i j : Int, vs = [.int i, .int j] ∧ (0 ≤ i ∧ i ≤ 1000 ∧ -(2 ^ 60) ≤ j ∧ j ≤ 1000) ∧ ∀ l, H1 l = none → Q (.ref l) (upd H1 l (.lst ((rngL i j).map V.int))) := rfl
end
end L2
set_option Elab.async false
set_option linter.all false
namespace L2
open PySem PySem.Builtin PySem.Builtin.Str
def tx (l : List Nat) : Str := ⟨l.toArray⟩
end L2
set_option Elab.async false
set_option linter.all false
namespace L2
end L2
set_option Elab.async false
set_option linter.all false
set_option maxRecDepth 100000
namespace L2
open PySem PySem.Spec PyProof.Rows
local macro_rules | `(tactic| walk_at "w") => `(tactic| (first | simp only [w_seq, w_next, w_asg, w_gname, w_var, w_c, w_op, w_ret, w_retN, w_drop, w_test, w_b, w_not, w_and, w_or, w_notV, w_andV, w_orV, w_nil, w_cons, w_cb, w_call, w_tup, w_lst, w_bm, w_bm0, w_true, w_dnew, w_dput, w_forL, w_forR1, w_forR2, w_compL, w_compR1, w_scompL, w_scompR1, w_add, w_sub, w_mul, w_div, w_mod, w_cmp, w_eqI, w_neI, w_eqB, w_neB, w_abs, w_min, w_sl, w_part, w_nopart, w_gsub, w_un, w_forS, w_compS, w_scompS, w_eqS, w_neS, w_lenS, w_addS, w_find,
  List.getElem?_cons_zero, List.getElem?_cons_succ, Option.some.injEq, exists_eq_left', exists_eq_left, List.set_cons_zero, List.set_cons_succ, bnd_some, V.int.injEq, V.bl.injEq, V.ref.injEq, V.str.injEq, List.append_nil, List.nil_append, List.cons_append] | dsimp only | skip))
theorem map_range_get {α : Type} (xs : List Int) (g : Int → α) : (List.range xs.length).map (fun i => g (xs.getD i 0)) = xs.map g := by
  have e : xs = (List.range xs.length).map fun i => xs.getD i 0 := by
    refine List.ext_getElem? fun i => ?_
    rw [List.getElem?_map]
    by_cases h : i < xs.length
    · rw [List.getElem?_range h, List.getElem?_eq_getElem h]
      simp [List.getD, h]
    · rw [List.getElem?_eq_none (by omega), List.getElem?_eq_none (by simpa using h)]; rfl
  conv => rhs; rw [e]
  rw [List.map_map]
  rfl
end L2
set_option Elab.async false
set_option linter.all false
set_option maxRecDepth 100000
namespace L2
open PySem PySem.Spec PyProof.Rows
abbrev rIsN : R2 := fun x y H Q => y = .non ∧ Q (.bl (decide (x = .non))) H
def kStr : List V → Hp → VK → Prop
  | [.int i], H, Q => i.natAbs.log2 < 1920 ∧ Q (.str (Str.ofString (toString i))) H
  | _, _, _ => False
section
variable {K : PySem.W.Frag} {H : Hp} {Q : VK}
theorem w_isN {x : V} : rIsN x .non H Q = Q (.bl (decide (x = .non))) H := by simp [rIsN]
theorem w_str {i : Int} : kStr [.int i] H Q = (i.natAbs.log2 < 1920 ∧ Q (.str (Str.ofString (toString i))) H) := rfl
end
end L2
set_option Elab.async false
set_option linter.all false
set_option maxRecDepth 100000
namespace L2
open PySem PySem.Spec PyProof.Rows
structure Bt2 (mg : Str → Option Value) : Prop extends Bt mg where
  all_ : mg "all" = none
  sum_ : mg "sum" = none
  enumerate_ : mg "enumerate" = none
section
variable {K : PySem.W.Frag} {H : Hp} {Q : VK} {D : Ends} {σ : St} {g : TG} {tb : TS} {ta : TA} {ix : List (Option Nat)} {tt : TT} {te tf : TE} {k : Nat}
theorem w_ifE : tIf tt te tf σ H Q = tt σ H fun c H1 => if c = true then te σ H1 Q else tf σ H1 Q := rfl
theorem w_compR2 : tComp ix (iRng2 ta) g tt te σ H Q = ta σ H fun vs H1 => ∃ i j : Int, vs = [.int i, .int j] ∧ (-(2 ^ 62) ≤ i ∧ i < 2 ^ 62 ∧ -(2 ^ 62) ≤ j ∧ j < 2 ^ 62) ∧ CompR (Itr i (j - i).toNat) g tt te (fun l H' => Q (.ref l) H') (subσ ix σ) H1 := rfl
theorem w_scompR2 : sComp k ix (iRng2 ta) g tt te D σ H = ta σ H fun vs H1 => ∃ i j : Int, vs = [.int i, .int j] ∧ (-(2 ^ 62) ≤ i ∧ i < 2 ^ 62 ∧ -(2 ^ 62) ≤ j ∧ j < 2 ^ 62) ∧ CompR (Itr i (j - i).toNat) g tt te (fun l H' => D.nx (σ.set k (some (.ref l))) H') (subσ ix σ) H1 := rfl
theorem isiE {x : V} {n t : String} {b : Bool} (hx : tyName H x = some t) (hn : tyKnown n = true) (hb : isTy t n = b) : kIsi [x, .ty n] H Q = Q (.bl b) H := by
  subst hb
  show (tyKnown n = true ∧ bnd (tyName H x) fun t => Q (.bl (isTy t n)) H) = _
  rw [hx]
  simp only [hn, true_and, bnd_some]
theorem w_isi_ii {i : Int} : kIsi [.int i, .ty "int"] H Q = Q (.bl true) H := isiE (t := "int") rfl (by decide) (by decide)
theorem w_isi_ib {i : Int} : kIsi [.int i, .ty "bool"] H Q = Q (.bl false) H := isiE (t := "int") rfl (by decide) (by decide)
theorem w_isi_is {i : Int} : kIsi [.int i, .ty "str"] H Q = Q (.bl false) H := isiE (t := "int") rfl (by decide) (by decide)
theorem w_isi_bb {i : Bool} : kIsi [.bl i, .ty "bool"] H Q = Q (.bl true) H := isiE (t := "bool") rfl (by decide) (by decide)
theorem w_isi_bi {i : Bool} : kIsi [.bl i, .ty "int"] H Q = Q (.bl true) H := isiE (t := "bool") rfl (by decide) (by decide)
theorem w_isi_ss {i : Str} : kIsi [.str i, .ty "str"] H Q = Q (.bl true) H := isiE (t := "str") rfl (by decide) (by decide)
theorem w_isi_bs {i : Bool} : kIsi [.bl i, .ty "str"] H Q = Q (.bl false) H := isiE (t := "bool") rfl (by decide) (by decide)
theorem w_iteT {A B : Prop} : (if true = true then A else B) = A := if_pos rfl
theorem w_iteF {A B : Prop} : (if false = true then A else B) = B := if_neg Bool.false_ne_true
theorem w_negE {i : Int} : rU (fun i => .int (-i)) (.int i) H Q = Q (.int (-i)) H := by
  refine propext ⟨?_, fun h => ⟨i, rfl, h⟩⟩
  rintro ⟨j, e, h⟩
  cases e
  exact h
theorem for_enum {a : Addr} {xs : List V} (Pv : Nat → St → Hp → Prop) (h0 : Pv 0 σ H) (hl : ∀ i σ H, i ≤ xs.length → Pv i σ H → SqL K H a xs)
    (hs : ∀ i x T σ H, xs[i]? = some x → Pv i σ H → H T = none → g (.ref T) σ (upd H T (.tup [.int i, x])) fun σ2 H2 => tb { D with nx := Pv (i + 1), ct := Pv (i + 1), bk := D.nx } σ2 H2) (hd : ∀ σ H, Pv xs.length σ H → D.nx σ H) :
    LoopR (Ite K a) g tb D σ H := by
  refine ⟨fun i m σ H => m = xs.length - i ∧ i ≤ xs.length ∧ Pv i σ H, ⟨xs.length, by simp, Nat.zero_le _, h0⟩, ?_⟩
  rintro i m σ H ⟨rfl, hi, p⟩
  have q1 := hl i σ H hi p
  by_cases hlt : i < xs.length
  · refine .inr ⟨⟨xs, xs[i], q1, by simp [hlt]⟩, Pv (i + 1), fun σ' H' p' => ⟨xs.length - (i + 1), by omega, rfl, hlt, p'⟩, fun v H' y => ?_⟩
    obtain ⟨T, x, rfl, hT, rfl, e1⟩ := y
    exact hs i x T σ H (e1 xs q1) p hT
  · have e : i = xs.length := by omega
    subst e
    exact .inl ⟨⟨xs, q1, Nat.le_refl _⟩, hd σ H p⟩
theorem ixT {p : Addr} {i : Int} {xs : List V} {v : V} (h : H p = some (.tup xs)) (e : atI xs i = some v) (q : Q v H) : cIx (.ref p) (.int i) H Q := by
  rw [w_ix h]; exact bnd_of e q
theorem ixL {p : Addr} {i : Int} {xs : List V} {v : V} (h : H p = some (.lst xs)) (e : atI xs i = some v) (q : Q v H) : cIx (.ref p) (.int i) H Q := by
  rw [w_ixL h]; exact bnd_of e q
theorem ixI {p : Addr} {i : Int} {ns : List Int} (h : H p = some (.lst (ns.map V.int))) (h0 : 0 ≤ i) (h1 : i < ns.length) (q : Q (.int (ns.getD i.toNat 0)) H) : cIx (.ref p) (.int i) H Q := ixL h (atI_ints h0 h1) q
end
end L2
set_option Elab.async false
set_option linter.all false
set_option maxRecDepth 100000
namespace L2
open PySem PySem.Spec PyProof.Rows
end L2
set_option Elab.async false
set_option linter.all false
set_option maxRecDepth 100000
namespace L2
open PySem PySem.Spec PyProof.Rows
end L2
set_option Elab.async false
set_option linter.all false
set_option maxRecDepth 100000
namespace L2
open PySem PySem.Spec PyProof.Rows
section
variable {X : Cx} {e : Expr} {te : TE} {p2 p3 p4 pos : Pos} {z0 : Nat}
def kPopAt : V → List V → Hp → VK → Prop
  | .ref l, [.int i], H, Q => bnd (unM (H l)) fun xs => 0 ≤ i ∧ i < xs.length ∧ bnd (xs[i.toNat]?) fun y => Q y (upd H l (.lst (xs.eraseIdx i.toNat)))
  | _, _, _, _ => False
theorem seqIx {i : Int} {n : Nat} (h0 : 0 ≤ i) (h1 : i < n) : seqIndex? i n = some i.toNat := by
  obtain ⟨k, rfl⟩ := Int.eq_ofNat_of_zero_le h0
  have hk : k < n := by omega
  unfold seqIndex?
  have hn : ¬ ((k : Int) < 0) := by omega
  simp [hk, hn]
theorem mt_kPopAt : MtR X "list.pop" kPopAt := by
  intro pins s σ H x vs v us Q I rx rv h
  unfold kPopAt at h
  split at h
  · obtain ⟨xs, e, h0, h1, h⟩ := bnd_ex h
    obtain ⟨y, ey, q⟩ := bnd_ex h
    have hz : xs.length ≤ sizeLine := (I.lstM (unM_ex e)).1
    have hs : (sizeLine : Int) < 2 ^ 63 := by decide
    exact mt_popAt pins s σ H _ _ v us Q I rx rv ⟨_, xs, _, _, y, rfl, rfl, unM_ex e, by omega, by omega, seqIx h0 h1, ey, q⟩
  · exact h.elim
end
section
variable {σ : St} {H : Hp} {Q : VK} {te : TE}
theorem w_popAt {l : Addr} {i : Int} {xs : List V} {y : V} (hl : H l = some (.lst xs)) (h0 : 0 ≤ i) (h1 : i < xs.length) (ey : xs[i.toNat]? = some y) (q : Q y (upd H l (.lst (xs.eraseIdx i.toNat)))) : kPopAt (.ref l) [.int i] H Q := by
  show bnd (unM (H l)) _
  rw [hl]
  exact bnd_of (a := xs) rfl ⟨h0, h1, bnd_of ey q⟩
end
end L2
set_option Elab.async false
set_option linter.all false
set_option maxRecDepth 100000
namespace L2
open PySem PySem.Spec PyProof.Rows
end L2
set_option Elab.async false
set_option linter.all false
set_option maxRecDepth 100000
namespace L2
open PySem PySem.Spec PyProof.Rows
local macro_rules | `(tactic| walk_at "w") => `(tactic| (first | simp only [w_seq, w_make, w_inG, w_lenset, w_revL, w_int2B, w_int2I, w_max, w_isN, w_notN, w_pow, if_true, if_false, Bool.false_eq_true, decide_true, decide_false, w_lrng1, w_lrng2, w_ifE, w_compR2, w_scompR2, w_forRD, w_forE, w_compE, w_scompE, w_intB, w_intI, w_bitlen, w_shr, w_isi_ii, w_isi_ib, w_isi_bb, w_isi_bi, w_isi_ss, w_isi_bs, w_isi_is, w_iteT, w_iteF, w_negE, w_bitI, w_str, Bool.not_true, Bool.not_false, w_next, w_asg, w_gname, w_var, w_c, w_op, w_ret, w_retN, w_drop, w_test, w_b, w_not, w_and, w_or, w_notV, w_andV, w_orV, w_nil, w_cons, w_cb, w_call, w_tup, w_lst, w_bm, w_bm0, w_true, w_dnew, w_dput, w_forL, w_forR1, w_forR2, w_compL, w_compR1, w_scompL, w_scompR1, w_add, w_sub, w_mul, w_div, w_mod, w_cmp, w_eqI, w_neI, w_eqB, w_neB, w_abs, w_min, w_sl, w_part, w_nopart, w_gsub, w_un, w_forS, w_compS, w_scompS, w_eqS, w_neS, w_lenS, w_addS, w_find,
  List.getElem?_cons_zero, List.getElem?_cons_succ, Option.some.injEq, exists_eq_left', exists_eq_left, List.set_cons_zero, List.set_cons_succ, bnd_some, V.int.injEq, V.bl.injEq, V.ref.injEq, V.str.injEq, List.append_nil, List.nil_append, List.cons_append] | dsimp only | skip))
end L2
set_option Elab.async false
set_option linter.all false
set_option maxRecDepth 100000
namespace L2
open PySem PySem.Spec PyProof.Rows
local macro_rules | `(tactic| walk_at "w") => `(tactic| (first | simp only [w_seq, if_true, if_false, Bool.false_eq_true, decide_true, decide_false, w_lrng1, w_lrng2, w_ifE, w_compR2, w_scompR2, w_forRD, w_forE, w_compE, w_scompE, w_intB, w_intI, w_bitlen, w_shr, w_isi_ii, w_isi_ib, w_isi_bb, w_isi_bi, w_isi_ss, w_isi_bs, w_isi_is, w_iteT, w_iteF, w_negE, w_bitI, w_str, Bool.not_true, Bool.not_false, w_next, w_asg, w_gname, w_var, w_c, w_op, w_ret, w_retN, w_drop, w_test, w_b, w_not, w_and, w_or, w_notV, w_andV, w_orV, w_nil, w_cons, w_cb, w_call, w_tup, w_lst, w_bm, w_bm0, w_true, w_dnew, w_dput, w_forL, w_forR1, w_forR2, w_compL, w_compR1, w_scompL, w_scompR1, w_add, w_sub, w_mul, w_div, w_mod, w_cmp, w_eqI, w_neI, w_eqB, w_neB, w_abs, w_min, w_sl, w_part, w_nopart, w_gsub, w_un, w_forS, w_compS, w_scompS, w_eqS, w_neS, w_lenS, w_addS, w_find,
  List.getElem?_cons_zero, List.getElem?_cons_succ, Option.some.injEq, exists_eq_left', exists_eq_left, List.set_cons_zero, List.set_cons_succ, bnd_some, V.int.injEq, V.bl.injEq, V.ref.injEq, V.str.injEq, List.append_nil, List.nil_append, List.cons_append] | dsimp only | skip))
def spJ (h w r c : Int) : Nat → (Int × Int) × (Int × Int)
  | 0 => ((r, c), (h, w))
  | j + 1 => (((spJ h w r c j).1.2, (spJ h w r c j).2.1 - 1 - (spJ h w r c j).1.1), ((spJ h w r c j).2.2, (spJ h w r c j).2.1))
theorem spJ_dim {h w r c : Int} (P : Int → Prop) (hh : P h) (hw : P w) : ∀ j, P (spJ h w r c j).2.1 ∧ P (spJ h w r c j).2.2
  | 0 => ⟨hh, hw⟩
  | j + 1 => ⟨(spJ_dim P hh hw j).2, (spJ_dim P hh hw j).1⟩
def mvC (h w m z : Int) : Int := (spJ h w (z / w) (if 4 ≤ m then w - 1 - z % w else z % w) (m % 4).toNat).1.1 * (spJ h w (z / w) (if 4 ≤ m then w - 1 - z % w else z % w) (m % 4).toNat).2.2 + (spJ h w (z / w) (if 4 ≤ m then w - 1 - z % w else z % w) (m % 4).toNat).1.2
def mvL (h w m : Int) : List Int := (List.range (h * w).toNat).map fun (i : Nat) => mvC h w m (i : Int)
def mvH (h w m : Int) : Int := if m % 2 = 1 then w else h
def mvW (h w m : Int) : Int := if m % 2 = 1 then h else w
theorem dimJ (h w r c : Int) : ∀ j : Nat, (spJ h w r c j).2 = if j % 2 = 1 then (w, h) else (h, w)
  | 0 => rfl
  | j + 1 => by
    show ((spJ h w r c j).2.2, (spJ h w r c j).2.1) = _
    rw [dimJ h w r c j]
    by_cases e : j % 2 = 1
    · rw [if_pos e, if_neg (by omega)]
    · rw [if_neg e, if_pos (by omega)]
def sp_is_whole (K : PySem.W.Frag) : Sp := fun vs H Q _ => ∃ i : Int, vs = [.int i] ∧ Q (.bl true) H
theorem sl_is_whole {K : PySem.W.Frag} {vs : List V} {H : Hp} {Q : VK} {E : XK} (h : sp_is_whole K vs H Q E) : vs.length = 1 := by
  obtain ⟨_, rfl, _⟩ := h; rfl
def rd_is_whole (K : PySem.W.Frag) : TS :=
  (tRet (tAndV (tCB kIsi (tCons (tVar 0) (tCons (tC (.ty "int")) tNil))) (tNotV (tCB kIsi (tCons (tVar 0) (tCons (tC (.ty "bool")) tNil))))))
theorem rk_is_whole {K : PySem.W.Frag} {vs : List V} {H : Hp} {Q : VK} {E : XK} (h : sp_is_whole K vs H Q E) : rd_is_whole K { nx := fun _ H' => Q .non H', rt := Q } (start ["value"] vs) H := by
  obtain ⟨i, rfl, q⟩ := h
  show rd_is_whole K _ [some (.int i)] H
  unfold rd_is_whole
  walk_at "w"
  exact q
def sp_turned_floor (K : PySem.W.Frag) : Sp := fun vs H Q _ => ∃ (a : Addr) (h w g : Int), vs = [.ref a] ∧ IsFl H a h w g ∧ ∀ p, H p = none → Q (.ref p) (upd H p (.tup [.int w, .int h, .int g]))
theorem sl_turned_floor {K : PySem.W.Frag} {vs : List V} {H : Hp} {Q : VK} {E : XK} (h : sp_turned_floor K vs H Q E) : vs.length = 1 := by
  obtain ⟨_, _, _, _, rfl, _⟩ := h; rfl
def rd_turned_floor (K : PySem.W.Frag) : TS :=
  (tRet (tTup (tCons (tOp cIx (tVar 0) (tC (.int 1))) (tCons (tOp cIx (tVar 0) (tC (.int 0))) (tCons (tOp cIx (tVar 0) (tC (.int 2))) tNil)))))
theorem rk_turned_floor {K : PySem.W.Frag} {vs : List V} {H : Hp} {Q : VK} {E : XK} (h : sp_turned_floor K vs H Q E) : rd_turned_floor K { nx := fun _ H' => Q .non H', rt := Q } (start ["floor"] vs) H := by
  obtain ⟨a, h, w, g, rfl, ha, q⟩ := h
  show rd_turned_floor K _ [some (.ref a)] H
  unfold rd_turned_floor
  walk_at "w"
  refine ixT ha (v := V.int w) rfl ?_
  walk_at "w"
  refine ixT ha (v := V.int h) rfl ?_
  walk_at "w"
  refine ixT ha (v := V.int g) rfl ?_
  walk_at "w"
  exact ⟨len_le (by show (3 : Nat) ≤ 1000; decide), q⟩
def sp_turned_spot (K : PySem.W.Frag) : Sp := fun vs H Q _ => ∃ (a s : Addr) (h w g r c : Int), vs = [.ref a, .ref s] ∧ IsFl H a h w g ∧ H s = some (.tup [.int r, .int c]) ∧ ∀ p, H p = none → Q (.ref p) (upd H p (.tup [.int c, .int (h - 1 - r)]))
theorem sl_turned_spot {K : PySem.W.Frag} {vs : List V} {H : Hp} {Q : VK} {E : XK} (h : sp_turned_spot K vs H Q E) : vs.length = 2 := by
  obtain ⟨_, _, _, _, _, _, _, rfl, _⟩ := h; rfl
def rd_turned_spot (K : PySem.W.Frag) : TS :=
  (tRet (tTup (tCons (tOp cIx (tVar 1) (tC (.int 1))) (tCons (tOp cSub (tOp cSub (tOp cIx (tVar 0) (tC (.int 0))) (tC (.int 1))) (tOp cIx (tVar 1) (tC (.int 0)))) tNil))))
theorem rk_turned_spot {K : PySem.W.Frag} {vs : List V} {H : Hp} {Q : VK} {E : XK} (h : sp_turned_spot K vs H Q E) : rd_turned_spot K { nx := fun _ H' => Q .non H', rt := Q } (start ["floor", "spot"] vs) H := by
  obtain ⟨a, s, h, w, g, r, c, rfl, ha, hs, q⟩ := h
  show rd_turned_spot K _ [some (.ref a), some (.ref s)] H
  unfold rd_turned_spot
  walk_at "w"
  refine ixT hs (v := V.int c) rfl ?_
  walk_at "w"
  refine ixT ha (v := V.int h) rfl ?_
  walk_at "w"
  refine ixT hs (v := V.int r) rfl ?_
  walk_at "w"
  exact ⟨len_le (by show (2 : Nat) ≤ 1000; decide), q⟩
def sp_mirrored_spot (K : PySem.W.Frag) : Sp := fun vs H Q _ => ∃ (a s : Addr) (h w g r c : Int), vs = [.ref a, .ref s] ∧ IsFl H a h w g ∧ H s = some (.tup [.int r, .int c]) ∧ ∀ p, H p = none → Q (.ref p) (upd H p (.tup [.int r, .int (w - 1 - c)]))
theorem sl_mirrored_spot {K : PySem.W.Frag} {vs : List V} {H : Hp} {Q : VK} {E : XK} (h : sp_mirrored_spot K vs H Q E) : vs.length = 2 := by
  obtain ⟨_, _, _, _, _, _, _, rfl, _⟩ := h; rfl
def rd_mirrored_spot (K : PySem.W.Frag) : TS :=
  (tRet (tTup (tCons (tOp cIx (tVar 1) (tC (.int 0))) (tCons (tOp cSub (tOp cSub (tOp cIx (tVar 0) (tC (.int 1))) (tC (.int 1))) (tOp cIx (tVar 1) (tC (.int 1)))) tNil))))
theorem rk_mirrored_spot {K : PySem.W.Frag} {vs : List V} {H : Hp} {Q : VK} {E : XK} (h : sp_mirrored_spot K vs H Q E) : rd_mirrored_spot K { nx := fun _ H' => Q .non H', rt := Q } (start ["floor", "spot"] vs) H := by
  obtain ⟨a, s, h, w, g, r, c, rfl, ha, hs, q⟩ := h
  show rd_mirrored_spot K _ [some (.ref a), some (.ref s)] H
  unfold rd_mirrored_spot
  walk_at "w"
  refine ixT hs (v := V.int r) rfl ?_
  walk_at "w"
  refine ixT ha (v := V.int w) rfl ?_
  walk_at "w"
  refine ixT hs (v := V.int c) rfl ?_
  walk_at "w"
  exact ⟨len_le (by show (2 : Nat) ≤ 1000; decide), q⟩
def sp_moved_cell (K : PySem.W.Frag) : Sp := fun vs H Q _ => ∃ (a : Addr) (h w g m z : Int), vs = [.ref a, .int m, .int z] ∧ IsFl H a h w g ∧ FlOk h w g ∧ 0 ≤ m ∧ m < 8 ∧ ∀ H', Same H H' → Q (.int (mvC h w m z)) H'
theorem sl_moved_cell {K : PySem.W.Frag} {vs : List V} {H : Hp} {Q : VK} {E : XK} (h : sp_moved_cell K vs H Q E) : vs.length = 3 := by
  obtain ⟨_, _, _, _, _, _, rfl, _⟩ := h; rfl
def rd_moved_cell_t3 (K : PySem.W.Frag) : TS :=
  (tSeq (tFor (iRng1 (tCons (tOp cMod (tVar 1) (tC (.int 4))) tNil)) (gName 5)
    (tSeq (tAsg (tCall (sp_turned_spot K) [] E0 (tCons (tVar 3) (tCons (tVar 4) tNil))) (gName 4))
    (tAsg (tCall (sp_turned_floor K) [] E0 (tCons (tVar 3) tNil)) (gName 3))))
    (tRet (tOp cAdd (tOp cMul (tOp cIx (tVar 4) (tC (.int 0))) (tOp cIx (tVar 3) (tC (.int 1)))) (tOp cIx (tVar 4) (tC (.int 1))))))
def rd_moved_cell (K : PySem.W.Frag) : TS :=
  (tSeq (tAsg (tVar 0) (gName 3))
    (tSeq (tAsg (tCall (sp_spot_of K) [] E0 (tCons (tVar 0) (tCons (tVar 2) tNil))) (gName 4))
    (tSeq (tIfS (tTest (tOp (cCmp fun i j => decide (j ≤ i)) (tVar 1) (tC (.int 4)))) (tAsg (tCall (sp_mirrored_spot K) [] E0 (tCons (tVar 0) (tCons (tVar 4) tNil))) (gName 4)) tNext)
    (rd_moved_cell_t3 K))))
theorem rk_moved_cell_t3 {K : PySem.W.Frag} {H : Hp} {Q : VK} {a s : Addr} {h w g m z r c : Int} (ha : IsFl H a h w g) (F : FlOk h w g) (m0 : 0 ≤ m) (m8 : m < 8) (hs : H s = some (.tup [.int r, .int c]))
    (q : ∀ H', Same H H' → Q (.int ((spJ h w r c (m % 4).toNat).1.1 * (spJ h w r c (m % 4).toNat).2.2 + (spJ h w r c (m % 4).toNat).1.2)) H') :
    rd_moved_cell_t3 K { nx := fun _ H' => Q .non H', rt := Q } [some (.ref a), some (.int m), some (.int z), some (.ref a), some (.ref s), none] H := by
  obtain ⟨h0, h1, w0, w1, m16, g0, g1⟩ := id F
  unfold rd_moved_cell_t3
  walk_at "w"
  refine ⟨by decide, ?_⟩
  have b0 := Int.emod_nonneg m (show (4 : Int) ≠ 0 by decide)
  have b1 := Int.emod_lt_of_pos m (show (0 : Int) < 4 by decide)
  refine ⟨m % 4, rfl, by omega, by omega, ?_⟩
  refine for_range (fun i σ H' => ∃ (N S : Addr) (kv : Option V), σ = [some (.ref a), some (.int m), some (.int z), some (.ref N), some (.ref S), kv] ∧ Same H H' ∧ IsFl H' N (spJ h w r c i).2.1 (spJ h w r c i).2.2 g ∧ H' S = some (.tup [.int (spJ h w r c i).1.1, .int (spJ h w r c i).1.2]))
    ⟨a, s, none, rfl, Same.refl H, ha, hs⟩ ?_ ?_
  · rintro i σ H1 hi ⟨N, S, kv, rfl, s1, eN, eS⟩
    walk_at "w"
    refine ⟨N, S, _, _, g, _, _, rfl, eN, eS, fun S2 hS2 => ?_⟩
    have s2 := (Same.refl H1).laid (o := .tup [.int (spJ h w r c i).1.2, .int ((spJ h w r c i).2.1 - 1 - (spJ h w r c i).1.1)]) hS2
    have eS2 : (upd H1 S2 (.tup [.int (spJ h w r c i).1.2, .int ((spJ h w r c i).2.1 - 1 - (spJ h w r c i).1.1)])) S2 = some (.tup [.int (spJ h w r c (i + 1)).1.1, .int (spJ h w r c (i + 1)).1.2]) := upd_same
    generalize upd H1 S2 (.tup [.int (spJ h w r c i).1.2, .int ((spJ h w r c i).2.1 - 1 - (spJ h w r c i).1.1)]) = H2 at *
    walk_at "w"
    refine ⟨N, _, _, g, rfl, s2 _ _ eN, fun N2 hN2 => ?_⟩
    have s3 := (Same.refl H2).laid (o := .tup [.int (spJ h w r c i).2.2, .int (spJ h w r c i).2.1, .int g]) hN2
    exact ⟨N2, S2, _, rfl, (s1.trans s2).trans s3, upd_same, s3 _ _ eS2⟩
  · rintro σ H1 ⟨N, S, kv, rfl, s1, eN, eS⟩
    have dm := spJ_dim (r := r) (c := c) (fun x => 1 ≤ x ∧ x ≤ 6) ⟨h0, h1⟩ ⟨w0, w1⟩ (m % 4).toNat
    have q1 := q _ s1
    generalize (spJ h w r c (m % 4).toNat).1.1 = r' at *
    generalize (spJ h w r c (m % 4).toNat).1.2 = c' at *
    generalize (spJ h w r c (m % 4).toNat).2.1 = h' at *
    generalize (spJ h w r c (m % 4).toNat).2.2 = w' at *
    walk_at "w"
    refine ixT eS (v := V.int r') rfl ?_
    walk_at "w"
    refine ixT eN (v := V.int w') rfl ?_
    walk_at "w"
    refine ⟨.inr ⟨by omega, by omega⟩, ?_⟩
    refine ixT eS (v := V.int c') rfl ?_
    walk_at "w"
    exact q1
theorem rk_moved_cell {K : PySem.W.Frag} {vs : List V} {H : Hp} {Q : VK} {E : XK} (h : sp_moved_cell K vs H Q E) : rd_moved_cell K { nx := fun _ H' => Q .non H', rt := Q } (start ["floor", "move", "cell", "now", "spot", "turn"] vs) H := by
  obtain ⟨a, h, w, g, m, z, rfl, ha, F, m0, m8, q⟩ := h
  obtain ⟨h0, h1, w0, w1, m16, g0, g1⟩ := id F
  show rd_moved_cell K _ [some (.ref a), some (.int m), some (.int z), none, none, none] H
  unfold rd_moved_cell
  walk_at "w"
  refine ⟨a, h, w, g, z, rfl, ha, by omega, by omega, fun s hs => ?_⟩
  have s1 : Same H (upd H s (.tup [.int (z / w), .int (z % w)])) := (Same.refl H).laid hs
  have es : (upd H s (.tup [.int (z / w), .int (z % w)])) s = some (.tup [.int (z / w), .int (z % w)]) := upd_same
  generalize upd H s (.tup [.int (z / w), .int (z % w)]) = H1 at *
  walk_at "w"
  rw [w_if]
  walk_at "w"
  unfold mvC at q
  by_cases h4 : 4 ≤ m
  · simp only [if_pos h4] at q
    rw [decide_eq_true h4]
    refine iteT ?_
    walk_at "w"
    refine ⟨a, s, h, w, g, _, _, rfl, s1 _ _ ha, es, fun s2' hs2 => ?_⟩
    have s2 : Same H1 (upd H1 s2' (.tup [.int (z / w), .int (w - 1 - z % w)])) := (Same.refl H1).laid hs2
    exact rk_moved_cell_t3 ((s1.trans s2) _ _ ha) F m0 m8 upd_same fun H' s3 => q H' ((s1.trans s2).trans s3)
  · simp only [if_neg h4] at q
    rw [decide_eq_false h4]
    refine iteF ?_
    walk_at "w"
    exact rk_moved_cell_t3 (s1 _ _ ha) F m0 m8 es fun H' s3 => q H' (s1.trans s3)
def sp_refuse_no_move (K : PySem.W.Frag) : Sp := fun vs H Q E => ∃ m : Int, vs = [.int m] ∧ (0 ≤ m → m < 8 → Q .non H) ∧ (¬ (0 ≤ m ∧ m < 8) → ∀ C, Glb K "NoMove" C → E (.ref C) none H)
theorem sl_refuse_no_move {K : PySem.W.Frag} {vs : List V} {H : Hp} {Q : VK} {E : XK} (h : sp_refuse_no_move K vs H Q E) : vs.length = 1 := by
  obtain ⟨_, rfl, _⟩ := h; rfl
def rd_refuse_no_move (K : PySem.W.Frag) (a : EA) (E : XK) : TS :=
  (tIfS (tOr (tNot (tB (tCall (sp_is_whole K) [] E0 (tCons (tVar 0) tNil)))) (tOr (tTest (tOp (cCmp fun i j => decide (i < j)) (tVar 0) (tC (.int 0)))) (tTest (tOp (cCmp fun i j => decide (j ≤ i)) (tVar 0) (tC (.int 8)))))) (tRaise E a.NoMove (tCons (tC (.str (tx [97, 32, 109, 111, 118, 101, 32, 105, 115, 32, 97, 32, 110, 117, 109, 98, 101, 114, 32, 102, 114, 111, 109, 32, 48, 32, 116, 111, 32, 55]))) tNil)) tNext)
theorem rk_refuse_no_move {K : PySem.W.Frag} {a : EA} {os : List Addr} {vs : List V} {H : Hp} {Q : VK} {E : XK} (R : Ref1 K a "NoMove" a.NoMove os) (h : sp_refuse_no_move K vs H Q E) : rd_refuse_no_move K a E { nx := fun _ H' => Q .non H', rt := Q } (start ["move"] vs) H := by
  obtain ⟨m, rfl, k1, k2⟩ := h
  have bad : ¬ (0 ≤ m ∧ m < 8) → E (.ref a.NoMove) none H := fun z => k2 z _ R.g
  have one : (1 : Nat) ≤ sizeLine := len_le (by decide)
  show rd_refuse_no_move K a E _ [some (.int m)] H
  unfold rd_refuse_no_move
  rw [w_if]
  walk_at "w"
  refine ⟨m, rfl, ⟨true, rfl, ?_⟩⟩
  walk_at "w"
  by_cases c1 : m < 0
  · rw [decide_eq_true c1]
    walk_at "w"
    rw [w_raise]
    walk_at "w"
    exact ⟨one, bad fun z => by omega⟩
  · rw [decide_eq_false c1]
    walk_at "w"
    by_cases c2 : 8 ≤ m
    · rw [decide_eq_true c2]
      walk_at "w"
      rw [w_raise]
      walk_at "w"
      exact ⟨one, bad fun z => by omega⟩
    · rw [decide_eq_false c2]
      walk_at "w"
      exact k1 (by omega) (by omega)
def sp_moved_floor (K : PySem.W.Frag) : Sp := fun vs H Q E => ∃ (a : Addr) (m h w g : Int), vs = [.ref a, .int m] ∧ IsFl H a h w g ∧ (0 ≤ m → m < 8 → ∀ p H', Same H H' → IsFl H' p (mvH h w m) (mvW h w m) g → Q (.ref p) H') ∧ (¬ (0 ≤ m ∧ m < 8) → ∀ C, Glb K "NoMove" C → E (.ref C) none H)
theorem sl_moved_floor {K : PySem.W.Frag} {vs : List V} {H : Hp} {Q : VK} {E : XK} (h : sp_moved_floor K vs H Q E) : vs.length = 2 := by
  obtain ⟨_, _, _, _, _, rfl, _⟩ := h; rfl
def rd_moved_floor (K : PySem.W.Frag) (E : XK) : TS :=
  (tSeq (tDrop (tCall (sp_refuse_no_move K) [] E (tCons (tVar 1) tNil)))
    (tSeq (tAsg (tVar 0) (gName 2))
    (tSeq (tFor (iRng1 (tCons (tOp cMod (tVar 1) (tC (.int 4))) tNil)) (gName 3)
    (tAsg (tCall (sp_turned_floor K) [] E0 (tCons (tVar 2) tNil)) (gName 2)))
    (tRet (tVar 2)))))
theorem rk_moved_floor {K : PySem.W.Frag} {vs : List V} {H : Hp} {Q : VK} {E : XK} (h : sp_moved_floor K vs H Q E) : rd_moved_floor K E { nx := fun _ H' => Q .non H', rt := Q } (start ["floor", "move", "now", "turn"] vs) H := by
  obtain ⟨a, m, h, w, g, rfl, ha, k1, k2⟩ := h
  show rd_moved_floor K E _ [some (.ref a), some (.int m), none, none] H
  unfold rd_moved_floor
  walk_at "w"
  refine ⟨m, rfl, fun m0 m8 => ?_, k2⟩
  have b0 := Int.emod_nonneg m (show (4 : Int) ≠ 0 by decide)
  have b1 := Int.emod_lt_of_pos m (show (0 : Int) < 4 by decide)
  refine ⟨by decide, m % 4, rfl, by omega, by omega, ?_⟩
  refine for_range (fun i σ H' => ∃ (N : Addr) (kv : Option V), σ = [some (.ref a), some (.int m), some (.ref N), kv] ∧ Same H H' ∧ IsFl H' N (spJ h w 0 0 i).2.1 (spJ h w 0 0 i).2.2 g)
    ⟨a, none, rfl, Same.refl H, ha⟩ ?_ ?_
  · rintro i σ H1 hi ⟨N, kv, rfl, s1, eN⟩
    walk_at "w"
    refine ⟨N, _, _, g, rfl, eN, fun N2 hN2 => ?_⟩
    exact ⟨N2, _, rfl, s1.laid hN2, upd_same⟩
  · rintro σ H1 ⟨N, kv, rfl, s1, eN⟩
    rw [dimJ] at eN
    walk_at "w"
    refine k1 m0 m8 N H1 s1 ?_
    unfold mvH mvW
    by_cases e : m % 2 = 1
    · rw [if_pos e, if_pos e]
      rw [if_pos (show (m % 4).toNat % 2 = 1 by omega)] at eN
      exact eN
    · rw [if_neg e, if_neg e]
      rw [if_neg (show ¬ (m % 4).toNat % 2 = 1 by omega)] at eN
      exact eN
def sp_moved_cells (K : PySem.W.Frag) : Sp := fun vs H Q E => ∃ (a : Addr) (m h w g : Int), vs = [.ref a, .int m] ∧ IsFl H a h w g ∧ FlOk h w g ∧ (0 ≤ m → m < 8 → ∀ l H', Same H H' → H l = none → H' l = some (.lst ((mvL h w m).map V.int)) → Q (.ref l) H') ∧ (¬ (0 ≤ m ∧ m < 8) → ∀ C, Glb K "NoMove" C → E (.ref C) none H)
theorem sl_moved_cells {K : PySem.W.Frag} {vs : List V} {H : Hp} {Q : VK} {E : XK} (h : sp_moved_cells K vs H Q E) : vs.length = 2 := by
  obtain ⟨_, _, _, _, _, rfl, _⟩ := h; rfl
def rd_moved_cells (K : PySem.W.Frag) (E : XK) : TS :=
  (tSeq (tDrop (tCall (sp_refuse_no_move K) [] E (tCons (tVar 1) tNil)))
    (tRet (tComp [none, none, some 0, some 1] (iRng1 (tCons (tCall (sp_many_cells K) [] E0 (tCons (tVar 0) tNil)) tNil)) (gName 1) tTrue (tCall (sp_moved_cell K) [] E0 (tCons (tVar 2) (tCons (tVar 3) (tCons (tVar 1) tNil)))))))
theorem rk_moved_cells {K : PySem.W.Frag} {vs : List V} {H : Hp} {Q : VK} {E : XK} (h : sp_moved_cells K vs H Q E) : rd_moved_cells K E { nx := fun _ H' => Q .non H', rt := Q } (start ["floor", "move"] vs) H := by
  obtain ⟨a, m, h, w, g, rfl, ha, F, k1, k2⟩ := h
  obtain ⟨h0, h1, w0, w1, m16, g0, g1⟩ := id F
  have mpos : 0 ≤ h * w := Int.mul_nonneg (by omega) (by omega)
  show rd_moved_cells K E _ [some (.ref a), some (.int m)] H
  unfold rd_moved_cells
  walk_at "w"
  refine ⟨m, rfl, fun m0 m8 => ?_, k2⟩
  refine ⟨a, h, w, g, rfl, ha, h0, h1, ?_⟩
  refine ⟨h * w, rfl, by omega, by omega, ?_⟩
  refine compI_range (fun _ => true) (fun i => mvC h w m (i : Int)) (by omega) ?_ ?_ ?_
  · intro i H1 R hi s1 k3
    exact k3 _ (Same.refl _)
  · intro i H1 Q1 hi hb s1 k3
    show tCall _ _ _ _ [none, some (.int (0 + (i : Int))), some (.ref a), some (.int m)] H1 Q1
    rw [Int.zero_add]
    walk_at "w"
    exact ⟨a, h, w, g, m, (i : Int), rfl, s1 _ _ ha, F, m0, m8, k3⟩
  · intro l H1 hl s1 el
    rw [filter_tt] at el
    exact k1 m0 m8 l H1 s1 hl el
def chk65 (h w m : Int) : Bool := (mvL h w m).isPerm (rngL 0 (h * w)) && (List.range (h * w).toNat).all fun (i : Nat) =>
  ((besL h w (i : Int)).all fun o => decide (0 ≤ o) && decide (o < h * w)) && ((besL h w (i : Int)).map fun o => (mvL h w m).getD o.toNat 0).isPerm (besL (mvH h w m) (mvW h w m) ((mvL h w m).getD i 0))
theorem chk65_tab : ((List.range 6).all fun a => (List.range 6).all fun b => !decide (((a : Int) + 1) * ((b : Int) + 1) ≤ 16) || (List.range 8).all fun m => chk65 ((a : Int) + 1) ((b : Int) + 1) (m : Int)) = true := by decide +kernel
theorem chk65_at {h w g m : Int} (F : FlOk h w g) (m0 : 0 ≤ m) (m8 : m < 8) : chk65 h w m = true := by
  obtain ⟨h0, h1, w0, w1, m16, g0, g1⟩ := F
  have t := List.all_eq_true.mp (List.all_eq_true.mp chk65_tab (h - 1).toNat (List.mem_range.mpr (by omega))) (w - 1).toNat (List.mem_range.mpr (by omega))
  have e1 : (((h - 1).toNat : Nat) : Int) + 1 = h := by omega
  have e2 : (((w - 1).toNat : Nat) : Int) + 1 = w := by omega
  rw [e1, e2, decide_eq_true m16] at t
  have t2 := List.all_eq_true.mp t m.toNat (List.mem_range.mpr (by omega))
  rw [show ((m.toNat : Nat) : Int) = m by omega] at t2
  exact t2
theorem sorted_is {rs fs gs : List Int} (p : rs.Perm fs) (s : rs.Pairwise (· ≤ ·)) (q : fs.Perm gs) (t : gs.Pairwise (· < ·)) : rs = gs := by
  have pq := p.trans q
  exact strict_ext (strict_of pq s (t.imp fun h => Int.ne_of_lt h)) t fun z => pq.mem_iff
def sp__law_spot (K : PySem.W.Frag) : Sp := fun vs H Q _ => ∃ (a : Addr) (h w g m z : Int), vs = [.ref a, .int z, .int m] ∧ IsFl H a h w g ∧ FlOk h w g ∧ 0 ≤ m ∧ m < 8 ∧ ∀ H', Same H H' → Q (.int (mvC h w m z)) H'
theorem sl__law_spot {K : PySem.W.Frag} {vs : List V} {H : Hp} {Q : VK} {E : XK} (h : sp__law_spot K vs H Q E) : vs.length = 3 := by
  obtain ⟨_, _, _, _, _, _, rfl, _⟩ := h; rfl
def rd__law_spot_t4 (K : PySem.W.Frag) : TS :=
  (tSeq (tFor (iRng1 (tCons (tOp cMod (tVar 2) (tC (.int 4))) tNil)) (gName 8)
    (tSeq (tPar 6 7 (tCons (tVar 7) (tCons (tOp cSub (tOp cSub (tVar 3) (tC (.int 1))) (tVar 6)) tNil)))
    (tPar 3 4 (tCons (tVar 4) (tCons (tVar 3) tNil)))))
    (tRet (tOp cAdd (tOp cMul (tVar 6) (tVar 4)) (tVar 7))))
def rd__law_spot (K : PySem.W.Frag) : TS :=
  (tSeq (tAsg (tVar 0) (gTup K 3 (gCons (gName 3) (gCons (gName 4) (gCons (gName 5) gNil)))))
    (tSeq (tAsg (tOp cDiv (tVar 1) (tVar 4)) (gName 6))
    (tSeq (tAsg (tOp cMod (tVar 1) (tVar 4)) (gName 7))
    (tSeq (tIfS (tTest (tOp (cCmp fun i j => decide (j < i)) (tVar 2) (tC (.int 3)))) (tAsg (tOp cSub (tOp cSub (tVar 4) (tC (.int 1))) (tVar 7)) (gName 7)) tNext)
    (rd__law_spot_t4 K)))))
theorem w_gc3 {i j k : Nat} {x y z : V} {H : Hp} {σ : St} {q : St → Hp → Prop} (h : q (((σ.set i (some x)).set j (some y)).set k (some z)) H) : gCons (gName i) (gCons (gName j) (gCons (gName k) gNil)) [x, y, z] σ H q := ⟨x, _, rfl, y, _, rfl, z, _, rfl, rfl, h⟩
theorem rk__law_spot_t4 {K : PySem.W.Frag} {H : Hp} {Q : VK} {a : Addr} {h w g m z r c : Int} (F : FlOk h w g) (m0 : 0 ≤ m) (m8 : m < 8)
    (q : ∀ H', Same H H' → Q (.int ((spJ h w r c (m % 4).toNat).1.1 * (spJ h w r c (m % 4).toNat).2.2 + (spJ h w r c (m % 4).toNat).1.2)) H') :
    rd__law_spot_t4 K { nx := fun _ H' => Q .non H', rt := Q } [some (.ref a), some (.int z), some (.int m), some (.int h), some (.int w), some (.int g), some (.int r), some (.int c), none] H := by
  obtain ⟨h0, h1, w0, w1, m16, g0, g1⟩ := id F
  unfold rd__law_spot_t4
  walk_at "w"
  refine ⟨by decide, ?_⟩
  have b0 := Int.emod_nonneg m (show (4 : Int) ≠ 0 by decide)
  have b1 := Int.emod_lt_of_pos m (show (0 : Int) < 4 by decide)
  refine ⟨m % 4, rfl, by omega, by omega, ?_⟩
  refine for_range (fun i σ H' => ∃ (kv : Option V), σ = [some (.ref a), some (.int z), some (.int m), some (.int (spJ h w r c i).2.1), some (.int (spJ h w r c i).2.2), some (.int g), some (.int (spJ h w r c i).1.1), some (.int (spJ h w r c i).1.2), kv] ∧ Same H H')
    ⟨none, rfl, Same.refl H⟩ ?_ ?_
  · rintro i σ H1 hi ⟨kv, rfl, s1⟩
    walk_at "w"
    unfold tPar
    walk_at "w"
    refine ⟨_, _, rfl, _, _, rfl, ?_⟩
    exact ⟨_, rfl, s1⟩
  · rintro σ H1 ⟨kv, rfl, s1⟩
    have dm := spJ_dim (r := r) (c := c) (fun x => 1 ≤ x ∧ x ≤ 6) ⟨h0, h1⟩ ⟨w0, w1⟩ (m % 4).toNat
    have q1 := q _ s1
    generalize (spJ h w r c (m % 4).toNat).1.1 = r' at *
    generalize (spJ h w r c (m % 4).toNat).1.2 = c' at *
    generalize (spJ h w r c (m % 4).toNat).2.1 = h' at *
    generalize (spJ h w r c (m % 4).toNat).2.2 = w' at *
    walk_at "w"
    exact ⟨.inr ⟨by omega, by omega⟩, q1⟩
theorem rk__law_spot {K : PySem.W.Frag} {vs : List V} {H : Hp} {Q : VK} {E : XK} (h : sp__law_spot K vs H Q E) : rd__law_spot K { nx := fun _ H' => Q .non H', rt := Q } (start ["_law_floor_here", "_law_cell", "_law_move", "_law_high", "_law_wide", "_law_signs", "_law_row", "_law_column", "_law_turn"] vs) H := by
  obtain ⟨a, h, w, g, m, z, rfl, ha, F, m0, m8, q⟩ := h
  obtain ⟨h0, h1, w0, w1, m16, g0, g1⟩ := id F
  show rd__law_spot K _ [some (.ref a), some (.int z), some (.int m), none, none, none, none, none, none] H
  unfold rd__law_spot
  walk_at "w"
  refine w_gtup ha rfl (w_gc3 ?_)
  walk_at "w"
  refine ⟨⟨by omega, by omega⟩, by omega, ?_⟩
  rw [w_if]
  walk_at "w"
  unfold mvC at q
  by_cases h4 : 4 ≤ m
  · simp only [if_pos h4] at q
    rw [decide_eq_true (show (3 : Int) < m by omega)]
    refine iteT ?_
    walk_at "w"
    exact rk__law_spot_t4 F m0 m8 q
  · simp only [if_neg h4] at q
    rw [decide_eq_false (show ¬ (3 : Int) < m by omega)]
    refine iteF ?_
    walk_at "w"
    exact rk__law_spot_t4 F m0 m8 q
end L2
set_option Elab.async false
set_option linter.all false
set_option maxRecDepth 100000
namespace L2
open PySem PySem.Spec PyProof.Rows
structure FunD (K : PySem.W.Frag) (x qual : Str) (st : Stmt) (f : Addr) (fd : FuncData) (ds : List Value) : Prop where
  ex : ∃ (oc : Value) (od : Option Addr) (dT : Addr) (kV doc pm : Value) (an : Option Addr) (cdv ct : Value) (osl : Array (Option Value)),
    fd = PySem.W.fnOf x qual (defArgs st) (defBody st) (defScope st) (.ref dT) kV doc pm an cdv ct ∧ K.lookup f = some ⟨oc, od, .func fd, osl⟩ ∧ PySem.W.codeIn K cdv qual = true ∧
    ∃ (c : Value) (d : Option Addr) (n : Nat) (sl : Array (Option Value)), K.lookup dT = some ⟨c, d, .seq ds.toArray n, sl⟩
  kp : PySem.W.keepIn K (.ref f) = true
section
variable {P : Program} {w : World} {K : PySem.W.Frag} {mg : Str → Option Value} {base : Heap}
theorem FunD.ok1 {x qual : Str} {st : Stmt} {f : Addr} {fd : FuncData} {ds : List Value} {N ps : List Str} {k : Nat} {sp : Sp} (F : FunD K x qual st f fd ds) (S : FnScope N ps (defScope st)) (len : ∀ vs H Q E, sp vs H Q E → vs.length = ps.length)
    (hbody : ∀ (cdv : Value) (A : Around) (outer : List Env) (s : Shared) (H : Hp) (vs : List V) (Q : VK) (E : XK), Room k (A.deeper (envOfC qual (defScope st) s.heap.objs.size f cdv)) → sp vs H Q E →
      ∃ t, PSs (cx1 P w K mg base N qual (defScope st) f cdv A outer s H E) (defBody st) t ∧ t { nx := fun _ H' => Q .non H', rt := Q } (start N vs) H) : FnOk P w K mg base (CX1 P w) (k + 1) f fd ps sp := by
  obtain ⟨oc, od, dT, kV, doc, pm, an, cdv, ct, osl, rfl, lk, hcd, _⟩ := F.ex
  exact fn_of lk hcd S len fun A outer s H vs Q E hr hsp => hbody cdv A outer s H vs Q E hr hsp
theorem FunD.binds {x qual : Str} {st : Stmt} {f : Addr} {fd : FuncData} {ds : List Value} {ps : List Str} (F : FunD K x qual st f fd ds)
    (h : ∀ (dT : Addr) (kV doc pm : Value) (an : Option Addr) (cdv ct : Value) (us : List Value), us.length = ps.length → ∃ k, bindArgs (PySem.W.fnOf x qual (defArgs st) (defBody st) (defScope st) (.ref dT) kV doc pm an cdv ct) ⟨us, []⟩ = seqItems? (.ref dT) >>= k ∧ k (some ds.toArray) = pure (ps.zip us)) : Binds K fd ps [] := by
  obtain ⟨oc, od, dT, kV, doc, pm, an, cdv, ct, osl, rfl, lk, hcd, c, d, n, sl, ld⟩ := F.ex
  intro s us X hl
  rw [List.append_nil] at hl ⊢
  obtain ⟨k, h1, h2⟩ := h dT kV doc pm an cdv ct us hl
  exact BindsTo.of_defaults (T := dT) rfl (X _ _ ld) rfl h1 h2
theorem FunD.bindsD {x qual : Str} {st : Stmt} {f : Addr} {fd : FuncData} {ds : List Value} {ps : List Str} (m : Nat) (hm : m + ds.length = ps.length) (F : FunD K x qual st f fd ds)
    (h : ∀ (dT : Addr) (kV doc pm : Value) (an : Option Addr) (cdv ct : Value) (us : List Value), us.length = m → ∃ k, bindArgs (PySem.W.fnOf x qual (defArgs st) (defBody st) (defScope st) (.ref dT) kV doc pm an cdv ct) ⟨us, []⟩ = seqItems? (.ref dT) >>= k ∧ k (some ds.toArray) = pure (ps.zip (us ++ ds))) : Binds K fd ps ds := by
  obtain ⟨oc, od, dT, kV, doc, pm, an, cdv, ct, osl, rfl, lk, hcd, c, d, n, sl, ld⟩ := F.ex
  intro s us X hl
  rw [List.length_append] at hl
  obtain ⟨k, h1, h2⟩ := h dT kV doc pm an cdv ct us (by omega)
  exact BindsTo.of_defaults (T := dT) rfl (X _ _ ld) rfl h1 h2
theorem funD_mk {x qual : Str} {st : Stmt} {f dT : Addr} {oc : Value} {od an : Option Addr} {osl : Array (Option Value)} {kV doc pm cdv ct : Value} {c : Value} {d : Option Addr} {n : Nat} {sl : Array (Option Value)} {ds : List Value} (l : K.lookup f = some ⟨oc, od, .func (PySem.W.fnOf x qual (defArgs st) (defBody st) (defScope st) (.ref dT) kV doc pm an cdv ct), osl⟩)
    (cc : PySem.W.codeIn K cdv qual = true) (k : PySem.W.keepIn K (.ref f) = true) (ld : K.lookup dT = some ⟨c, d, .seq ds.toArray n, sl⟩) : FunD K x qual st f (PySem.W.fnOf x qual (defArgs st) (defBody st) (defScope st) (.ref dT) kV doc pm an cdv ct) ds := ⟨⟨oc, od, dT, kV, doc, pm, an, cdv, ct, osl, rfl, l, cc, c, d, n, sl, ld⟩, k⟩
end
structure Cal1D (P : Program) (w : World) (K : PySem.W.Frag) (mg : Str → Option Value) (base : Heap) (k : Nat) (x : Str) (ps : List Str) (sp : Sp) (ds : List Value) : Prop where
  ex : ∃ (f : Addr) (fd : FuncData), FnOk P w K mg base (CX1 P w) k f fd ps sp ∧ mg x = some (.ref f) ∧ PySem.W.keepIn K (.ref f) = true ∧ Binds K fd ps ds
theorem pe_cal1D {X : Cx} {k n : Nat} {x : Str} {ps : List Str} {sp : Sp} {ds : List Value} {dvs : List V} {p pos : Pos} {e : Expr} {es : List Expr} {t : TA} {E : XK} (hE : Passes (CX1 X.prog X.w) X E) (C : Cal1D X.prog X.w X.K X.mg X.base k x ps sp ds) (hd : Vals dvs ds) (hr : Room n X.A) (hk : k ≤ n) (hg : Gl X x) (ha : PA X (e :: es) t)
    (hdb : (x == ("__debug__" : Str)) = false := by decide) (he : starEach (e :: es) X.env = (false, eval e X.env) :: starEach es X.env := by rfl) (hpl : (backTo pos (starEach es X.env)).any (·.1) = false := by rfl) :
    PE X (.Call (.Name x p) (e :: es) [] pos) (tCall sp dvs E t) := by
  obtain ⟨f, fd, F, hm, hkp, hb⟩ := C.ex
  exact pe_call F (hr.mono hk) hg hm hkp hb hd hE ha hdb he hpl
theorem vals_non : Vals [V.non] [Value.none] := .cons rfl .nil
end L2
set_option Elab.async false
set_option linter.all false
set_option maxRecDepth 100000
namespace L2
open PySem PySem.Spec PyProof.Rows
local macro_rules | `(tactic| walk_at "w") => `(tactic| (first | simp only [w_seq, if_true, if_false, Bool.false_eq_true, decide_true, decide_false, w_lrng1, w_lrng2, w_ifE, w_compR2, w_scompR2, w_forRD, w_forE, w_compE, w_scompE, w_intB, w_intI, w_bitlen, w_shr, w_isi_ii, w_isi_ib, w_isi_bb, w_isi_bi, w_isi_ss, w_isi_bs, w_isi_is, w_iteT, w_iteF, w_negE, w_bitI, w_str, Bool.not_true, Bool.not_false, w_next, w_asg, w_gname, w_var, w_c, w_op, w_ret, w_retN, w_drop, w_test, w_b, w_not, w_and, w_or, w_notV, w_andV, w_orV, w_nil, w_cons, w_cb, w_call, w_tup, w_lst, w_bm, w_bm0, w_true, w_dnew, w_dput, w_forL, w_forR1, w_forR2, w_compL, w_compR1, w_scompL, w_scompR1, w_add, w_sub, w_mul, w_div, w_mod, w_cmp, w_eqI, w_neI, w_eqB, w_neB, w_abs, w_min, w_sl, w_part, w_nopart, w_gsub, w_un, w_forS, w_compS, w_scompS, w_eqS, w_neS, w_lenS, w_addS, w_find,
  List.getElem?_cons_zero, List.getElem?_cons_succ, Option.some.injEq, exists_eq_left', exists_eq_left, List.set_cons_zero, List.set_cons_succ, bnd_some, V.int.injEq, V.bl.injEq, V.ref.injEq, V.str.injEq, List.append_nil, List.nil_append, List.cons_append] | dsimp only | skip))
abbrev os66 (a : EA) : List Addr := [a.NoFilling, a.NoPuzzle, a.TooMany]
def plnL (g : Int) : List Int := rngL 1 (g + 1)
def exOk (g : Int) (ss : List Int) : Bool := ss.isPerm (plnL g)
def exI (ss : List Int) (x : Int) : Int := if x = 0 then 0 else ss.getD (x - 1).toNat 0
theorem rng_strict2 (a n : Int) : (rngL a n).Pairwise (· < ·) := by
  unfold rngL
  rw [List.pairwise_map]
  refine List.pairwise_lt_range.imp ?_
  intro a b h
  omega
theorem pln_mem {g x : Int} : x ∈ plnL g ↔ 1 ≤ x ∧ x ≤ g := by
  unfold plnL rngL
  rw [List.mem_map]
  constructor
  · rintro ⟨k, hk, rfl⟩
    have := List.mem_range.mp hk
    omega
  · intro h
    exact ⟨(x - 1).toNat, List.mem_range.mpr (by omega), by omega⟩
theorem pln_len {g : Int} (g0 : 0 ≤ g) : ((plnL g).length : Int) = g := by
  unfold plnL rngL
  rw [List.length_map, List.length_range]
  omega
theorem pln_nodup (g : Int) : (plnL g).Nodup := (rng_strict2 1 (g + 1)).imp fun h => Int.ne_of_lt h
theorem ex_is {g : Int} {ns ss : List Int} (hp : ns.Perm ss) (hs : ns.Pairwise (· ≤ ·)) : decide (ns = plnL g) = exOk g ss := by
  rw [Bool.eq_iff_iff, decide_eq_true_eq]
  unfold exOk
  rw [List.isPerm_iff]
  exact ⟨fun e => by rw [← e]; exact hp.symm, fun q => sorted_is hp hs q (rng_strict2 _ _)⟩
def puJ (st cs vs : List Int) : Nat → List Int
  | 0 => st
  | i + 1 => (puJ st cs vs i).set (cs.getD i 0).toNat (vs.getD i 0)
theorem puJ_len {st cs vs : List Int} : ∀ i, (puJ st cs vs i).length = st.length
  | 0 => rfl
  | i + 1 => by
    show ((puJ st cs vs i).set _ _).length = _
    rw [List.length_set, puJ_len i]
theorem getD_ne {cs : List Int} (nd : cs.Nodup) {i j : Nat} (hi : i < cs.length) (hj : j < i) : cs.getD j 0 ≠ cs.getD i 0 := by
  have := List.pairwise_iff_getElem.mp nd j i (by omega) hi hj
  rw [List.getD, List.getD, List.getElem?_eq_getElem (by omega), List.getElem?_eq_getElem hi]
  exact this
theorem getD_in {cs : List Int} {P : Int → Prop} (h : ∀ c ∈ cs, P c) {i : Nat} (hi : i < cs.length) : P (cs.getD i 0) := by
  rw [List.getD, List.getElem?_eq_getElem hi]
  exact h _ (List.getElem_mem hi)
theorem puJ_get {st cs vs : List Int} (nd : cs.Nodup) (hc : ∀ c ∈ cs, 0 ≤ c ∧ c < (st.length : Int)) : ∀ i, i ≤ cs.length → ∀ j, j < i → (puJ st cs vs i).getD (cs.getD j 0).toNat 0 = vs.getD j 0
  | 0, _, j, hj => by omega
  | i + 1, hi, j, hj => by
    have ci := getD_in hc (show i < cs.length by omega)
    have cj := getD_in hc (show j < cs.length by omega)
    show ((puJ st cs vs i).set (cs.getD i 0).toNat (vs.getD i 0)).getD (cs.getD j 0).toNat 0 = _
    rw [List.getD, List.getElem?_set]
    by_cases e : j = i
    · subst e
      rw [if_pos rfl, if_pos (by rw [puJ_len]; omega)]
      rfl
    · have ne := getD_ne nd (show i < cs.length by omega) (show j < i by omega)
      rw [if_neg (by omega), ← List.getD]
      exact puJ_get nd hc i (by omega) j (by omega)
theorem ext_getD {xs ys : List Int} (hl : xs.length = ys.length) (h : ∀ k, k < xs.length → xs.getD k 0 = ys.getD k 0) : xs = ys := by
  refine List.ext_getElem hl fun k h1 h2 => ?_
  have := h k h1
  rw [List.getD, List.getD, List.getElem?_eq_getElem h1, List.getElem?_eq_getElem h2] at this
  exact this
structure Mv (n : Nat) (cs : List Int) : Prop where
  len : cs.length = n
  nd : cs.Nodup
  lt : ∀ c ∈ cs, 0 ≤ c ∧ c < (n : Int)
  all : ∀ k, k < n → ∃ j, j < n ∧ (cs.getD j 0).toNat = k
theorem rng0_mem {n x : Int} : x ∈ rngL 0 n ↔ 0 ≤ x ∧ x < n := by
  unfold rngL
  rw [List.mem_map]
  constructor
  · rintro ⟨k, hk, rfl⟩
    have := List.mem_range.mp hk
    omega
  · intro h
    exact ⟨x.toNat, List.mem_range.mpr (by omega), by omega⟩
theorem mv_ok {h w g m : Int} (F : FlOk h w g) (m0 : 0 ≤ m) (m8 : m < 8) : Mv (h * w).toNat (mvL h w m) := by
  obtain ⟨h0, h1, w0, w1, m16, g0, g1⟩ := id F
  have mpos : 0 ≤ h * w := Int.mul_nonneg (by omega) (by omega)
  have chk := chk65_at F m0 m8
  unfold chk65 at chk
  rw [Bool.and_eq_true] at chk
  have p := List.isPerm_iff.mp chk.1
  have ln : (mvL h w m).length = (h * w).toNat := by unfold mvL; rw [List.length_map, List.length_range]
  refine ⟨ln, p.nodup_iff.mpr ((rng_strict2 0 (h * w)).imp fun h => Int.ne_of_lt h), fun c hc => ?_, fun k hk => ?_⟩
  · have := rng0_mem.mp (p.mem_iff.mp hc)
    omega
  · have hm : (k : Int) ∈ mvL h w m := p.mem_iff.mpr (rng0_mem.mpr (by omega))
    obtain ⟨j, hj, e⟩ := List.mem_iff_getElem.mp hm
    refine ⟨j, by omega, ?_⟩
    rw [List.getD, List.getElem?_eq_getElem hj]
    show ((mvL h w m)[j]).toNat = k
    rw [e]
    omega
theorem Mv.eq {n : Nat} {cs vs st xs : List Int} (M : Mv n cs) (hs : st.length = n) (hx : xs.length = n) (h : ∀ j, j < n → xs.getD (cs.getD j 0).toNat 0 = vs.getD j 0) : puJ st cs vs n = xs := by
  refine ext_getD (by rw [puJ_len, hs, hx]) fun k hk => ?_
  rw [puJ_len, hs] at hk
  obtain ⟨j, hj, e⟩ := M.all k hk
  have g1 := puJ_get (vs := vs) (st := st) M.nd (fun c hc => by rw [hs]; exact M.lt c hc) n (by rw [M.len]; exact Nat.le_refl _) j hj
  rw [e] at g1
  rw [g1, ← h j hj, e]
def mvF (h w m : Int) (ss fl : List Int) : List Int := puJ fl (mvL h w m) (fl.map (exI ss)) (h * w).toNat
theorem mvF_at {h w g m : Int} {ss fl : List Int} (F : FlOk h w g) (m0 : 0 ≤ m) (m8 : m < 8) (hf : fl.length = (h * w).toNat) {j : Nat} (hj : j < (h * w).toNat) : (mvF h w m ss fl).getD ((mvL h w m).getD j 0).toNat 0 = exI ss (fl.getD j 0) := by
  have M := mv_ok F m0 m8
  have := puJ_get (vs := fl.map (exI ss)) (st := fl) M.nd (fun c hc => by rw [hf]; exact M.lt c hc) _ (by rw [M.len]; exact Nat.le_refl _) j hj
  unfold mvF
  rw [this, List.getD, List.getElem?_map, List.getElem?_eq_getElem (by omega), List.getD, List.getElem?_eq_getElem (by omega)]
  rfl
theorem mvF_len {h w m : Int} {ss fl : List Int} : (mvF h w m ss fl).length = fl.length := puJ_len _
theorem mvF_rep {h w g m : Int} {ss fl st : List Int} (F : FlOk h w g) (m0 : 0 ≤ m) (m8 : m < 8) (hf : fl.length = (h * w).toNat) (hs : st.length = (h * w).toNat) : puJ st (mvL h w m) (fl.map (exI ss)) (h * w).toNat = mvF h w m ss fl := by
  refine (mv_ok F m0 m8).eq hs (by rw [mvF_len, hf]) fun j hj => ?_
  rw [mvF_at F m0 m8 hf hj, List.getD, List.getD, List.getElem?_map, List.getElem?_eq_getElem (by omega)]
  rfl
def sp_unchanged_signs (K : PySem.W.Frag) : Sp := fun vs H Q _ => ∃ (p : Addr) (h w g : Int), vs = [.ref p] ∧ IsFl H p h w g ∧ 0 ≤ g ∧ g ≤ 6 ∧ ∀ l, H l = none → Q (.ref l) (upd H l (.lst ((plnL g).map V.int)))
theorem sl_unchanged_signs {K : PySem.W.Frag} {vs : List V} {H : Hp} {Q : VK} {E : XK} (h : sp_unchanged_signs K vs H Q E) : vs.length = 1 := by
  obtain ⟨_, _, _, _, rfl, _⟩ := h; rfl
def rd_unchanged_signs (K : PySem.W.Frag) : TS :=
  (tRet (tListRng2 (tCons (tC (.int 1)) (tCons (tOp cAdd (tOp cIx (tVar 0) (tC (.int 2))) (tC (.int 1))) tNil))))
theorem rk_unchanged_signs {K : PySem.W.Frag} {vs : List V} {H : Hp} {Q : VK} {E : XK} (h : sp_unchanged_signs K vs H Q E) : rd_unchanged_signs K { nx := fun _ H' => Q .non H', rt := Q } (start ["floor"] vs) H := by
  obtain ⟨p, h, w, g, rfl, hp, g0, g1, q⟩ := h
  show rd_unchanged_signs K _ [some (.ref p)] H
  unfold rd_unchanged_signs
  walk_at "w"
  refine ixT hp (v := V.int g) rfl ?_
  walk_at "w"
  exact ⟨1, g + 1, rfl, ⟨by decide, by decide, by omega, by omega⟩, q⟩
theorem compBl66 {K : PySem.W.Frag} {k : Nat} {a : Addr} {te : TE} {fin : Addr → Hp → Prop} {σ0 : St} {H1 : Hp} {xs : List Int} (f : Int → Bool) (hn : xs.length ≤ 900) (hq : SqL K H1 a (xs.map V.int))
    (he : ∀ x H Q, x ∈ xs → Same H1 H → (∀ H', Same H H' → Q (.bl (f x)) H') → te (σ0.set k (some (.int x))) H Q)
    (hd : ∀ l H, H1 l = none → Same H1 H → H l = some (.lst ((xs.map f).map V.bl)) → fin l H) :
    CompR (Itl K a) (gName k) tTrue te fin σ0 H1 := by
  refine compV_list (xs := xs.map V.int) (fun _ => true) (fun i => .bl (f (xs.getD i 0))) (by rw [List.length_map]; exact hn) hq ?_ ?_ ?_
  · intro i x H R hx s1 k1
    exact k1 _ (Same.refl _)
  · intro i x H Q hx hb s1 h
    obtain ⟨z, hz, rfl⟩ := map_int_get hx
    have h2 := h
    simp only [getD_of hz] at h2
    exact he z H Q (List.mem_of_getElem? hz) s1 h2
  · intro l H hl s1 el
    refine hd l H hl s1 ?_
    rw [el, filter_tt, List.length_map, List.map_map]
    congr 2
    exact map_range_get xs fun x => V.bl (f x)
def sp_is_exchange (K : PySem.W.Frag) : Sp := fun vs H Q _ => ∃ (p S : Addr) (h w g : Int) (ss : List Int), vs = [.ref p, .ref S] ∧ IsFl H p h w g ∧ 0 ≤ g ∧ g ≤ 6 ∧ H S = some (.lst (ss.map V.int)) ∧ ss.length < 64 ∧ ∀ H', Same H H' → Q (.bl (exOk g ss)) H'
theorem sl_is_exchange {K : PySem.W.Frag} {vs : List V} {H : Hp} {Q : VK} {E : XK} (h : sp_is_exchange K vs H Q E) : vs.length = 2 := by
  obtain ⟨_, _, _, _, _, _, rfl, _⟩ := h; rfl
def rd_is_exchange_t1 (K : PySem.W.Frag) : TS :=
  (tRet (tOp (cEq K) (tCB kSorted (tCons (tVar 1) tNil)) (tCall (sp_unchanged_signs K) [] E0 (tCons (tVar 0) tNil))))
def rd_is_exchange (K : PySem.W.Frag) : TS :=
  (tSeq (tIfS (tOr (tNot (tB (tCB kIsi (tCons (tVar 1) (tCons (tC (.ty "list")) tNil))))) (tNot (tB (tCB kAll (tCons (tComp [none, none] (iList K (tVar 1)) (gName 1) tTrue (tCall (sp_is_whole K) [] E0 (tCons (tVar 1) tNil))) tNil))))) (tRet (tC (.bl false))) tNext)
    (rd_is_exchange_t1 K))
theorem rk_is_exchange_t1 {K : PySem.W.Frag} {H : Hp} {Q : VK} {p S : Addr} {h w g : Int} {ss : List Int} (hp : IsFl H p h w g) (g0 : 0 ≤ g) (g1 : g ≤ 6) (hS : H S = some (.lst (ss.map V.int))) (hn : ss.length < 64) (q : ∀ H', Same H H' → Q (.bl (exOk g ss)) H') :
    rd_is_exchange_t1 K { nx := fun _ H' => Q .non H', rt := Q } [some (.ref p), some (.ref S)] H := by
  unfold rd_is_exchange_t1
  walk_at "w"
  refine w_sorted hS hn fun ns' l hl hpm hs => ?_
  have s1 : Same H (upd H l (.lst (ns'.map V.int))) := (Same.refl H).laid hl
  have el : (upd H l (.lst (ns'.map V.int))) l = some (.lst (ns'.map V.int)) := upd_same
  generalize upd H l (.lst (ns'.map V.int)) = H1 at *
  walk_at "w"
  refine ⟨p, h, w, g, rfl, s1 _ _ hp, g0, g1, fun L hL => ?_⟩
  have s2 : Same H1 (upd H1 L (.lst ((plnL g).map V.int))) := (Same.refl H1).laid hL
  refine w_eqL (s2 _ _ el) upd_same ?_
  rw [ex_is hpm hs]
  exact q _ (s1.trans s2)
theorem rk_is_exchange {K : PySem.W.Frag} {vs : List V} {H : Hp} {Q : VK} {E : XK} (h : sp_is_exchange K vs H Q E) : rd_is_exchange K { nx := fun _ H' => Q .non H', rt := Q } (start ["floor", "signs"] vs) H := by
  obtain ⟨p, S, h, w, g, ss, rfl, hp, g0, g1, hS, hn, q⟩ := h
  show rd_is_exchange K _ [some (.ref p), some (.ref S)] H
  unfold rd_is_exchange
  rw [w_seq, w_if]
  walk_at "w"
  refine w_isiL hS ?_
  walk_at "w"
  refine ⟨⟨_, SqL.of hS⟩, ?_⟩
  refine compBl66 (xs := ss) (fun _ => true) (by omega) (SqL.of hS) ?_ ?_
  · intro x H1 Q1 hx s1 k1
    show tCall _ _ _ _ [none, some (.int x)] H1 Q1
    walk_at "w"
    exact ⟨x, rfl, k1 _ (Same.refl _)⟩
  · intro l H1 hl s1 el
    walk_at "w"
    refine w_all el ?_
    have ea : ((ss.map fun _ => true).all id) = true := by simp
    rw [ea]
    refine ⟨true, rfl, ?_⟩
    walk_at "w"
    exact rk_is_exchange_t1 (s1 _ _ hp) g0 g1 (s1 _ _ hS) hn fun H' s2 => q H' (s1.trans s2)
def ExV (H : Hp) (v : V) (g : Int) (ss : List Int) : Prop := (v = .non ∧ ss = plnL g) ∨ ∃ S, v = .ref S ∧ H S = some (.lst (ss.map V.int)) ∧ ss.length < 64
theorem ExV.same {H H' : Hp} {v : V} {g : Int} {ss : List Int} (x : ExV H v g ss) (s : Same H H') : ExV H' v g ss := by
  rcases x with x | ⟨S, e, hS, hl⟩
  · exact .inl x
  · exact .inr ⟨S, e, s _ _ hS, hl⟩
def sp_exchange_by (K : PySem.W.Frag) : Sp := fun vs H Q E => ∃ (p : Addr) (h w g : Int) (v : V) (ss : List Int), vs = [.ref p, v] ∧ IsFl H p h w g ∧ 0 ≤ g ∧ g ≤ 6 ∧ ExV H v g ss ∧
  (exOk g ss = true → ∀ S H', Same H H' → H' S = some (.lst (ss.map V.int)) → Q (.ref S) H') ∧ (¬ exOk g ss = true → ∀ H', Same H H' → ∀ C, Glb K "NoMove" C → E (.ref C) none H')
theorem sl_exchange_by {K : PySem.W.Frag} {vs : List V} {H : Hp} {Q : VK} {E : XK} (h : sp_exchange_by K vs H Q E) : vs.length = 2 := by
  obtain ⟨_, _, _, _, _, _, rfl, _⟩ := h; rfl
def rd_exchange_by (K : PySem.W.Frag) (a : EA) (E : XK) : TS :=
  (tSeq (tIfS (tTest (tOp rIsN (tVar 1) (tC .non))) (tRet (tCall (sp_unchanged_signs K) [] E0 (tCons (tVar 0) tNil))) tNext)
    (tSeq (tIfS (tNot (tB (tCall (sp_is_exchange K) [] E0 (tCons (tVar 0) (tCons (tVar 1) tNil))))) (tRaise E a.NoMove (tCons (tC (.str (tx [115, 105, 103, 110, 115, 32, 97, 114, 101, 32, 101, 120, 99, 104, 97, 110, 103, 101, 100, 32, 98, 121, 32, 97, 32, 108, 105, 115, 116, 32, 119, 105, 116, 104, 32, 101, 97, 99, 104, 32, 115, 105, 103, 110, 32, 111, 102, 32, 116, 104, 101, 32, 102, 108, 111, 111, 114, 32, 111, 110, 99, 101]))) tNil)) tNext)
    (tRet (tVar 1))))
theorem rk_exchange_by {K : PySem.W.Frag} {a : EA} {os : List Addr} {vs : List V} {H : Hp} {Q : VK} {E : XK} (R : Ref1 K a "NoMove" a.NoMove os) (h : sp_exchange_by K vs H Q E) : rd_exchange_by K a E { nx := fun _ H' => Q .non H', rt := Q } (start ["floor", "signs"] vs) H := by
  obtain ⟨p, h, w, g, v, ss, rfl, hp, g0, g1, x, k1, k2⟩ := h
  show rd_exchange_by K a E _ [some (.ref p), some v] H
  unfold rd_exchange_by
  rw [w_seq, w_if]
  walk_at "w"
  rw [w_isN]
  walk_at "w"
  rcases x with ⟨rfl, rfl⟩ | ⟨S, rfl, hS, hl⟩
  · rw [decide_eq_true rfl]
    walk_at "w"
    refine ⟨p, h, w, g, rfl, hp, g0, g1, fun l hl => ?_⟩
    exact k1 (List.isPerm_iff.mpr (List.Perm.refl _)) l _ ((Same.refl H).laid hl) upd_same
  · rw [decide_eq_false (fun e => by cases e)]
    walk_at "w"
    rw [w_if]
    walk_at "w"
    refine ⟨p, S, h, w, g, ss, rfl, hp, g0, g1, hS, hl, fun H1 s1 => ?_⟩
    by_cases e : exOk g ss = true
    · rw [e]
      refine ⟨true, rfl, ?_⟩
      walk_at "w"
      exact k1 e S H1 s1 (s1 _ _ hS)
    · rw [Bool.eq_false_iff.mpr e]
      refine ⟨false, rfl, ?_⟩
      walk_at "w"
      rw [w_raise]
      walk_at "w"
      exact ⟨len_le (by decide), k2 e H1 s1 _ R.g⟩
def sp_exchanged (K : PySem.W.Frag) : Sp := fun vs H Q _ => ∃ (S : Addr) (ss : List Int) (x : Int), vs = [.int x, .ref S] ∧ H S = some (.lst (ss.map V.int)) ∧ 0 ≤ x ∧ x ≤ (ss.length : Int) ∧ Q (.int (exI ss x)) H
theorem sl_exchanged {K : PySem.W.Frag} {vs : List V} {H : Hp} {Q : VK} {E : XK} (h : sp_exchanged K vs H Q E) : vs.length = 2 := by
  obtain ⟨_, _, _, rfl, _⟩ := h; rfl
def rd_exchanged (K : PySem.W.Frag) : TS :=
  (tRet (tIf (tTest (tOp (cEq K) (tVar 0) (tC (.int 0)))) (tC (.int 0)) (tOp cIx (tVar 1) (tOp cSub (tVar 0) (tC (.int 1))))))
theorem rk_exchanged {K : PySem.W.Frag} {vs : List V} {H : Hp} {Q : VK} {E : XK} (h : sp_exchanged K vs H Q E) : rd_exchanged K { nx := fun _ H' => Q .non H', rt := Q } (start ["sign", "signs"] vs) H := by
  obtain ⟨S, ss, x, rfl, hS, x0, x1, q⟩ := h
  show rd_exchanged K _ [some (.int x), some (.ref S)] H
  unfold rd_exchanged
  walk_at "w"
  unfold exI at q
  by_cases e : x = 0
  · rw [if_pos e] at q
    rw [decide_eq_true e]
    exact iteT q
  · rw [if_neg e] at q
    rw [decide_eq_false e]
    refine iteF ?_
    walk_at "w"
    exact ixI hS (by omega) (by omega) q
def sp_moved_filling (K : PySem.W.Frag) : Sp := fun vs H Q E => ∃ (p f : Addr) (h w g m : Int) (v : V) (ss fl : List Int), vs = [.ref p, .ref f, .int m, v] ∧ IsFl H p h w g ∧ FlOk h w g ∧ H f = some (.lst (fl.map V.int)) ∧ fl.length = (h * w).toNat ∧ (∀ x ∈ fl, 0 ≤ x ∧ x ≤ g) ∧ ExV H v g ss ∧
  (0 ≤ m → m < 8 → exOk g ss = true → ∀ l H', Same H H' → H l = none → H' l = some (.lst ((mvF h w m ss fl).map V.int)) → Q (.ref l) H') ∧ (¬ ((0 ≤ m ∧ m < 8) ∧ exOk g ss = true) → ∀ H', Same H H' → ∀ C, Glb K "NoMove" C → E (.ref C) none H')
theorem sl_moved_filling {K : PySem.W.Frag} {vs : List V} {H : Hp} {Q : VK} {E : XK} (h : sp_moved_filling K vs H Q E) : vs.length = 4 := by
  obtain ⟨_, _, _, _, _, _, _, _, _, rfl, _⟩ := h; rfl
def rd_moved_filling (K : PySem.W.Frag) (E : XK) : TS :=
  (tSeq (tAsg (tCall (sp_moved_cells K) [] E (tCons (tVar 0) (tCons (tVar 2) tNil))) (gName 4))
    (tSeq (tAsg (tCall (sp_exchange_by K) [] E (tCons (tVar 0) (tCons (tVar 3) tNil))) (gName 5))
    (tSeq (tAsg (tOp cRepL (tLst (tCons (tC (.int 0)) tNil)) (tCall (sp_many_cells K) [] E0 (tCons (tVar 0) tNil))) (gName 6))
    (tSeq (tFor (iZip K (tCons (tVar 4) (tCons (tVar 1) tNil))) (gTup K 2 (gCons (gName 7) (gCons (gName 8) gNil)))
    (tAsg (tCall (sp_exchanged K) [] E0 (tCons (tVar 8) (tCons (tVar 5) tNil))) (gSub (tVar 6) (tVar 7) cPut)))
    (tRet (tVar 6))))))
theorem rep_flat (n : Nat) : (List.replicate n [V.int 0]).flatten = (List.replicate n (0 : Int)).map V.int := by
  induction n with
  | zero => rfl
  | succ n ih => rw [List.replicate_succ, List.flatten_cons, ih, List.replicate_succ]; rfl
theorem rk_moved_filling {K : PySem.W.Frag} {vs : List V} {H : Hp} {Q : VK} {E : XK} (h : sp_moved_filling K vs H Q E) : rd_moved_filling K E { nx := fun _ H' => Q .non H', rt := Q } (start ["floor", "filling", "move", "signs", "cells", "exchange", "found", "cell", "sign"] vs) H := by
  obtain ⟨p, f, h, w, g, m, v, ss, fl, rfl, hp, F, hf, hl, hx, ex, k1, k2⟩ := h
  obtain ⟨h0, h1, w0, w1, m16, g0, g1⟩ := id F
  have mpos : 0 ≤ h * w := Int.mul_nonneg (by omega) (by omega)
  show rd_moved_filling K E _ [some (.ref p), some (.ref f), some (.int m), some v, none, none, none, none, none] H
  unfold rd_moved_filling
  walk_at "w"
  refine ⟨p, m, h, w, g, rfl, hp, F, fun m0 m8 C H1 s1 hC eC => ?_, fun z D hD => k2 (fun t => z t.1) H (Same.refl H) D hD⟩
  walk_at "w"
  refine ⟨p, h, w, g, v, ss, rfl, s1 _ _ hp, by omega, g1, ex.same s1, fun ok S H2 s2 eS => ?_, fun nok H' s' D hD => k2 (fun t => nok t.2) H' (s1.trans s') D hD⟩
  have s12 := s1.trans s2
  have sl : (ss.length : Int) = g := by
    have := (List.isPerm_iff.mp ok).length_eq
    have := pln_len (show 0 ≤ g by omega)
    omega
  walk_at "w"
  refine ⟨len_le (by show (1 : Nat) ≤ 1000; decide), fun U hU => ?_⟩
  have s3 : Same H2 (upd H2 U (.lst [V.int 0])) := (Same.refl H2).laid hU
  have eU : (upd H2 U (.lst [V.int 0])) U = some (.lst [V.int 0]) := upd_same
  generalize upd H2 U (.lst [V.int 0]) = H3 at *
  have s13 := s12.trans s3
  refine ⟨p, h, w, g, rfl, s13 _ _ hp, h0, h1, ?_⟩
  refine w_repL eU mpos (by omega) (by show (1 : Nat) ≤ 1; decide) fun R hR => ?_
  rw [rep_flat]
  have s4 : Same H3 (upd H3 R (.lst ((List.replicate (h * w).toNat (0 : Int)).map V.int))) := (Same.refl H3).laid hR
  have eR : (upd H3 R (.lst ((List.replicate (h * w).toNat (0 : Int)).map V.int))) R = some (.lst ((List.replicate (h * w).toNat (0 : Int)).map V.int)) := upd_same
  generalize upd H3 R (.lst ((List.replicate (h * w).toNat (0 : Int)).map V.int)) = H4 at *
  have M := mv_ok F m0 m8
  have eC3 := s3 _ _ (s2 _ _ eC)
  have ef3 := s13 _ _ hf
  have eS3 := s3 _ _ eS
  walk_at "w"
  rw [w_forZ]
  walk_at "w"
  refine ⟨C, f, rfl, ⟨_, SqL.of (s4 _ _ eC3)⟩, ⟨_, SqL.of (s4 _ _ ef3)⟩, ?_⟩
  refine for_zip (xs := (mvL h w m).map V.int) (ys := fl.map V.int) (fun i σ H' => ∃ (v7 v8 : Option V), σ = [some (.ref p), some (.ref f), some (.int m), some v, some (.ref C), some (.ref S), some (.ref R), v7, v8] ∧ Same H3 H' ∧ H' R = some (.lst ((puJ (List.replicate (h * w).toNat 0) (mvL h w m) (fl.map (exI ss)) i).map V.int)))
    (by rw [List.length_map, List.length_map, M.len, hl]) ⟨none, none, rfl, s4, eR⟩ (fun i σ H' _ ⟨_, _, _, s5, _⟩ => ⟨SqL.of (s5 _ _ eC3), SqL.of (s5 _ _ ef3)⟩) ?_ ?_
  · rintro i x y T σ H5 hx1 hy1 ⟨v7, v8, rfl, s5, e5⟩ hT
    obtain ⟨c, hc, rfl⟩ := map_int_get hx1
    obtain ⟨z, hz, rfl⟩ := map_int_get hy1
    have ci := M.lt c (List.mem_of_getElem? hc)
    have zi := hx z (List.mem_of_getElem? hz)
    have s6 : Same H5 (upd H5 T (.tup [V.int c, V.int z])) := (Same.refl H5).laid hT
    refine w_gtup upd_same rfl ?_
    rw [w_gcons2]
    generalize upd H5 T (.tup [V.int c, V.int z]) = H6 at *
    walk_at "w"
    refine ⟨S, ss, z, rfl, (s5.trans s6) _ _ eS3, zi.1, by omega, ?_⟩
    walk_at "w"
    refine w_put (s6 _ _ e5) ci.1 (by rw [List.length_map, puJ_len, List.length_replicate]; omega) ?_
    refine ⟨_, _, rfl, (s5.trans s6).own hR, ?_⟩
    rw [upd_same]
    show _ = some (HO.lst (((puJ (List.replicate (h * w).toNat 0) (mvL h w m) (fl.map (exI ss)) i).set ((mvL h w m).getD i 0).toNat ((fl.map (exI ss)).getD i 0)).map V.int))
    rw [List.map_set, getD_of hc]
    have e7 : (fl.map (exI ss)).getD i 0 = exI ss z := by rw [List.getD, List.getElem?_map, hz]; rfl
    rw [e7]
  · rintro σ H5 ⟨v7, v8, rfl, s5, e5⟩
    rw [List.length_map, M.len, mvF_rep F m0 m8 hl (by rw [List.length_replicate])] at e5
    walk_at "w"
    exact k1 m0 m8 ok R H5 (s13.trans s5) (s13.free hR) e5
def sp__law_exchange (K : PySem.W.Frag) : Sp := fun vs H Q _ => ∃ (num many : Int), vs = [.int num, .int many] ∧ 0 ≤ many ∧ many ≤ 6 ∧
  ∀ (l : Addr) (H' : Hp) (ss : List Int), Same H H' → H l = none → H' l = some (.lst (ss.map V.int)) → ss.Perm (plnL many) → Q (.ref l) H'
theorem sl__law_exchange {K : PySem.W.Frag} {vs : List V} {H : Hp} {Q : VK} {E : XK} (h : sp__law_exchange K vs H Q E) : vs.length = 2 := by
  obtain ⟨_, _, rfl, _⟩ := h; rfl
def rd__law_exchange (K : PySem.W.Frag) : TS :=
  (tSeq (tAsg (tListRng2 (tCons (tC (.int 1)) (tCons (tOp cAdd (tVar 1) (tC (.int 1))) tNil))) (gName 2))
    (tSeq (tAsg (tLst tNil) (gName 3))
    (tSeq (tFor (iRng1 (tCons (tVar 1) tNil)) (gName 4)
    (tDrop (tBM K "list" kAppend (tVar 3) (tCons (tBM K "list" kPopAt (tVar 2) (tCons (tOp cMod (tOp cDiv (tVar 0) (tOp cAdd (tOp cMul (tC (.int 3)) (tVar 4)) (tC (.int 1)))) (tCB kLen (tCons (tVar 2) tNil))) tNil)) tNil))))
    (tRet (tVar 3)))))
theorem perm_erase66 : ∀ (ls : List Int) (j : Nat) (h : j < ls.length), (ls[j] :: ls.eraseIdx j).Perm ls
  | a :: r, 0, _ => List.Perm.refl _
  | a :: r, j + 1, h => by
    have hj : j < r.length := by simpa using h
    have ih := perm_erase66 r j hj
    exact (List.Perm.swap a r[j] (r.eraseIdx j)).trans (ih.cons a)
theorem erase_map66 (ls : List Int) (j : Nat) : (ls.map V.int).eraseIdx j = (ls.eraseIdx j).map V.int := by
  induction ls generalizing j with
  | nil => rfl
  | cons a r ih => cases j with
    | zero => rfl
    | succ j => show V.int a :: (r.map V.int).eraseIdx j = _; rw [ih]; rfl
theorem rk__law_exchange {K : PySem.W.Frag} {vs : List V} {H : Hp} {Q : VK} {E : XK} (h : sp__law_exchange K vs H Q E) : rd__law_exchange K { nx := fun _ H' => Q .non H', rt := Q } (start ["_law_cell", "_law_many", "_law_left", "_law_found", "_law_k"] vs) H := by
  obtain ⟨num, many, rfl, c0, m1, q⟩ := h
  have pl := pln_len c0
  show rd__law_exchange K _ [some (.int num), some (.int many), none, none, none] H
  unfold rd__law_exchange
  walk_at "w"
  refine ⟨1, many + 1, rfl, ⟨by decide, by decide, by omega, by omega⟩, fun L hL => ?_⟩
  have s1 : Same H (upd H L (.lst ((plnL many).map V.int))) := (Same.refl H).laid hL
  have eL : (upd H L (.lst ((plnL many).map V.int))) L = some (.lst ((plnL many).map V.int)) := upd_same
  generalize hHq : upd H L (.lst ((plnL many).map V.int)) = H1 at *
  have hHq' : upd H L (.lst ((rngL 1 (many + 1)).map V.int)) = H1 := hHq
  rw [hHq']
  walk_at "w"
  refine ⟨len_le (by decide), fun R hR => ?_⟩
  have nRL : R ≠ L := fun e => by rw [e, eL] at hR; cases hR
  refine ⟨many, rfl, by omega, by omega, ?_⟩
  refine for_range (fun i σ H' => ∃ (kv : Option V) (fs ls : List Int), σ = [some (.int num), some (.int many), some (.ref L), some (.ref R), kv] ∧ Same H H' ∧ H' L = some (.lst (ls.map V.int)) ∧ H' R = some (.lst (fs.map V.int)) ∧ (fs ++ ls).Perm (plnL many) ∧ fs.length = i)
    ⟨none, [], plnL many, rfl, s1.laid hR, by rw [upd_ne nRL.symm]; exact eL, by rw [upd_same]; rfl, List.Perm.refl _, rfl⟩ ?_ ?_
  · rintro i σ H2 hi ⟨kv, fs, ls, rfl, s2, e1, e2, hp, hl⟩
    have hlen := hp.length_eq
    rw [List.length_append] at hlen
    walk_at "w"
    refine ⟨tyV_list e2, tyV_list e1, .inl ⟨by decide, by decide⟩, ⟨by omega, by omega⟩, ?_⟩
    rw [w_len e1, List.length_map]
    have hpos : 0 < (ls.length : Int) := by omega
    generalize num / (3 * (0 + (i : Int)) + 1) = y at *
    have j0 := Int.emod_nonneg y (Int.ne_of_gt hpos)
    have j1 := Int.emod_lt_of_pos y hpos
    refine ⟨hpos, ?_⟩
    generalize y % (ls.length : Int) = j at *
    have hj : j.toNat < ls.length := by omega
    refine w_popAt e1 j0 (by rw [List.length_map]; omega) (y := V.int ls[j.toNat]) (by rw [List.getElem?_map, List.getElem?_eq_getElem hj]; rfl) ?_
    have e2' : (upd H2 L (.lst ((ls.map V.int).eraseIdx j.toNat))) R = some (.lst (fs.map V.int)) := by rw [upd_ne nRL]; exact e2
    walk_at "w"
    rw [w_append e2']
    refine ⟨by rw [List.length_map]; exact small1000 (by omega), _, fs ++ [ls[j.toNat]], ls.eraseIdx j.toNat, rfl, (s2.own hL).own (s1.free hR), ?_, ?_, ?_, by simp [hl]⟩
    · rw [upd_ne nRL.symm, upd_same, erase_map66]
    · rw [upd_same]; simp
    · have p1 := perm_erase66 ls j.toNat hj
      have p2 := List.Perm.append_left fs p1
      refine List.Perm.trans ?_ hp
      rw [List.append_assoc]
      exact p2
  · rintro σ H2 ⟨kv, fs, ls, rfl, s2, e1, e2, hp, hl⟩
    have hlen := hp.length_eq
    rw [List.length_append] at hlen
    have hz : ls = [] := List.length_eq_zero_iff.mp (by omega)
    rw [hz, List.append_nil] at hp
    walk_at "w"
    exact q R H2 fs s2 (s1.free hR) e2 hp
theorem cut_from (xs : List V) (k : Nat) : cutV xs (some (k : Int)) none = xs.drop k := by
  have h1 : HT.sIx xs.length 0 (some (k : Int)) = min k xs.length := by rw [HT.sIx_nat]
  have h2 : HT.sIx xs.length xs.length none = xs.length := rfl
  unfold cutV
  rw [h1, h2]
  by_cases hk : k ≤ xs.length
  · rw [Nat.min_eq_left hk, List.take_of_length_le (by simp)]
  · rw [Nat.min_eq_right (by omega), List.drop_length, List.drop_eq_nil_of_le (by omega)]
    simp
theorem cut_to (xs : List V) (k : Nat) : cutV xs none (some (k : Int)) = xs.take k := by
  have h1 : HT.sIx xs.length 0 none = 0 := rfl
  have h2 : HT.sIx xs.length xs.length (some (k : Int)) = min k xs.length := by rw [HT.sIx_nat]
  unfold cutV
  rw [h1, h2, List.drop_zero]
  by_cases hk : k ≤ xs.length
  · rw [Nat.min_eq_left hk]; rfl
  · rw [Nat.min_eq_right (by omega), List.take_of_length_le (by simp), List.take_of_length_le (by omega)]
theorem no_len {g : Int} {bs : List Int} (g0 : 0 ≤ g) (h : (bs.length : Int) ≠ g) : ¬ exOk g bs = true := fun e => by
  have := (List.isPerm_iff.mp e).length_eq
  have := pln_len g0
  omega
theorem no_mem {g x : Int} {bs : List Int} (hx : x ∈ bs) (h : ¬ (1 ≤ x ∧ x ≤ g)) : ¬ exOk g bs = true := fun e => h (pln_mem.mp ((List.isPerm_iff.mp e).mem_iff.mp hx))
theorem no_twice {g x : Int} {a b : List Int} (h : x ∈ a ∨ x ∈ b) : ¬ exOk g (a ++ [x] ++ b) = true := fun e => by
  have nd := (List.isPerm_iff.mp e).nodup_iff.mpr (pln_nodup g)
  rw [List.append_assoc] at nd
  have nd2 := List.nodup_append.mp nd
  rcases h with h | h
  · exact nd2.2.2 x h x (by simp) rfl
  · have := nd2.2.1
    rw [List.singleton_append, List.nodup_cons] at this
    exact this.1 h
def sp__law_bad_list (K : PySem.W.Frag) : Sp := fun vs H Q _ => ∃ (S : Addr) (ss : List Int) (g y : Int), vs = [.ref S, .int y] ∧ H S = some (.lst (ss.map V.int)) ∧ 1 ≤ g ∧ g ≤ 6 ∧ ss.Perm (plnL g) ∧
  ∀ (l : Addr) (H' : Hp) (bs : List Int), Same H H' → H' l = some (.lst (bs.map V.int)) → bs.length < 64 → ¬ exOk g bs = true → Q (.ref l) H'
theorem sl__law_bad_list {K : PySem.W.Frag} {vs : List V} {H : Hp} {Q : VK} {E : XK} (h : sp__law_bad_list K vs H Q E) : vs.length = 2 := by
  obtain ⟨_, _, _, _, rfl, _⟩ := h; rfl
def rd__law_bad_list_t4 (K : PySem.W.Frag) : TS :=
  (tSeq (tIfS (tTest (tOp (cEq K) (tOp cMod (tVar 1) (tC (.int 5))) (tC (.int 3)))) (tRet (tOp cAdd (tOp cAdd (tSl cSl2 (tVar 0) tNoPart (tPart (tVar 2))) (tLst (tCons (tC (.int 0)) tNil))) (tSl cSl2 (tVar 0) (tPart (tOp cAdd (tVar 2) (tC (.int 1)))) tNoPart))) tNext)
    (tRet (tOp cAdd (tOp cAdd (tSl cSl2 (tVar 0) tNoPart (tPart (tVar 2))) (tLst (tCons (tOp cAdd (tOp cAdd (tCB kLen (tCons (tVar 0) tNil)) (tC (.int 1))) (tOp cMod (tOp cDiv (tVar 1) (tC (.int 64))) (tOp cPow (tC (.int 10)) (tC (.int 9))))) tNil))) (tSl cSl2 (tVar 0) (tPart (tOp cAdd (tVar 2) (tC (.int 1)))) tNoPart))))
def rd__law_bad_list (K : PySem.W.Frag) : TS :=
  (tSeq (tAsg (tOp cMod (tOp cDiv (tVar 1) (tC (.int 5))) (tCB kLen (tCons (tVar 0) tNil))) (gName 2))
    (tSeq (tIfS (tTest (tOp (cEq K) (tOp cMod (tVar 1) (tC (.int 5))) (tC (.int 0)))) (tRet (tSl cSl2 (tVar 0) (tPart (tC (.int 1))) tNoPart)) tNext)
    (tSeq (tIfS (tTest (tOp (cEq K) (tOp cMod (tVar 1) (tC (.int 5))) (tC (.int 1)))) (tRet (tOp cAdd (tVar 0) (tLst (tCons (tOp cIx (tVar 0) (tVar 2)) tNil)))) tNext)
    (tSeq (tIfS (tAnd (tTest (tOp (cEq K) (tOp cMod (tVar 1) (tC (.int 5))) (tC (.int 2)))) (tTest (tOp (cCmp fun i j => decide (j < i)) (tCB kLen (tCons (tVar 0) tNil)) (tC (.int 1))))) (tRet (tOp cAdd (tOp cAdd (tSl cSl2 (tVar 0) tNoPart (tPart (tVar 2))) (tLst (tCons (tOp cIx (tVar 0) (tOp cSub (tVar 2) (tC (.int 1)))) tNil))) (tSl cSl2 (tVar 0) (tPart (tOp cAdd (tVar 2) (tC (.int 1)))) tNoPart))) tNext)
    (rd__law_bad_list_t4 K)))))
theorem w_patch2 {K : PySem.W.Frag} {H0 H1 : Hp} {Q : VK} {S A : Addr} {ss : List Int} {k : Nat} {x : Int} (s0 : Same H0 H1) (hS : H1 S = some (.lst (ss.map V.int))) (eA : H1 A = some (.lst ((ss.take k).map V.int))) (hn : ss.length ≤ 6)
    (q : ∀ (l : Addr) (H' : Hp), Same H0 H' → H' l = some (.lst ((ss.take k ++ [x] ++ ss.drop (k + 1)).map V.int)) → Q (.ref l) H') :
    ([V.int x].length ≤ sizeLine ∧ ∀ p, H1 p = none → cAdd (.ref A) (.ref p) (upd H1 p (.lst [V.int x])) fun v2 H2 => cSl2 (.ref S) (some ((k : Int) + 1)) none H2 fun v3 H3 => cAdd v2 v3 H3 Q) := by
  refine ⟨len_le (by show (1 : Nat) ≤ 1000; decide), fun B hB => ?_⟩
  have s2 : Same H1 (upd H1 B (.lst [V.int x])) := (Same.refl H1).laid hB
  have eB : (upd H1 B (.lst [V.int x])) B = some (.lst [V.int x]) := upd_same
  generalize upd H1 B (.lst [V.int x]) = H2 at *
  refine w_addL (s2 _ _ eA) eB (by rw [List.length_map, List.length_take]; show _ + 1 ≤ 1000; omega) fun C hC => ?_
  have s3 : Same H2 (upd H2 C (.lst ((ss.take k).map V.int ++ [V.int x]))) := (Same.refl H2).laid hC
  have eC : (upd H2 C (.lst ((ss.take k).map V.int ++ [V.int x]))) C = some (.lst ((ss.take k).map V.int ++ [V.int x])) := upd_same
  generalize upd H2 C (.lst ((ss.take k).map V.int ++ [V.int x])) = H3 at *
  refine w_slL (s3 _ _ (s2 _ _ hS)) fun D hD => ?_
  rw [show (k : Int) + 1 = ((k + 1 : Nat) : Int) by omega, cut_from, ← List.map_drop]
  have s4 : Same H3 (upd H3 D (.lst ((ss.drop (k + 1)).map V.int))) := (Same.refl H3).laid hD
  have eD : (upd H3 D (.lst ((ss.drop (k + 1)).map V.int))) D = some (.lst ((ss.drop (k + 1)).map V.int)) := upd_same
  generalize upd H3 D (.lst ((ss.drop (k + 1)).map V.int)) = H4 at *
  refine w_addL (s4 _ _ eC) eD (by simp; omega) fun G hG => ?_
  refine q G _ (((s0.trans s2).trans s3).trans (s4.trans ((Same.refl H4).laid hG))) ?_
  rw [upd_same]
  simp
theorem w_patch1 {H : Hp} {Q : VK} {S : Addr} {ss : List Int} {k : Nat} (hS : H S = some (.lst (ss.map V.int))) (q : ∀ (A : Addr) (H1 : Hp), Same H H1 → H1 A = some (.lst ((ss.take k).map V.int)) → Q (.ref A) H1) : cSl2 (.ref S) none (some (k : Int)) H Q := by
  refine w_slL hS fun A hA => ?_
  rw [cut_to, ← List.map_take]
  exact q A _ ((Same.refl H).laid hA) upd_same
theorem atI_back {ss : List Int} {k : Nat} (hk : k < ss.length) (h1 : 1 < ss.length) : ∃ x : Int, atI (ss.map V.int) ((k : Int) - 1) = some (V.int x) ∧ (x ∈ ss.take k ∨ x ∈ ss.drop (k + 1)) := by
  by_cases e : k = 0
  · subst e
    refine ⟨ss[ss.length - 1], ?_, .inr ?_⟩
    · unfold atI ixN
      rw [List.length_map, if_neg (by decide), if_pos (by omega)]
      show (ss.map V.int)[((ss.length : Int) + ((0 : Nat) - 1)).toNat]? = _
      rw [show ((ss.length : Int) + (((0 : Nat) : Int) - 1)).toNat = ss.length - 1 by omega, List.getElem?_map, List.getElem?_eq_getElem (by omega)]
      rfl
    · rw [List.mem_iff_getElem]
      exact ⟨ss.length - 2, by simp; omega, by rw [List.getElem_drop]; congr 1; omega⟩
  · refine ⟨ss[k - 1], ?_, .inl ?_⟩
    · rw [show (k : Int) - 1 = ((k - 1 : Nat) : Int) by omega]
      exact atI_nat (by rw [List.getElem?_map, List.getElem?_eq_getElem (by omega)]; rfl)
    · rw [List.mem_iff_getElem]
      exact ⟨k - 1, by simp; omega, by rw [List.getElem_take]⟩
theorem rk__law_bad_list_t4 {K : PySem.W.Frag} {H : Hp} {Q : VK} {S : Addr} {ss : List Int} {g y : Int} {k : Nat} (hS : H S = some (.lst (ss.map V.int))) (g0 : 1 ≤ g) (g1 : g ≤ 6) (sl : (ss.length : Int) = g) (hkl : k < ss.length)
    (q : ∀ (l : Addr) (H' : Hp) (bs : List Int), Same H H' → H' l = some (.lst (bs.map V.int)) → bs.length < 64 → ¬ exOk g bs = true → Q (.ref l) H') :
    rd__law_bad_list_t4 K { nx := fun _ H' => Q .non H', rt := Q } [some (.ref S), some (.int y), some (.int (k : Int))] H := by
  unfold rd__law_bad_list_t4
  rw [w_seq, w_if]
  walk_at "w"
  refine ⟨by decide, ?_⟩
  by_cases c3 : y % 5 = 3
  · rw [decide_eq_true c3]
    refine iteT ?_
    walk_at "w"
    refine w_patch1 hS fun A H1 s1 eA => ?_
    refine w_patch2 (K := K) s1 (s1 _ _ hS) eA (by omega) fun l H' s' e' => ?_
    exact q l H' _ s' e' (by simp; omega) (no_mem (x := 0) (by simp) (by omega))
  · rw [decide_eq_false c3]
    refine iteF ?_
    walk_at "w"
    refine w_patch1 hS fun A H1 s1 eA => ?_
    rw [w_len (s1 _ _ hS), List.length_map]
    walk_at "w"
    refine ⟨⟨by decide, by decide⟩, ?_⟩
    rw [w_pow]
    refine ⟨⟨by decide, by decide, by decide⟩, ?_⟩
    walk_at "w"
    refine ⟨by decide, ?_⟩
    have r0 := Int.emod_nonneg (y / 64) (show (10 : Int) ^ (9 : Int).toNat ≠ 0 by decide)
    generalize y / 64 % 10 ^ (9 : Int).toNat = r at *
    refine w_patch2 (K := K) s1 (s1 _ _ hS) eA (by omega) fun l H' s' e' => ?_
    exact q l H' _ s' e' (by simp; omega) (no_mem (x := (ss.length : Int) + 1 + r) (by simp) (by omega))
theorem rk__law_bad_list {K : PySem.W.Frag} {vs : List V} {H : Hp} {Q : VK} {E : XK} (h : sp__law_bad_list K vs H Q E) : rd__law_bad_list K { nx := fun _ H' => Q .non H', rt := Q } (start ["_law_signs", "_law_cell", "_law_at_here"] vs) H := by
  obtain ⟨S, ss, g, y, rfl, hS, g0, g1, hp, q⟩ := h
  have sl : (ss.length : Int) = g := by
    have := hp.length_eq
    have := pln_len (show 0 ≤ g by omega)
    omega
  show rd__law_bad_list K _ [some (.ref S), some (.int y), none] H
  unfold rd__law_bad_list
  walk_at "w"
  refine ⟨⟨by decide, by decide⟩, ?_⟩
  rw [w_len hS, List.length_map]
  refine ⟨by omega, ?_⟩
  have b0 := Int.emod_nonneg (y / 5) (show (ss.length : Int) ≠ 0 by omega)
  have b1 := Int.emod_lt_of_pos (y / 5) (show 0 < (ss.length : Int) by omega)
  obtain ⟨k, hk⟩ := Int.eq_ofNat_of_zero_le b0
  rw [hk] at b1 ⊢
  have hkl : k < ss.length := by omega
  walk_at "w"
  rw [w_if]
  walk_at "w"
  refine ⟨by decide, ?_⟩
  by_cases c0 : y % 5 = 0
  · rw [decide_eq_true c0]
    refine iteT ?_
    walk_at "w"
    refine w_slL hS fun l hl => ?_
    rw [show (1 : Int) = ((1 : Nat) : Int) from rfl, cut_from, ← List.map_drop]
    refine q l _ (ss.drop 1) ((Same.refl H).laid hl) upd_same (by rw [List.length_drop]; omega) (no_len (by omega) (by rw [List.length_drop]; omega))
  · rw [decide_eq_false c0]
    refine iteF ?_
    rw [w_if]
    walk_at "w"
    refine ⟨by decide, ?_⟩
    by_cases c1 : y % 5 = 1
    · rw [decide_eq_true c1]
      refine iteT ?_
      walk_at "w"
      refine ixI hS (by omega) b1 ?_
      walk_at "w"
      refine ⟨len_le (by show (1 : Nat) ≤ 1000; decide), fun B hB => ?_⟩
      generalize ss.getD ((k : Nat) : Int).toNat 0 = x at *
      have s2 : Same H (upd H B (.lst [V.int x])) := (Same.refl H).laid hB
      have eB : (upd H B (.lst [V.int x])) B = some (.lst [V.int x]) := upd_same
      generalize upd H B (.lst [V.int x]) = H2 at *
      refine w_addL (s2 _ _ hS) eB (by rw [List.length_map]; show _ + 1 ≤ 1000; omega) fun C hC => ?_
      refine q C _ (ss ++ [x]) (s2.trans ((Same.refl H2).laid hC)) (by rw [upd_same]; simp) (by simp; omega) (no_len (by omega) (by simp; omega))
    · rw [decide_eq_false c1]
      refine iteF ?_
      rw [w_if]
      walk_at "w"
      refine ⟨by decide, ?_⟩
      have rest := rk__law_bad_list_t4 (K := K) (y := y) hS g0 g1 sl hkl q
      by_cases c2 : y % 5 = 2
      · rw [decide_eq_true c2]
        refine iteT ?_
        rw [w_len hS, List.length_map]
        walk_at "w"
        by_cases c4 : (1 : Int) < (ss.length : Int)
        · rw [decide_eq_true c4]
          walk_at "w"
          refine w_patch1 hS fun A H1 s1 eA => ?_
          obtain ⟨x, ex, hx⟩ := atI_back hkl (by omega)
          refine ixL (s1 _ _ hS) ex ?_
          refine w_patch2 (K := K) s1 (s1 _ _ hS) eA (by omega) fun l H' s' e' => ?_
          exact q l H' _ s' e' (by simp; omega) (no_twice hx)
        · rw [decide_eq_false c4]
          walk_at "w"
          exact rest
      · rw [decide_eq_false c2]
        walk_at "w"
        exact rest
def sp__law_due (K : PySem.W.Frag) : Sp := fun vs H Q _ => ∃ (p f S : Addr) (h w g m : Int) (ss fl : List Int), vs = [.ref p, .ref f, .int m, .ref S] ∧ IsFl H p h w g ∧ FlOk h w g ∧ 0 ≤ m ∧ m < 8 ∧ H f = some (.lst (fl.map V.int)) ∧ fl.length = (h * w).toNat ∧ (∀ x ∈ fl, 0 ≤ x ∧ x ≤ g) ∧ H S = some (.lst (ss.map V.int)) ∧ (ss.length : Int) = g ∧
  ∀ l H', Same H H' → H l = none → H' l = some (.lst ((mvF h w m ss fl).map V.int)) → Q (.ref l) H'
theorem sl__law_due {K : PySem.W.Frag} {vs : List V} {H : Hp} {Q : VK} {E : XK} (h : sp__law_due K vs H Q E) : vs.length = 4 := by
  obtain ⟨_, _, _, _, _, _, _, _, _, rfl, _⟩ := h; rfl
def rd__law_due (K : PySem.W.Frag) : TS :=
  (tSeq (tAsg (tCB kList (tCons (tVar 1) tNil)) (gName 4))
    (tSeq (tFor (iEnum K (tCons (tVar 1) tNil)) (gTup K 2 (gCons (gName 5) (gCons (gName 6) gNil)))
    (tAsg (tOp cIx (tOp cAdd (tLst (tCons (tC (.int 0)) tNil)) (tVar 3)) (tVar 6)) (gSub (tVar 4) (tCall (sp__law_spot K) [] E0 (tCons (tVar 0) (tCons (tVar 5) (tCons (tVar 2) tNil)))) cPut)))
    (tRet (tVar 4))))
theorem atI_zero {ss : List Int} {x : Int} (x0 : 0 ≤ x) (x1 : x ≤ (ss.length : Int)) : atI ([V.int 0] ++ ss.map V.int) x = some (V.int (exI ss x)) := by
  obtain ⟨n, rfl⟩ := Int.eq_ofNat_of_zero_le x0
  refine atI_nat ?_
  unfold exI
  by_cases e : (n : Int) = 0
  · rw [if_pos e]
    have : n = 0 := by omega
    subst this
    rfl
  · rw [if_neg e]
    obtain ⟨k, rfl⟩ : ∃ k, n = k + 1 := ⟨n - 1, by omega⟩
    show (ss.map V.int)[k]? = _
    rw [List.getElem?_map, List.getElem?_eq_getElem (by omega), show (((k + 1 : Nat) : Int) - 1).toNat = k by omega, List.getD, List.getElem?_eq_getElem (by omega)]
    rfl
theorem rk__law_due {K : PySem.W.Frag} {vs : List V} {H : Hp} {Q : VK} {E : XK} (h : sp__law_due K vs H Q E) : rd__law_due K { nx := fun _ H' => Q .non H', rt := Q } (start ["_law_floor_here", "_law_filling", "_law_move", "_law_signs", "_law_due_here", "_law_cell", "_law_sign"] vs) H := by
  obtain ⟨p, f, S, h, w, g, m, ss, fl, rfl, hp, F, m0, m8, hf, hl, hx, hS, sl, q⟩ := h
  obtain ⟨h0, h1, w0, w1, m16, g0, g1⟩ := id F
  have mpos : 0 ≤ h * w := Int.mul_nonneg (by omega) (by omega)
  have M := mv_ok F m0 m8
  show rd__law_due K _ [some (.ref p), some (.ref f), some (.int m), some (.ref S), none, none, none] H
  unfold rd__law_due
  walk_at "w"
  refine w_list hf fun R hR => ?_
  have s1 : Same H (upd H R (.lst (fl.map V.int))) := (Same.refl H).laid hR
  have eR : (upd H R (.lst (fl.map V.int))) R = some (.lst (fl.map V.int)) := upd_same
  generalize upd H R (.lst (fl.map V.int)) = H1 at *
  walk_at "w"
  refine ⟨f, rfl, ⟨_, SqL.of (s1 _ _ hf)⟩, ?_⟩
  refine for_enum (xs := fl.map V.int) (fun i σ H' => ∃ (v5 v6 : Option V), σ = [some (.ref p), some (.ref f), some (.int m), some (.ref S), some (.ref R), v5, v6] ∧ Same H H' ∧ H' R = some (.lst ((puJ fl (mvL h w m) (fl.map (exI ss)) i).map V.int)))
    ⟨none, none, rfl, s1, eR⟩ (fun i σ H' _ ⟨_, _, _, s5, _⟩ => SqL.of (s5 _ _ hf)) ?_ ?_
  · rintro i x T σ H5 hx1 ⟨v5, v6, rfl, s5, e5⟩ hT
    obtain ⟨z, hz, rfl⟩ := map_int_get hx1
    have hi : i < fl.length := (List.getElem?_eq_some_iff.mp hz).1
    have zi := hx z (List.mem_of_getElem? hz)
    have ec : (mvL h w m).getD i 0 = mvC h w m (i : Int) := by
      unfold mvL
      rw [List.getD, List.getElem?_map, List.getElem?_range (by omega)]
      rfl
    have ci := getD_in M.lt (show i < (mvL h w m).length by rw [M.len]; omega)
    rw [ec] at ci
    have s6 : Same H5 (upd H5 T (.tup [V.int (i : Int), V.int z])) := (Same.refl H5).laid hT
    refine w_gtup upd_same rfl ?_
    rw [w_gcons2]
    generalize upd H5 T (.tup [V.int (i : Int), V.int z]) = H6 at *
    have s56 := s5.trans s6
    walk_at "w"
    refine ⟨len_le (by show (1 : Nat) ≤ 1000; decide), fun Z hZ => ?_⟩
    have s7 : Same H6 (upd H6 Z (.lst [V.int 0])) := (Same.refl H6).laid hZ
    have eZ : (upd H6 Z (.lst [V.int 0])) Z = some (.lst [V.int 0]) := upd_same
    generalize upd H6 Z (.lst [V.int 0]) = H7 at *
    refine w_addL eZ ((s56.trans s7) _ _ hS) (by rw [List.length_map]; show 1 + _ ≤ 1000; omega) fun G hG => ?_
    have s8 : Same H7 (upd H7 G (.lst ([V.int 0] ++ ss.map V.int))) := (Same.refl H7).laid hG
    have eG : (upd H7 G (.lst ([V.int 0] ++ ss.map V.int))) G = some (.lst ([V.int 0] ++ ss.map V.int)) := upd_same
    generalize upd H7 G (.lst ([V.int 0] ++ ss.map V.int)) = H8 at *
    have s58 := (s56.trans s7).trans s8
    refine ixL eG (atI_zero zi.1 (by omega)) ?_
    walk_at "w"
    refine ⟨p, h, w, g, m, (i : Int), rfl, s58 _ _ hp, F, m0, m8, fun H9 s9 => ?_⟩
    refine w_put (s9 _ _ (s8 _ _ (s7 _ _ (s6 _ _ e5)))) ci.1 (by rw [List.length_map, puJ_len]; omega) ?_
    refine ⟨_, _, rfl, (s58.trans s9).own hR, ?_⟩
    rw [upd_same]
    show _ = some (HO.lst (((puJ fl (mvL h w m) (fl.map (exI ss)) i).set ((mvL h w m).getD i 0).toNat ((fl.map (exI ss)).getD i 0)).map V.int))
    rw [List.map_set, ec]
    have e7 : (fl.map (exI ss)).getD i 0 = exI ss z := by rw [List.getD, List.getElem?_map, hz]; rfl
    rw [e7]
  · rintro σ H5 ⟨v5, v6, rfl, s5, e5⟩
    rw [List.length_map, hl] at e5
    walk_at "w"
    exact q R H5 s5 hR e5
def sp__law_are (K : PySem.W.Frag) : Sp := fun vs H Q _ => ∃ (a b : Addr) (xs ys : List Int), vs = [.ref a, .ref b] ∧ H a = some (.lst (xs.map V.int)) ∧ H b = some (.lst (ys.map V.int)) ∧ xs.length ≤ 16 ∧ xs = ys ∧ ∀ H', Same H H' → Q (.bl true) H'
theorem sl__law_are {K : PySem.W.Frag} {vs : List V} {H : Hp} {Q : VK} {E : XK} (h : sp__law_are K vs H Q E) : vs.length = 2 := by
  obtain ⟨_, _, _, _, rfl, _⟩ := h; rfl
def rd__law_are (K : PySem.W.Frag) : TS :=
  (tSeq (tIfS (tOr (tNot (tB (tCB kIsi (tCons (tVar 0) (tCons (tC (.ty "list")) tNil))))) (tTest (tOp (cNe K) (tVar 0) (tVar 1)))) (tRet (tC (.bl false))) tNext)
    (tRet (tOp (cEq K) (tCB kLen (tCons (tComp [none, none] (iList K (tVar 0)) (gName 1) (tB (tCall (sp__law_whole K) [] E0 (tCons (tVar 1) tNil))) (tVar 1)) tNil)) (tCB kLen (tCons (tVar 1) tNil)))))
theorem rk__law_are {K : PySem.W.Frag} {vs : List V} {H : Hp} {Q : VK} {E : XK} (h : sp__law_are K vs H Q E) : rd__law_are K { nx := fun _ H' => Q .non H', rt := Q } (start ["_law_found", "_law_due_here"] vs) H := by
  obtain ⟨a, b, xs, ys, rfl, ha, hb, hn, rfl, q⟩ := h
  show rd__law_are K _ [some (.ref a), some (.ref b)] H
  unfold rd__law_are
  rw [w_seq, w_if]
  walk_at "w"
  refine w_isiL ha ?_
  walk_at "w"
  refine w_neL ha hb ?_
  rw [decide_eq_true rfl]
  walk_at "w"
  refine ⟨⟨_, SqL.of ha⟩, ?_⟩
  refine compI_list (xs := xs) (fun _ => true) (fun z => z) (by omega) (SqL.of ha) ?_ ?_ ?_
  · intro z H4 R hz s4 k4
    show tB _ [none, some (.int z)] H4 R
    walk_at "w"
    exact ⟨z, rfl, ⟨true, rfl, k4 _ (Same.refl _)⟩⟩
  · intro z H4 Q4 hz hb4 s4 k4
    show tVar 1 [none, some (.int z)] H4 Q4
    walk_at "w"
    exact k4 _ (Same.refl _)
  · intro l2 H4 hl2 s4 el2
    rw [List.filter_eq_self.mpr fun _ _ => rfl, List.map_id'] at el2
    walk_at "w"
    rw [w_len el2, List.length_map]
    walk_at "w"
    rw [w_len (s4 _ _ hb), List.length_map]
    walk_at "w"
    first | exact q _ s4 | (rw [decide_eq_true rfl]; exact q _ s4)
def sp__law_refused (K : PySem.W.Frag) : Sp := fun vs H Q _ => ∃ (p f : Addr) (h w g m : Int) (v : V) (ss fl : List Int), vs = [.ref p, .ref f, .int m, v] ∧ IsFl H p h w g ∧ FlOk h w g ∧ H f = some (.lst (fl.map V.int)) ∧ fl.length = (h * w).toNat ∧ (∀ x ∈ fl, 0 ≤ x ∧ x ≤ g) ∧ ExV H v g ss ∧ ¬ ((0 ≤ m ∧ m < 8) ∧ exOk g ss = true) ∧ ∀ H', Same H H' → Q (.bl true) H'
theorem sl__law_refused {K : PySem.W.Frag} {vs : List V} {H : Hp} {Q : VK} {E : XK} (h : sp__law_refused K vs H Q E) : vs.length = 4 := by
  obtain ⟨_, _, _, _, _, _, _, _, _, rfl, _⟩ := h; rfl
def rd__law_refused (K : PySem.W.Frag) (a : EA) : TS :=
  (tSeq (tAsg (tC .non) (gName 4))
    (tSeq (tTryE K (sp_moved_filling K) (tCons (tVar 0) (tCons (tVar 1) (tCons (tVar 2) (tCons (tVar 3) tNil)))) (.ref a.ClueError) 5 (tAsg (tVar 5) (gName 4)))
    (tSeq (tAsg (tLst (tCons (tCB (kIsX K) (tCons (tVar 4) (tCons (tC (.ref a.NoFilling)) tNil))) (tCons (tCB (kIsX K) (tCons (tVar 4) (tCons (tC (.ref a.NoPuzzle)) tNil))) (tCons (tCB (kIsX K) (tCons (tVar 4) (tCons (tC (.ref a.TooMany)) tNil))) tNil)))) (gName 6))
    (tRet (tAndV (tCB (kIsX K) (tCons (tVar 4) (tCons (tC (.ref a.NoMove)) tNil))) (tAndV (tCB (kIsX K) (tCons (tVar 4) (tCons (tC (.ty "ValueError")) tNil))) (tNotV (tCB kAny (tCons (tVar 6) tNil)))))))))
theorem rk__law_refused {K : PySem.W.Frag} {a : EA} {vs : List V} {H : Hp} {Q : VK} {E : XK} (R : Ref1 K a "NoMove" a.NoMove (os66 a)) (h : sp__law_refused K vs H Q E) : rd__law_refused K a { nx := fun _ H' => Q .non H', rt := Q } (start ["_law_floor_here", "_law_filling", "_law_move", "_law_signs", "_law_caught", "error", "_law_others"] vs) H := by
  obtain ⟨p, f, h, w, g, m, v, ss, fl, rfl, hp, F, hf, hl, hx, ex0, bad, k⟩ := h
  show rd__law_refused K a _ [some (.ref p), some (.ref f), some (.int m), some v, none, none, none] H
  unfold rd__law_refused
  walk_at "w"
  refine ⟨fun c d H' => c = .ref a.NoMove ∧ Same H H', ?_, ?_⟩
  · walk_at "w"
    exact ⟨p, f, h, w, g, m, v, ss, fl, rfl, hp, F, hf, hl, hx, ex0, fun m0 m8 ok => (bad ⟨⟨m0, m8⟩, ok⟩).elim, fun _ H' s' C hC => ⟨by rw [Glb.eq hC R.g], s'⟩⟩
  · rintro C H2 ⟨e1, s0⟩
    cases e1
    refine ⟨R.ex, fun x hx => ?_⟩
    have s1 : Same H (upd H2 x (.ext (XO x a.NoMove))) := s0.laid hx
    have ex : (upd H2 x (.ext (XO x a.NoMove))) x = some (.ext (XO x a.NoMove)) := upd_same
    generalize upd H2 x (.ext (XO x a.NoMove)) = H3 at *
    have Z := R.xis
    have no : ∀ {H' : Hp} {y : Addr} {Q' : VK}, H' x = some (.ext (XO x a.NoMove)) → y ∈ os66 a → Q' (.bl false) H' → kIsX K [.ref x, .ref y] H' Q' := fun hx' hy q => w_isX Z hx' (R.no _ hy) q
    walk_at "w"
    refine no ex (by simp) ?_
    refine no ex (by simp) ?_
    refine no ex (by simp) ?_
    refine ⟨len_le (by show (3 : Nat) ≤ 1000; decide), fun l1 n1 => ?_⟩
    have s2 := s1.laid (o := .lst [.bl false, .bl false, .bl false]) n1
    have e2 := (Same.refl H3).laid (o := .lst [.bl false, .bl false, .bl false]) n1 _ _ ex
    have a2 : (upd H3 l1 (.lst [.bl false, .bl false, .bl false])) l1 = some (.lst (([false, false, false] : List Bool).map V.bl)) := upd_same
    generalize upd H3 l1 (.lst [.bl false, .bl false, .bl false]) = H4 at *
    walk_at "w"
    refine w_isX Z e2 kit_self ?_
    walk_at "w"
    refine w_isXt Z e2 R.ve ?_
    walk_at "w"
    refine w_any a2 ⟨_, rfl, ?_⟩
    exact k _ s2
def bkL : List Int := [0, 3, 2, 1, 4, 5, 6, 7]
def chk66 (h w m : Int) : Bool := (List.range (h * w).toNat).all fun (i : Nat) => decide ((mvL (mvH h w m) (mvW h w m) (bkL.getD m.toNat 0)).getD ((mvL h w m).getD i 0).toNat 0 = (i : Int))
theorem chk66_tab : ((List.range 6).all fun a => (List.range 6).all fun b => !decide (((a : Int) + 1) * ((b : Int) + 1) ≤ 16) || (List.range 8).all fun m => chk66 ((a : Int) + 1) ((b : Int) + 1) (m : Int)) = true := by decide +kernel
theorem chk66_at {h w g m : Int} (F : FlOk h w g) (m0 : 0 ≤ m) (m8 : m < 8) : chk66 h w m = true := by
  obtain ⟨h0, h1, w0, w1, m16, g0, g1⟩ := F
  have t := List.all_eq_true.mp (List.all_eq_true.mp chk66_tab (h - 1).toNat (List.mem_range.mpr (by omega))) (w - 1).toNat (List.mem_range.mpr (by omega))
  have e1 : (((h - 1).toNat : Nat) : Int) + 1 = h := by omega
  have e2 : (((w - 1).toNat : Nat) : Int) + 1 = w := by omega
  rw [e1, e2, decide_eq_true m16] at t
  have t2 := List.all_eq_true.mp t m.toNat (List.mem_range.mpr (by omega))
  rw [show ((m.toNat : Nat) : Int) = m by omega] at t2
  exact t2
theorem mv_fl {h w g m : Int} (F : FlOk h w g) : FlOk (mvH h w m) (mvW h w m) g ∧ mvH h w m * mvW h w m = h * w := by
  obtain ⟨h0, h1, w0, w1, m16, g0, g1⟩ := F
  unfold mvH mvW
  split
  · exact ⟨⟨w0, w1, h0, h1, by rw [Int.mul_comm]; exact m16, g0, g1⟩, Int.mul_comm _ _⟩
  · exact ⟨⟨h0, h1, w0, w1, m16, g0, g1⟩, rfl⟩
theorem bk_ok {m : Int} (m0 : 0 ≤ m) (m8 : m < 8) : 0 ≤ bkL.getD m.toNat 0 ∧ bkL.getD m.toNat 0 < 8 := by
  have : m = 0 ∨ m = 1 ∨ m = 2 ∨ m = 3 ∨ m = 4 ∨ m = 5 ∨ m = 6 ∨ m = 7 := by omega
  rcases this with rfl | rfl | rfl | rfl | rfl | rfl | rfl | rfl <;> decide
def tnL (g : Int) (ss : List Int) : List Int := (plnL g).map fun s => ((ss.findIdx (· == s) : Nat) : Int) + 1
theorem ix_at {ss : List Int} (nd : ss.Nodup) {k : Nat} (hk : k < ss.length) : ss.findIdx (· == ss[k]) = k := by
  have hlt : ss.findIdx (· == ss[k]) < ss.length := List.findIdx_lt_length_of_exists ⟨ss[k], List.getElem_mem hk, by simp⟩
  have he : ss[ss.findIdx (· == ss[k])] = ss[k] := by
    have := List.findIdx_getElem (w := hlt)
    simpa using this
  have pw := List.pairwise_iff_getElem.mp nd
  by_cases h1 : ss.findIdx (· == ss[k]) < k
  · exact absurd he (pw _ _ hlt hk h1)
  · by_cases h2 : k < ss.findIdx (· == ss[k])
    · exact absurd he.symm (pw _ _ hk hlt h2)
    · omega
structure Exch (g : Int) (ss : List Int) : Prop where
  p : ss.Perm (plnL g)
  g0 : 0 ≤ g
theorem Exch.nd {g : Int} {ss : List Int} (x : Exch g ss) : ss.Nodup := x.p.nodup_iff.mpr (pln_nodup g)
theorem Exch.len {g : Int} {ss : List Int} (x : Exch g ss) : (ss.length : Int) = g := by
  have := x.p.length_eq
  have := pln_len x.g0
  omega
theorem Exch.mem {g s : Int} {ss : List Int} (x : Exch g ss) : s ∈ ss ↔ 1 ≤ s ∧ s ≤ g := x.p.mem_iff.trans pln_mem
theorem Exch.at_ {g s : Int} {ss : List Int} (x : Exch g ss) (s0 : 1 ≤ s) (s1 : s ≤ g) : 1 ≤ exI ss s ∧ exI ss s ≤ g := by
  have sl := x.len
  have hk : (s - 1).toNat < ss.length := by omega
  unfold exI
  rw [if_neg (by omega), List.getD, List.getElem?_eq_getElem hk]
  exact x.mem.mp (List.getElem_mem hk)
theorem Exch.in0 {g s : Int} {ss : List Int} (x : Exch g ss) (s0 : 0 ≤ s) (s1 : s ≤ g) : 0 ≤ exI ss s ∧ exI ss s ≤ g := by
  by_cases e : s = 0
  · rw [e]
    have : exI ss 0 = 0 := if_pos rfl
    rw [this]
    have := x.g0
    omega
  · have := x.at_ (s := s) (by omega) s1
    omega
theorem tn_at {g s : Int} {ss : List Int} (s0 : 1 ≤ s) (s1 : s ≤ g) : exI (tnL g ss) s = ((ss.findIdx (· == s) : Nat) : Int) + 1 := by
  have e : (plnL g)[(s - 1).toNat]? = some s := by
    unfold plnL rngL
    rw [List.getElem?_map, List.getElem?_range (by omega)]
    show some (1 + (((s - 1).toNat : Nat) : Int)) = some s
    congr 1
    omega
  unfold exI tnL
  rw [if_neg (by omega), List.getD, List.getElem?_map, e]
  rfl
theorem tn_back {g x : Int} {ss : List Int} (e : Exch g ss) (x0 : 0 ≤ x) (x1 : x ≤ g) : exI (tnL g ss) (exI ss x) = x := by
  by_cases h : x = 0
  · subst h
    rfl
  · have a := e.at_ (s := x) (by omega) x1
    have sl := e.len
    rw [tn_at a.1 a.2]
    have hk : (x - 1).toNat < ss.length := by omega
    have ev : exI ss x = ss[(x - 1).toNat] := by
      unfold exI
      rw [if_neg h, List.getD, List.getElem?_eq_getElem hk]
      rfl
    rw [ev, ix_at e.nd hk]
    omega
theorem tn_ex {g : Int} {ss : List Int} (e : Exch g ss) : Exch g (tnL g ss) := by
  have sl := e.len
  refine ⟨?_, e.g0⟩
  have fix : ∀ s, 1 ≤ s → s ≤ g → ∃ k, ∃ hk : k < ss.length, ss[k] = s ∧ ss.findIdx (· == s) = k := fun s s0 s1 => by
    obtain ⟨k, hk, rfl⟩ := List.mem_iff_getElem.mp (e.mem.mpr ⟨s0, s1⟩)
    exact ⟨k, hk, rfl, ix_at e.nd hk⟩
  refine (List.perm_ext_iff_of_nodup ?_ (pln_nodup g)).mpr fun a => ?_
  · unfold tnL
    refine (List.pairwise_map.mpr ?_)
    refine List.Pairwise.imp_of_mem ?_ (pln_nodup g)
    intro a b ha hb hab he
    obtain ⟨k, hk, e1, e2⟩ := fix a (pln_mem.mp ha).1 (pln_mem.mp ha).2
    obtain ⟨j, hj, e3, e4⟩ := fix b (pln_mem.mp hb).1 (pln_mem.mp hb).2
    have : k = j := by rw [e2, e4] at he; omega
    subst this
    exact hab (e1.symm.trans e3)
  · unfold tnL
    rw [List.mem_map, pln_mem]
    constructor
    · rintro ⟨s, hs, rfl⟩
      obtain ⟨k, hk, e1, e2⟩ := fix s (pln_mem.mp hs).1 (pln_mem.mp hs).2
      rw [e2]
      omega
    · intro ha
      have hk : (a - 1).toNat < ss.length := by omega
      refine ⟨ss[(a - 1).toNat], pln_mem.mpr (e.mem.mp (List.getElem_mem hk)), ?_⟩
      rw [ix_at e.nd hk]
      omega
theorem mvF_in {h w g m : Int} {ss fl : List Int} (F : FlOk h w g) (m0 : 0 ≤ m) (m8 : m < 8) (e : Exch g ss) (hf : fl.length = (h * w).toNat) (hx : ∀ x ∈ fl, 0 ≤ x ∧ x ≤ g) : ∀ x ∈ mvF h w m ss fl, 0 ≤ x ∧ x ≤ g := fun x hm => by
  have M := mv_ok F m0 m8
  obtain ⟨k, hk, rfl⟩ := List.mem_iff_getElem.mp hm
  rw [mvF_len, hf] at hk
  obtain ⟨j, hj, ej⟩ := M.all k hk
  have t := mvF_at (ss := ss) F m0 m8 hf hj
  rw [ej, List.getD, List.getElem?_eq_getElem (by rw [mvF_len, hf]; exact hk)] at t
  have t2 : (mvF h w m ss fl)[k]'(by rw [mvF_len, hf]; exact hk) = exI ss (fl.getD j 0) := t
  rw [t2]
  have := getD_in hx (show j < fl.length by omega)
  exact e.in0 this.1 this.2
theorem mvF_back {h w g m : Int} {ss fl : List Int} (F : FlOk h w g) (m0 : 0 ≤ m) (m8 : m < 8) (e : Exch g ss) (hf : fl.length = (h * w).toNat) (hx : ∀ x ∈ fl, 0 ≤ x ∧ x ≤ g) :
    mvF (mvH h w m) (mvW h w m) (bkL.getD m.toNat 0) (tnL g ss) (mvF h w m ss fl) = fl := by
  have F2 := (mv_fl (m := m) F).1
  have hw := (mv_fl (m := m) F).2
  have b := bk_ok m0 m8
  have M := mv_ok F m0 m8
  have l1 : (mvF h w m ss fl).length = (mvH h w m * mvW h w m).toNat := by rw [mvF_len, hf, hw]
  have ck := chk66_at F m0 m8
  unfold chk66 at ck
  rw [List.all_eq_true] at ck
  refine ext_getD (by rw [mvF_len, mvF_len]) fun i hi => ?_
  rw [mvF_len, mvF_len, hf] at hi
  have c1 := of_decide_eq_true (ck i (List.mem_range.mpr hi))
  have ci := getD_in M.lt (show i < (mvL h w m).length by rw [M.len]; exact hi)
  have t := mvF_at (ss := tnL g ss) F2 b.1 b.2 l1 (j := ((mvL h w m).getD i 0).toNat) (by rw [hw]; omega)
  rw [c1, Int.toNat_natCast, mvF_at F m0 m8 hf hi] at t
  have xi := getD_in hx (show i < fl.length by omega)
  rw [t, tn_back e xi.1 xi.2]
theorem w_indexI66 {K : PySem.W.Frag} {H : Hp} {Q : VK} {q : Addr} {xs : List Int} {x : Int} (hq : H q = some (.lst (xs.map V.int))) (hm : x ∈ xs) (hn : xs.length ≤ 900) (h : Q (.int (xs.findIdx (· == x) : Nat)) H) : kIndex K (.ref q) [.int x] H Q := by
  have hlt : xs.findIdx (· == x) < xs.length := List.findIdx_lt_length_of_exists ⟨x, hm, by simp⟩
  have ev : ∀ a b : Int, PyData.eqv (.int a) (.int b) = decide (a = b) := fun a b => by
    rw [PyData.eqv]
    by_cases h : a = b
    · subst h; simp
    · simp [h]
  refine ⟨xs.map PyData.int, .int x, xs.findIdx (· == x), .lst (SqL.of hq) (.ints xs), .int x, lay_ints xs, rfl, ?_, by omega, ⟨PyData.int xs[xs.findIdx (· == x)], ?_, ?_⟩, fun m e hm2 he => ?_, h⟩
  · rw [depth_ints]; omega
  · rw [List.getElem?_map, List.getElem?_eq_getElem hlt]; rfl
  · have := List.findIdx_getElem (w := hlt)
    rw [ev, decide_eq_true_eq]
    simpa using this
  · have hml : m < xs.length := by omega
    rw [List.getElem?_map, List.getElem?_eq_getElem hml] at he
    cases he
    have := List.not_of_lt_findIdx hm2
    rw [ev, decide_eq_false_iff_not]
    simpa using this
theorem w_neLL66 {K : PySem.W.Frag} {H : Hp} {Q : VK} {p q : Addr} {as bs : List Addr} {xss : List (List Int)} (hp : IsLL H p as xss) (hq : IsLL H q bs xss) (h : Q (.bl false) H) : cNe K (.ref p) (.ref q) H Q := by
  show rNeD K (.ref p) (.ref q) H Q
  refine ⟨_, _, hp.dv, hq.dv, shaped_LL xss, shaped_LL xss, ?_⟩
  have e : PyData.eqv (.list (xss.map dLI)) (.list (xss.map dLI)) = true := by
    rw [PyData.eqv, eqv_all dLI fun x y => dLI_eqv x y]
    simp
  rw [e]
  exact h
structure L66 (K : PySem.W.Frag) (H : Hp) (a p f P S : Addr) (ns : List Int) (h w g m : Int) (ss fl : List Int) : Prop where
  sq : SqL K H a (ns.map V.int)
  n : ns.length ≤ 63
  pl : IsFl H p h w g
  F : FlOk h w g
  ff : H f = some (.lst (fl.map V.int))
  len : fl.length = (h * w).toNat
  ok : ∀ x ∈ fl, 0 ≤ x ∧ x ≤ g
  m0 : 0 ≤ m
  m8 : m < 8
  pp : H P = some (.lst ((plnL g).map V.int))
  Sg : H S = some (.lst (ss.map V.int))
  e : Exch g ss
theorem L66.same {K : PySem.W.Frag} {H H' : Hp} {a p f P S : Addr} {ns : List Int} {h w g m : Int} {ss fl : List Int} (x : L66 K H a p f P S ns h w g m ss fl) (s : Same H H') : L66 K H' a p f P S ns h w g m ss fl :=
  ⟨s.seq x.sq, x.n, s _ _ x.pl, x.F, s _ _ x.ff, x.len, x.ok, x.m0, x.m8, s _ _ x.pp, s _ _ x.Sg, x.e⟩
theorem L66.exok {K : PySem.W.Frag} {H : Hp} {a p f P S : Addr} {ns : List Int} {h w g m : Int} {ss fl : List Int} (x : L66 K H a p f P S ns h w g m ss fl) : exOk g ss = true := List.isPerm_iff.mpr x.e.p
theorem pln_ok (g : Int) : exOk g (plnL g) = true := List.isPerm_iff.mpr (List.Perm.refl _)
theorem L66.l16 {K : PySem.W.Frag} {H : Hp} {a p f P S : Addr} {ns : List Int} {h w g m : Int} {ss fl : List Int} (x : L66 K H a p f P S ns h w g m ss fl) : fl.length ≤ 16 := by
  have := x.len
  have := x.F.m
  omega
structure M66 (H : Hp) (D Hd F0 S0 R p S : Addr) (h w m : Int) (ss fl : List Int) : Prop where
  d : H D = some (.lst ((mvF h w m ss fl).map V.int))
  hd : H Hd = some (.lst [V.ref F0, V.ref S0])
  f0 : H F0 = some (.lst (fl.map V.int))
  s0 : H S0 = some (.lst (ss.map V.int))
  r : H R = some (.lst ((mvF h w m ss fl).map V.int))
  nR : p ≠ R ∧ F0 ≠ R ∧ S ≠ R ∧ D ≠ R ∧ Hd ≠ R ∧ S0 ≠ R
  nS : p ≠ S0 ∧ F0 ≠ S0 ∧ S ≠ S0 ∧ D ≠ S0 ∧ Hd ≠ S0
theorem M66.same {H H' : Hp} {D Hd F0 S0 R p S : Addr} {h w m : Int} {ss fl : List Int} (x : M66 H D Hd F0 S0 R p S h w m ss fl) (s : Same H H') : M66 H' D Hd F0 S0 R p S h w m ss fl :=
  ⟨s _ _ x.d, s _ _ x.hd, s _ _ x.f0, s _ _ x.s0, s _ _ x.r, x.nR, x.nS⟩
def sp_law (K : PySem.W.Frag) : Sp := fun vs H Q _ => ∃ (a : Addr) (ns : List Int), vs = [.ref a] ∧ SqL K H a (ns.map V.int) ∧ ns.length ≤ 63 ∧ ∀ H', Q (.bl true) H'
theorem sl_law {K : PySem.W.Frag} {vs : List V} {H : Hp} {Q : VK} {E : XK} (h : sp_law K vs H Q E) : vs.length = 1 := by
  obtain ⟨_, _, rfl, _⟩ := h; rfl
def rd_law_t18 (K : PySem.W.Frag) : TS :=
  (tSeq (tDrop (tBM0 K "list" kClear (tVar 9)))
    (tSeq (tDrop (tBM0 K "list" kClear (tOp cIx (tVar 8) (tC (.int 1)))))
    (tRet (tCall (sp__law_are K) [] E0 (tCons (tCall (sp_moved_filling K) [] E0 (tCons (tVar 1) (tCons (tOp cIx (tVar 8) (tC (.int 0))) (tCons (tVar 3) (tCons (tCB kList (tCons (tVar 6) tNil)) tNil))))) (tCons (tVar 7) tNil))))))
def rd_law_t15 (K : PySem.W.Frag) : TS :=
  (tSeq (tIfS (tNot (tB (tCall (sp__law_refused K) [] E0 (tCons (tVar 1) (tCons (tOp cIx (tVar 8) (tC (.int 0))) (tCons (tVar 3) (tCons (tCall (sp__law_bad_list K) [] E0 (tCons (tVar 6) (tCons (tCall (sp__law_at K) [] E0 (tCons (tVar 0) (tCons (tC (.int 5)) tNil))) tNil))) tNil))))))) (tRet (tC (.bl false))) tNext)
    (tSeq (tAsg (tOp cIx (tLst (tCons (tUn (rU fun i => .int (-i)) (tC (.int 1))) (tCons (tC (.int 8)) (tCons (tUn (rU fun i => .int (-i)) (tC (.int 9))) (tCons (tOp cAdd (tOp cPow (tC (.int 10)) (tC (.int 20))) (tVar 3)) tNil))))) (tOp cMod (tCall (sp__law_at K) [] E0 (tCons (tVar 0) (tCons (tC (.int 6)) tNil))) (tC (.int 4)))) (gName 12))
    (tSeq (tIfS (tOr (tNot (tB (tCall (sp__law_refused K) [] E0 (tCons (tVar 1) (tCons (tOp cIx (tVar 8) (tC (.int 0))) (tCons (tVar 12) (tCons (tC .non) tNil))))))) (tNot (tB (tCall (sp__law_refused K) [] E0 (tCons (tVar 1) (tCons (tOp cIx (tVar 8) (tC (.int 0))) (tCons (tVar 12) (tCons (tVar 6) tNil)))))))) (tRet (tC (.bl false))) tNext)
    (rd_law_t18 K))))
def rd_law_t12 (K : PySem.W.Frag) : TS :=
  (tSeq (tAsg (tCall (sp_moved_floor K) [] E0 (tCons (tVar 1) (tCons (tVar 3) tNil))) (gName 10))
    (tSeq (sComp 11 [none, none, some 6] (iList K (tVar 5)) (gName 1) tTrue (tOp cAdd (tBM K "list" (kIndex K) (tVar 2) (tCons (tVar 1) tNil)) (tC (.int 1))))
    (tSeq (tIfS (tNot (tB (tCall (sp__law_are K) [] E0 (tCons (tCall (sp_moved_filling K) [] E0 (tCons (tVar 10) (tCons (tVar 9) (tCons (tVar 4) (tCons (tVar 11) tNil))))) (tCons (tVar 2) tNil))))) (tRet (tC (.bl false))) tNext)
    (rd_law_t15 K))))
def rd_law_t8 (K : PySem.W.Frag) : TS :=
  (tSeq (tAsg (tCall (sp__law_due K) [] E0 (tCons (tVar 1) (tCons (tVar 2) (tCons (tVar 3) (tCons (tVar 6) tNil))))) (gName 7))
    (tSeq (tAsg (tLst (tCons (tCB kList (tCons (tVar 2) tNil)) (tCons (tCB kList (tCons (tVar 6) tNil)) tNil))) (gName 8))
    (tSeq (tAsg (tCall (sp_moved_filling K) [] E0 (tCons (tVar 1) (tCons (tOp cIx (tVar 8) (tC (.int 0))) (tCons (tVar 3) (tCons (tOp cIx (tVar 8) (tC (.int 1))) tNil))))) (gName 9))
    (tSeq (tIfS (tOr (tNot (tB (tCall (sp__law_are K) [] E0 (tCons (tVar 9) (tCons (tVar 7) tNil))))) (tTest (tOp (cNe K) (tVar 8) (tLst (tCons (tVar 2) (tCons (tVar 6) tNil)))))) (tRet (tC (.bl false))) tNext)
    (rd_law_t12 K)))))
def rd_law_t6 (K : PySem.W.Frag) : TS :=
  (tSeq (tIfS (tNot (tB (tCall (sp__law_are K) [] E0 (tCons (tCall (sp_moved_filling K) [.non] E0 (tCons (tVar 1) (tCons (tCB kList (tCons (tVar 2) tNil)) (tCons (tVar 3) tNil)))) (tCons (tCall (sp__law_due K) [] E0 (tCons (tVar 1) (tCons (tVar 2) (tCons (tVar 3) (tCons (tVar 5) tNil))))) tNil))))) (tRet (tC (.bl false))) tNext)
    (tSeq (tIfS (tNot (tB (tCall (sp__law_are K) [] E0 (tCons (tCall (sp_moved_filling K) [] E0 (tCons (tVar 1) (tCons (tCB kList (tCons (tVar 2) tNil)) (tCons (tVar 3) (tCons (tC .non) tNil))))) (tCons (tCall (sp__law_due K) [] E0 (tCons (tVar 1) (tCons (tVar 2) (tCons (tVar 3) (tCons (tVar 5) tNil))))) tNil))))) (tRet (tC (.bl false))) tNext)
    (rd_law_t8 K)))
def rd_law (K : PySem.W.Frag) : TS :=
  (tSeq (tAsg (tCall (sp__law_floor K) [] E0 (tCons (tVar 0) tNil)) (gName 1))
    (tSeq (sComp 2 [none, none, some 1, some 0] (iRng1 (tCons (tOp cMul (tOp cIx (tVar 1) (tC (.int 0))) (tOp cIx (tVar 1) (tC (.int 1)))) tNil)) (gName 1) tTrue (tOp cMod (tCall (sp__law_at K) [] E0 (tCons (tVar 3) (tCons (tOp cAdd (tC (.int 7)) (tVar 1)) tNil))) (tOp cAdd (tOp cIx (tVar 2) (tC (.int 2))) (tC (.int 1)))))
    (tSeq (tAsg (tOp cMod (tCall (sp__law_at K) [] E0 (tCons (tVar 0) (tCons (tC (.int 3)) tNil))) (tC (.int 8))) (gName 3))
    (tSeq (tAsg (tOp cIx (tLst (tCons (tC (.int 0)) (tCons (tC (.int 3)) (tCons (tC (.int 2)) (tCons (tC (.int 1)) (tCons (tC (.int 4)) (tCons (tC (.int 5)) (tCons (tC (.int 6)) (tCons (tC (.int 7)) tNil))))))))) (tVar 3)) (gName 4))
    (tSeq (tAsg (tListRng2 (tCons (tC (.int 1)) (tCons (tOp cAdd (tOp cIx (tVar 1) (tC (.int 2))) (tC (.int 1))) tNil))) (gName 5))
    (tSeq (tAsg (tCall (sp__law_exchange K) [] E0 (tCons (tCall (sp__law_at K) [] E0 (tCons (tVar 0) (tCons (tC (.int 4)) tNil))) (tCons (tOp cIx (tVar 1) (tC (.int 2))) tNil))) (gName 6))
    (rd_law_t6 K)))))))
theorem rk_law_t18 {K : PySem.W.Frag} {H : Hp} {Q : VK} {a p f P S D Hd F0 S0 R : Addr} {ns : List Int} {h w g m : Int} {ss fl : List Int} {v4 v10 v11 v12 : Option V} (X : L66 K H a p f P S ns h w g m ss fl) (Y : M66 H D Hd F0 S0 R p S h w m ss fl) (k : ∀ H', Q (.bl true) H') :
    rd_law_t18 K { nx := fun _ H' => Q .non H', rt := Q } [some (.ref a), some (.ref p), some (.ref f), some (.int m), v4, some (.ref P), some (.ref S), some (.ref D), some (.ref Hd), some (.ref R), v10, v11, v12] H := by
  unfold rd_law_t18
  walk_at "w"
  refine ⟨tyV_list Y.r, ?_⟩
  refine w_clear Y.r ?_
  obtain ⟨n1, n2, n3, n4, n5, n6⟩ := Y.nR
  obtain ⟨o1, o2, o3, o4, o5⟩ := Y.nS
  walk_at "w"
  have eHd : (upd H R (.lst [])) Hd = some (.lst [V.ref F0, V.ref S0]) := by rw [upd_ne n5]; exact Y.hd
  refine ixL eHd (v := V.ref S0) rfl ?_
  have eS0 : (upd H R (.lst [])) S0 = some (.lst (ss.map V.int)) := by rw [upd_ne n6]; exact Y.s0
  walk_at "w"
  refine ⟨tyV_list eS0, ?_⟩
  refine w_clear eS0 ?_
  have keep : ∀ b o, b ≠ R → b ≠ S0 → H b = some o → (upd (upd H R (.lst [])) S0 (.lst [])) b = some o := fun b o c1 c2 e => by rw [upd_ne c2, upd_ne c1]; exact e
  have e1 := keep p _ n1 o1 X.pl
  have e2 := keep F0 _ n2 o2 Y.f0
  have e3 := keep S _ n3 o3 X.Sg
  have e4 := keep D _ n4 o4 Y.d
  have e5 := keep Hd _ n5 o5 Y.hd
  generalize upd (upd H R (.lst [])) S0 (.lst []) = H1 at *
  walk_at "w"
  refine ixL e5 (v := V.ref F0) rfl ?_
  walk_at "w"
  refine w_list e3 fun T hT => ?_
  have s1 : Same H1 (upd H1 T (.lst (ss.map V.int))) := (Same.refl H1).laid hT
  have eT : (upd H1 T (.lst (ss.map V.int))) T = some (.lst (ss.map V.int)) := upd_same
  generalize upd H1 T (.lst (ss.map V.int)) = H2 at *
  walk_at "w"
  have sl := X.e.len
  have g6 := X.F.g1
  refine ⟨p, F0, h, w, g, m, .ref T, ss, fl, rfl, s1 _ _ e1, X.F, s1 _ _ e2, X.len, X.ok, .inr ⟨T, rfl, eT, by omega⟩, fun _ _ _ l H3 s3 hl el => ?_, fun z H' s' C hC => z ⟨⟨X.m0, X.m8⟩, X.exok⟩⟩
  walk_at "w"
  have l16 := X.l16
  exact ⟨l, D, _, _, rfl, el, s3 _ _ (s1 _ _ e4), by rw [mvF_len]; exact l16, rfl, fun H' _ => k H'⟩
theorem rk_law_t15 {K : PySem.W.Frag} {H : Hp} {Q : VK} {a p f P S D Hd F0 S0 R : Addr} {ns : List Int} {h w g m : Int} {ss fl : List Int} {v4 v10 v11 : Option V} (X : L66 K H a p f P S ns h w g m ss fl) (Y : M66 H D Hd F0 S0 R p S h w m ss fl) (k : ∀ H', Q (.bl true) H') :
    rd_law_t15 K { nx := fun _ H' => Q .non H', rt := Q } [some (.ref a), some (.ref p), some (.ref f), some (.int m), v4, some (.ref P), some (.ref S), some (.ref D), some (.ref Hd), some (.ref R), v10, v11, none] H := by
  have sl := X.e.len
  have g6 := X.F.g1
  have g0 := X.F.g0
  unfold rd_law_t15
  rw [w_seq, w_if]
  walk_at "w"
  refine ixL Y.hd (v := V.ref F0) rfl ?_
  walk_at "w"
  refine ⟨a, ns, 5, rfl, X.sq, X.n, by decide, by decide, ?_⟩
  walk_at "w"
  refine ⟨S, ss, g, _, rfl, X.Sg, g0, g6, X.e.p, fun B H1 bs s1 eB bl nb => ?_⟩
  have X1 := X.same s1
  have Y1 := Y.same s1
  walk_at "w"
  refine ⟨p, F0, h, w, g, m, .ref B, bs, fl, rfl, X1.pl, X.F, Y1.f0, X.len, X.ok, .inr ⟨B, rfl, eB, bl⟩, fun z => nb z.2, fun H2 s2 => ⟨true, rfl, ?_⟩⟩
  have X2 := X1.same s2
  have Y2 := Y1.same s2
  walk_at "w"
  simp only [w_pow]
  refine ⟨⟨by decide, by decide, by decide⟩, ?_⟩
  walk_at "w"
  refine ⟨len_le (by show (4 : Nat) ≤ 1000; decide), fun U hU => ?_⟩
  generalize hbig : (10 : Int) ^ (20 : Int).toNat + m = big at *
  have hb8 : 8 ≤ big := by
    have : (100 : Int) ≤ 10 ^ (20 : Int).toNat := by decide
    have := X.m0
    omega
  have s3 : Same H2 (upd H2 U (.lst [V.int (-1), V.int 8, V.int (-9), V.int big])) := (Same.refl H2).laid hU
  have eU : (upd H2 U (.lst [V.int (-1), V.int 8, V.int (-9), V.int big])) U = some (.lst [V.int (-1), V.int 8, V.int (-9), V.int big]) := upd_same
  generalize upd H2 U (.lst [V.int (-1), V.int 8, V.int (-9), V.int big]) = H3 at *
  have X3 := X2.same s3
  have Y3 := Y2.same s3
  refine ⟨a, ns, 6, rfl, X3.sq, X3.n, by decide, by decide, ?_⟩
  walk_at "w"
  refine ⟨by decide, ?_⟩
  obtain ⟨x, ex, hx⟩ : ∃ x : Int, atI [V.int (-1), V.int 8, V.int (-9), V.int big] (lawAt ns 6 % 4) = some (V.int x) ∧ ¬ (0 ≤ x ∧ x < 8) := by
    have : lawAt ns 6 % 4 = 0 ∨ lawAt ns 6 % 4 = 1 ∨ lawAt ns 6 % 4 = 2 ∨ lawAt ns 6 % 4 = 3 := by omega
    rcases this with e | e | e | e <;> rw [e]
    · exact ⟨-1, rfl, by omega⟩
    · exact ⟨8, rfl, by omega⟩
    · exact ⟨-9, rfl, by omega⟩
    · exact ⟨big, rfl, by omega⟩
  refine ixL eU ex ?_
  walk_at "w"
  rw [w_if]
  walk_at "w"
  refine ixL Y3.hd (v := V.ref F0) rfl ?_
  walk_at "w"
  refine ⟨p, F0, h, w, g, x, .non, plnL g, fl, rfl, X3.pl, X.F, Y3.f0, X.len, X.ok, .inl ⟨rfl, rfl⟩, fun z => hx z.1, fun H4 s4 => ⟨true, rfl, ?_⟩⟩
  have X4 := X3.same s4
  have Y4 := Y3.same s4
  walk_at "w"
  refine ixL Y4.hd (v := V.ref F0) rfl ?_
  walk_at "w"
  refine ⟨p, F0, h, w, g, x, .ref S, ss, fl, rfl, X4.pl, X.F, Y4.f0, X.len, X.ok, .inr ⟨S, rfl, X4.Sg, by omega⟩, fun z => hx z.1, fun H5 s5 => ⟨true, rfl, ?_⟩⟩
  walk_at "w"
  exact rk_law_t18 (X4.same s5) (Y4.same s5) k
theorem rk_law_t12 {K : PySem.W.Frag} {H : Hp} {Q : VK} {a p f P S D Hd F0 S0 R : Addr} {ns : List Int} {h w g m : Int} {ss fl : List Int} (X : L66 K H a p f P S ns h w g m ss fl) (Y : M66 H D Hd F0 S0 R p S h w m ss fl) (k : ∀ H', Q (.bl true) H') :
    rd_law_t12 K { nx := fun _ H' => Q .non H', rt := Q } [some (.ref a), some (.ref p), some (.ref f), some (.int m), some (.int (bkL.getD m.toNat 0)), some (.ref P), some (.ref S), some (.ref D), some (.ref Hd), some (.ref R), none, none, none] H := by
  have sl := X.e.len
  have g6 := X.F.g1
  have g0 := X.F.g0
  have pl := pln_len (show 0 ≤ g by omega)
  have b := bk_ok X.m0 X.m8
  have F2 := (mv_fl (m := m) X.F).1
  have hw := (mv_fl (m := m) X.F).2
  have l16 := X.l16
  unfold rd_law_t12
  walk_at "w"
  refine ⟨p, m, h, w, g, rfl, X.pl, fun _ _ p2 H1 s1 e2 => ?_, fun z => absurd ⟨X.m0, X.m8⟩ z⟩
  have X1 := X.same s1
  have Y1 := Y.same s1
  walk_at "w"
  refine ⟨⟨_, SqL.of X1.pp⟩, ?_⟩
  refine compI_list (xs := plnL g) (fun _ => true) (fun s => ((ss.findIdx (· == s) : Nat) : Int) + 1) (by omega) (SqL.of X1.pp) ?_ ?_ ?_
  · intro s H2 R2 hs s2 k2
    exact k2 _ (Same.refl _)
  · intro s H2 Q2 hs hb2 s2 k2
    have hm := X.e.mem.mpr (pln_mem.mp hs)
    have eS := s2 _ _ X1.Sg
    show tOp cAdd _ _ [none, some (.int s), some (.ref S)] H2 Q2
    walk_at "w"
    refine ⟨tyV_list eS, ?_⟩
    refine w_indexI66 eS hm (by omega) ?_
    walk_at "w"
    exact k2 _ (Same.refl _)
  · intro T H2 hT s2 eT
    rw [List.filter_eq_self.mpr fun _ _ => rfl] at eT
    have eT2 : H2 T = some (.lst ((tnL g ss).map V.int)) := eT
    have X2 := X1.same s2
    have Y2 := Y1.same s2
    have te := tn_ex X.e
    have tl := te.len
    walk_at "w"
    rw [w_if]
    walk_at "w"
    refine ⟨p2, R, _, _, g, _, .ref T, tnL g ss, mvF h w m ss fl, rfl, s2 _ _ e2, F2, Y2.r, by rw [mvF_len, X.len, hw], mvF_in X.F X.m0 X.m8 X.e X.len X.ok, .inr ⟨T, rfl, eT2, by omega⟩, fun _ _ _ l H3 s3 hl el => ?_, fun z H' s' C hC => z ⟨b, List.isPerm_iff.mpr te.p⟩⟩
    rw [mvF_back X.F X.m0 X.m8 X.e X.len X.ok] at el
    walk_at "w"
    refine ⟨l, f, _, _, rfl, el, s3 _ _ X2.ff, l16, rfl, fun H4 s4 => ⟨true, rfl, ?_⟩⟩
    walk_at "w"
    exact rk_law_t15 (X2.same (s3.trans s4)) (Y2.same (s3.trans s4)) k
theorem rk_law_t8 {K : PySem.W.Frag} {H : Hp} {Q : VK} {a p f P S : Addr} {ns : List Int} {h w g m : Int} {ss fl : List Int} (X : L66 K H a p f P S ns h w g m ss fl) (k : ∀ H', Q (.bl true) H') :
    rd_law_t8 K { nx := fun _ H' => Q .non H', rt := Q } [some (.ref a), some (.ref p), some (.ref f), some (.int m), some (.int (bkL.getD m.toNat 0)), some (.ref P), some (.ref S), none, none, none, none, none, none] H := by
  have sl := X.e.len
  have g6 := X.F.g1
  have l16 := X.l16
  unfold rd_law_t8
  walk_at "w"
  refine ⟨p, f, S, h, w, g, m, ss, fl, rfl, X.pl, X.F, X.m0, X.m8, X.ff, X.len, X.ok, X.Sg, sl, fun D H1 s1 hD eD => ?_⟩
  have X1 := X.same s1
  walk_at "w"
  refine w_list X1.ff fun F0 hF0 => ?_
  have s2 : Same H1 (upd H1 F0 (.lst (fl.map V.int))) := (Same.refl H1).laid hF0
  have eF0 : (upd H1 F0 (.lst (fl.map V.int))) F0 = some (.lst (fl.map V.int)) := upd_same
  generalize upd H1 F0 (.lst (fl.map V.int)) = H2 at *
  have X2 := X1.same s2
  walk_at "w"
  refine w_list X2.Sg fun S0 hS0 => ?_
  have s3 : Same H2 (upd H2 S0 (.lst (ss.map V.int))) := (Same.refl H2).laid hS0
  have eS0 : (upd H2 S0 (.lst (ss.map V.int))) S0 = some (.lst (ss.map V.int)) := upd_same
  generalize upd H2 S0 (.lst (ss.map V.int)) = H3 at *
  have X3 := X2.same s3
  walk_at "w"
  refine ⟨len_le (by show (2 : Nat) ≤ 1000; decide), fun Hd hHd => ?_⟩
  have s4 : Same H3 (upd H3 Hd (.lst [V.ref F0, V.ref S0])) := (Same.refl H3).laid hHd
  have eHd : (upd H3 Hd (.lst [V.ref F0, V.ref S0])) Hd = some (.lst [V.ref F0, V.ref S0]) := upd_same
  generalize upd H3 Hd (.lst [V.ref F0, V.ref S0]) = H4 at *
  have X4 := X3.same s4
  refine ixL eHd (v := V.ref F0) rfl ?_
  walk_at "w"
  refine ixL eHd (v := V.ref S0) rfl ?_
  walk_at "w"
  have fF0 := s4 _ _ (s3 _ _ eF0)
  have fS0 := s4 _ _ eS0
  have fD := s4 _ _ (s3 _ _ (s2 _ _ eD))
  have nS : p ≠ S0 ∧ F0 ≠ S0 ∧ S ≠ S0 ∧ D ≠ S0 ∧ Hd ≠ S0 := ⟨ne_of_none X2.pl hS0, ne_of_none eF0 hS0, ne_of_none X2.Sg hS0, ne_of_none (s2 _ _ eD) hS0, (ne_of_none eS0 hHd).symm⟩
  refine ⟨p, F0, h, w, g, m, .ref S0, ss, fl, rfl, X4.pl, X.F, fF0, X.len, X.ok, .inr ⟨S0, rfl, fS0, by omega⟩, fun _ _ _ R H5 s5 hR eR => ?_, fun z H' s' C hC => z ⟨⟨X.m0, X.m8⟩, X.exok⟩⟩
  have X5 := X4.same s5
  have nR : p ≠ R ∧ F0 ≠ R ∧ S ≠ R ∧ D ≠ R ∧ Hd ≠ R ∧ S0 ≠ R := ⟨ne_of_none X4.pl hR, ne_of_none fF0 hR, ne_of_none X4.Sg hR, ne_of_none fD hR, ne_of_none eHd hR, ne_of_none fS0 hR⟩
  have Y : M66 H5 D Hd F0 S0 R p S h w m ss fl := ⟨s5 _ _ fD, s5 _ _ eHd, s5 _ _ fF0, s5 _ _ fS0, eR, nR, nS⟩
  walk_at "w"
  rw [w_if]
  walk_at "w"
  refine ⟨R, D, _, _, rfl, Y.r, Y.d, by rw [mvF_len]; exact l16, rfl, fun H6 s6 => ⟨true, rfl, ?_⟩⟩
  have X6 := X5.same s6
  have Y6 := Y.same s6
  walk_at "w"
  refine ⟨len_le (by show (2 : Nat) ≤ 1000; decide), fun W hW => ?_⟩
  have s7 : Same H6 (upd H6 W (.lst [V.ref f, V.ref S])) := (Same.refl H6).laid hW
  have eW : (upd H6 W (.lst [V.ref f, V.ref S])) W = some (.lst [V.ref f, V.ref S]) := upd_same
  generalize upd H6 W (.lst [V.ref f, V.ref S]) = H7 at *
  have X7 := X6.same s7
  have Y7 := Y6.same s7
  have LL1 : IsLL H7 Hd [F0, S0] [fl, ss] := ⟨Y7.hd, rfl, fun j a xs h1 h2 => by
    match j, h1, h2 with
    | 0, h1, h2 => cases h1; cases h2; exact Y7.f0
    | 1, h1, h2 => cases h1; cases h2; exact Y7.s0
    | n + 2, h1, h2 => cases h1⟩
  have LL2 : IsLL H7 W [f, S] [fl, ss] := ⟨eW, rfl, fun j a xs h1 h2 => by
    match j, h1, h2 with
    | 0, h1, h2 => cases h1; cases h2; exact X7.ff
    | 1, h1, h2 => cases h1; cases h2; exact X7.Sg
    | n + 2, h1, h2 => cases h1⟩
  refine w_neLL66 LL1 LL2 ?_
  walk_at "w"
  exact rk_law_t12 X7 Y7 k
theorem rk_law_t6 {K : PySem.W.Frag} {H : Hp} {Q : VK} {a p f P S : Addr} {ns : List Int} {h w g m : Int} {ss fl : List Int} (X : L66 K H a p f P S ns h w g m ss fl) (k : ∀ H', Q (.bl true) H') :
    rd_law_t6 K { nx := fun _ H' => Q .non H', rt := Q } [some (.ref a), some (.ref p), some (.ref f), some (.int m), some (.int (bkL.getD m.toNat 0)), some (.ref P), some (.ref S), none, none, none, none, none, none] H := by
  have g6 := X.F.g1
  have g0 := X.F.g0
  have pl := pln_len (show 0 ≤ g by omega)
  have l16 := X.l16
  unfold rd_law_t6
  rw [w_seq, w_if]
  walk_at "w"
  refine w_list X.ff fun F0 hF0 => ?_
  have s2 : Same H (upd H F0 (.lst (fl.map V.int))) := (Same.refl H).laid hF0
  have eF0 : (upd H F0 (.lst (fl.map V.int))) F0 = some (.lst (fl.map V.int)) := upd_same
  generalize upd H F0 (.lst (fl.map V.int)) = H2 at *
  have X2 := X.same s2
  walk_at "w"
  refine ⟨p, F0, h, w, g, m, .non, plnL g, fl, rfl, X2.pl, X.F, eF0, X.len, X.ok, .inl ⟨rfl, rfl⟩, fun _ _ _ R H3 s3 hR eR => ?_, fun z H' s' C hC => z ⟨⟨X.m0, X.m8⟩, pln_ok g⟩⟩
  have X3 := X2.same s3
  walk_at "w"
  refine ⟨p, f, P, h, w, g, m, plnL g, fl, rfl, X3.pl, X.F, X.m0, X.m8, X3.ff, X.len, X.ok, X3.pp, pl, fun D H4 s4 hD eD => ?_⟩
  walk_at "w"
  refine ⟨R, D, _, _, rfl, s4 _ _ eR, eD, by rw [mvF_len]; exact l16, rfl, fun H5 s5 => ⟨true, rfl, ?_⟩⟩
  have X5 := X3.same (s4.trans s5)
  walk_at "w"
  rw [w_if]
  walk_at "w"
  refine w_list X5.ff fun F1 hF1 => ?_
  have s6 : Same H5 (upd H5 F1 (.lst (fl.map V.int))) := (Same.refl H5).laid hF1
  have eF1 : (upd H5 F1 (.lst (fl.map V.int))) F1 = some (.lst (fl.map V.int)) := upd_same
  generalize upd H5 F1 (.lst (fl.map V.int)) = H6 at *
  have X6 := X5.same s6
  walk_at "w"
  refine ⟨p, F1, h, w, g, m, .non, plnL g, fl, rfl, X6.pl, X.F, eF1, X.len, X.ok, .inl ⟨rfl, rfl⟩, fun _ _ _ R1 H7 s7 hR1 eR1 => ?_, fun z H' s' C hC => z ⟨⟨X.m0, X.m8⟩, pln_ok g⟩⟩
  have X7 := X6.same s7
  walk_at "w"
  refine ⟨p, f, P, h, w, g, m, plnL g, fl, rfl, X7.pl, X.F, X.m0, X.m8, X7.ff, X.len, X.ok, X7.pp, pl, fun D1 H8 s8 hD1 eD1 => ?_⟩
  walk_at "w"
  refine ⟨R1, D1, _, _, rfl, s8 _ _ eR1, eD1, by rw [mvF_len]; exact l16, rfl, fun H9 s9 => ⟨true, rfl, ?_⟩⟩
  walk_at "w"
  exact rk_law_t8 (X7.same (s8.trans s9)) k
theorem rk_law {K : PySem.W.Frag} {vs : List V} {H : Hp} {Q : VK} {E : XK} (h : sp_law K vs H Q E) : rd_law K { nx := fun _ H' => Q .non H', rt := Q } (start ["_law_script", "_law_floor_here", "_law_filling", "_law_move", "_law_back", "_law_plain_signs", "_law_signs", "_law_due_here", "_law_handed", "_law_found", "_law_there", "_law_turned_signs", "_law_odd"] vs) H := by
  obtain ⟨a, ns, rfl, hS, hn, k⟩ := h
  show rd_law K _ [some (.ref a), none, none, none, none, none, none, none, none, none, none, none, none] H
  unfold rd_law
  walk_at "w"
  refine ⟨a, ns, rfl, hS, hn, fun p hp => ?_⟩
  have F := lawFl ns
  have s1 : Same H (upd H p (.tup [.int (lawH ns), .int (lawW ns), .int (lawG ns)])) := (Same.refl H).laid hp
  have ep : IsFl (upd H p (.tup [.int (lawH ns), .int (lawW ns), .int (lawG ns)])) p (lawH ns) (lawW ns) (lawG ns) := upd_same
  generalize upd H p (.tup [.int (lawH ns), .int (lawW ns), .int (lawG ns)]) = H1 at *
  generalize lawH ns = h at *
  generalize lawW ns = w at *
  generalize lawG ns = g at *
  obtain ⟨h0, h1, w0, w1, m16, g0, g1⟩ := id F
  have mpos : 0 ≤ h * w := Int.mul_nonneg (by omega) (by omega)
  walk_at "w"
  refine ixT ep (v := V.int h) rfl ?_
  walk_at "w"
  refine ixT ep (v := V.int w) rfl ?_
  walk_at "w"
  refine ⟨mul_small h0 h1, h * w, rfl, by omega, by omega, ?_⟩
  refine compI_range (fun _ => true) (fun i => lawAt ns (7 + (i : Int)) % (g + 1)) (by omega) ?_ ?_ ?_
  · intro i H2 R hi s2 k2
    exact k2 _ (Same.refl _)
  · intro i H2 Q2 hi hb s2 k2
    show tOp cMod _ _ [none, some (.int (0 + (i : Int))), some (.ref p), some (.ref a)] H2 Q2
    rw [Int.zero_add]
    walk_at "w"
    refine ⟨a, ns, _, rfl, (s1.trans s2).seq hS, hn, by omega, by omega, ?_⟩
    refine ixT (s2 _ _ ep) (v := V.int g) rfl ?_
    walk_at "w"
    exact ⟨by omega, k2 _ (Same.refl _)⟩
  · intro f H2 hf s2 ef
    rw [filter_tt] at ef
    have s12 := s1.trans s2
    obtain ⟨fl, hfl⟩ : ∃ fl : List Int, fl = (List.range (h * w).toNat).map fun (i : Nat) => lawAt ns (7 + (i : Int)) % (g + 1) := ⟨_, rfl⟩
    rw [← hfl] at ef
    have fll : fl.length = (h * w).toNat := by rw [hfl, List.length_map, List.length_range]
    have flx : ∀ x ∈ fl, 0 ≤ x ∧ x ≤ g := fun x hx => by
      rw [hfl] at hx
      obtain ⟨i, _, rfl⟩ := List.mem_map.mp hx
      have a0 := Int.emod_nonneg (lawAt ns (7 + (i : Int))) (show g + 1 ≠ 0 by omega)
      have a1 := Int.emod_lt_of_pos (lawAt ns (7 + (i : Int))) (show 0 < g + 1 by omega)
      omega
    walk_at "w"
    refine ⟨a, ns, 3, rfl, s12.seq hS, hn, by decide, by decide, ?_⟩
    walk_at "w"
    refine ⟨by decide, ?_⟩
    have m0 := Int.emod_nonneg (lawAt ns 3) (show (8 : Int) ≠ 0 by decide)
    have m8 := Int.emod_lt_of_pos (lawAt ns 3) (show (0 : Int) < 8 by decide)
    generalize lawAt ns 3 % 8 = m at *
    refine ⟨len_le (by show (8 : Nat) ≤ 1000; decide), fun U hU => ?_⟩
    have s3 : Same H2 (upd H2 U (.lst (bkL.map V.int))) := (Same.refl H2).laid hU
    have eU : (upd H2 U (.lst (bkL.map V.int))) U = some (.lst (bkL.map V.int)) := upd_same
    generalize hHz : upd H2 U (.lst (bkL.map V.int)) = H3 at *
    have hHz' : upd H2 U (.lst [V.int 0, V.int 3, V.int 2, V.int 1, V.int 4, V.int 5, V.int 6, V.int 7]) = H3 := hHz
    rw [hHz']
    have s13 := s12.trans s3
    refine ixI eU m0 (by show m < 8; omega) ?_
    walk_at "w"
    refine ixT ((s2.trans s3) _ _ ep) (v := V.int g) rfl ?_
    walk_at "w"
    refine ⟨1, g + 1, rfl, ⟨by decide, by decide, by omega, by omega⟩, fun P hP => ?_⟩
    have s4 : Same H3 (upd H3 P (.lst ((plnL g).map V.int))) := (Same.refl H3).laid hP
    have eP : (upd H3 P (.lst ((plnL g).map V.int))) P = some (.lst ((plnL g).map V.int)) := upd_same
    generalize hHy : upd H3 P (.lst ((plnL g).map V.int)) = H4 at *
    have hHy' : upd H3 P (.lst ((rngL 1 (g + 1)).map V.int)) = H4 := hHy
    rw [hHy']
    have s14 := s13.trans s4
    walk_at "w"
    refine ⟨a, ns, 4, rfl, s14.seq hS, hn, by decide, by decide, ?_⟩
    walk_at "w"
    refine ixT (((s2.trans s3).trans s4) _ _ ep) (v := V.int g) rfl ?_
    walk_at "w"
    refine ⟨_, g, rfl, by omega, g1, fun S H5 ss s5 hS5 eS pS => ?_⟩
    walk_at "w"
    exact rk_law_t6 ⟨(s14.trans s5).seq hS, hn, (((s2.trans s3).trans s4).trans s5) _ _ ep, F, ((s3.trans s4).trans s5) _ _ ef, fll, flx, m0, m8, s5 _ _ eP, eS, ⟨pS, by omega⟩⟩ k
end L2
set_option Elab.async false
set_option linter.all false
set_option maxRecDepth 100000
namespace L2
open PySem PySem.Spec PyProof.Rows
structure ErrMx (mg : Str → Option Value) (a : EA) : Prop where
  ClueError : mg "ClueError" = some (.ref a.ClueError)
  NoFilling : mg "NoFilling" = some (.ref a.NoFilling)
  NoPuzzle : mg "NoPuzzle" = some (.ref a.NoPuzzle)
  TooMany : mg "TooMany" = some (.ref a.TooMany)
  NoMove : mg "NoMove" = some (.ref a.NoMove)
def top (i : Nat) : Stmt := PySem.Challenge.pw_cluemaker_k66_fillings_moved.main.body.getD i (.Pass ⟨0, 0, 0, 0⟩)
abbrev s_is_whole : Stmt := top 7
theorem sc_is_whole : FnScope ["value"] ["value"] (defScope s_is_whole) := ⟨rfl, rfl, rfl, by decide +kernel, rfl, by decide +kernel, by decide +kernel⟩
set_option maxHeartbeats 4000000 in
theorem fn_is_whole {P : Program} {w : World} {K : PySem.W.Frag} {mg : Str → Option Value} {base : Heap} (B : Bt2 mg)  {f : Addr} {fd : FuncData} (F : Fun K "is_whole" "is_whole" s_is_whole f fd) : FnOk P w K mg base CX0 1 f fd ["value"] (sp_is_whole K) := by
  refine F.ok sc_is_whole (fun vs H Q E h => sl_is_whole h) (fun cdv A outer s H vs Q E hr h => ?_)
  have hu := hr.units
  have nd := sc_is_whole.nd
  refine ⟨rd_is_whole K, ?_, rk_is_whole h⟩
  exact (pss_one (ps_ret (pe_and (pe_callB call_kIsi rfl B.isinstance_ bt_isinstance (pa_cons (pv 0) (pa_cons (pe_bltn (v := .ty "int") rfl B.int_ bt_int rfl) pa_nil))) (pe_one (pe_not (pe_callB call_kIsi rfl B.isinstance_ bt_isinstance (pa_cons (pv 0) (pa_cons (pe_bltn (v := .ty "bool") rfl B.bool_ bt_bool rfl) pa_nil))))))))
theorem ok_is_whole {P : Program} {w : World} {K : PySem.W.Frag} {mg : Str → Option Value} {base : Heap} (B : Bt2 mg)  {f : Addr} {fd : FuncData} (F : Fun K "is_whole" "is_whole" s_is_whole f fd) (hm : mg "is_whole" = some (.ref f)) : Cal P w K mg base 1 "is_whole" ["value"] (sp_is_whole K) :=
  ⟨f, fd, fn_is_whole B  F, hm, F.kp, F.binds (ps := ["value"]) fun _ _ _ _ _ _ us hl => match us, hl with | [_], _ => rfl⟩
abbrev s_many_cells : Stmt := top 8
theorem sc_many_cells : FnScope ["floor"] ["floor"] (defScope s_many_cells) := ⟨rfl, rfl, rfl, by decide +kernel, rfl, by decide +kernel, by decide +kernel⟩
set_option maxHeartbeats 4000000 in
theorem fn_many_cells {P : Program} {w : World} {K : PySem.W.Frag} {mg : Str → Option Value} {base : Heap} (B : Bt2 mg)  {f : Addr} {fd : FuncData} (F : Fun K "many_cells" "many_cells" s_many_cells f fd) : FnOk P w K mg base CX0 1 f fd ["floor"] (sp_many_cells K) := by
  refine F.ok sc_many_cells (fun vs H Q E h => sl_many_cells h) (fun cdv A outer s H vs Q E hr h => ?_)
  have hu := hr.units
  have nd := sc_many_cells.nd
  refine ⟨rd_many_cells K, ?_, rk_many_cells h⟩
  exact (pss_one (ps_ret (pe_op op_cMul (pe_ix (ix_c hu) (pv 0) pe_int (fun _ _ => rfl)) (pe_ix (ix_c hu) (pv 0) pe_int (fun _ _ => rfl)))))
theorem ok_many_cells {P : Program} {w : World} {K : PySem.W.Frag} {mg : Str → Option Value} {base : Heap} (B : Bt2 mg)  {f : Addr} {fd : FuncData} (F : Fun K "many_cells" "many_cells" s_many_cells f fd) (hm : mg "many_cells" = some (.ref f)) : Cal P w K mg base 1 "many_cells" ["floor"] (sp_many_cells K) :=
  ⟨f, fd, fn_many_cells B  F, hm, F.kp, F.binds (ps := ["floor"]) fun _ _ _ _ _ _ us hl => match us, hl with | [_], _ => rfl⟩
abbrev s_spot_of : Stmt := top 9
theorem sc_spot_of : FnScope ["floor", "cell", "wide"] ["floor", "cell"] (defScope s_spot_of) := ⟨rfl, rfl, rfl, by decide +kernel, rfl, by decide +kernel, by decide +kernel⟩
set_option maxHeartbeats 4000000 in
theorem fn_spot_of {P : Program} {w : World} {K : PySem.W.Frag} {mg : Str → Option Value} {base : Heap} (B : Bt2 mg)  {f : Addr} {fd : FuncData} (F : Fun K "spot_of" "spot_of" s_spot_of f fd) : FnOk P w K mg base CX0 1 f fd ["floor", "cell"] (sp_spot_of K) := by
  refine F.ok sc_spot_of (fun vs H Q E h => sl_spot_of h) (fun cdv A outer s H vs Q E hr h => ?_)
  have hu := hr.units
  have nd := sc_spot_of.nd
  refine ⟨rd_spot_of K, ?_, rk_spot_of h⟩
  exact (pss_cons (ps_set (i := 2) nd rfl (Or.inl rfl) (pe_ix (ix_c hu) (pv 0) pe_int (fun _ _ => rfl)))
      (pss_one (ps_ret (pe_tup (pa_cons (pe_op op_cDiv (pv 1) (pv 2)) (pa_cons (pe_op op_cMod (pv 1) (pv 2)) pa_nil))))))
theorem ok_spot_of {P : Program} {w : World} {K : PySem.W.Frag} {mg : Str → Option Value} {base : Heap} (B : Bt2 mg)  {f : Addr} {fd : FuncData} (F : Fun K "spot_of" "spot_of" s_spot_of f fd) (hm : mg "spot_of" = some (.ref f)) : Cal P w K mg base 1 "spot_of" ["floor", "cell"] (sp_spot_of K) :=
  ⟨f, fd, fn_spot_of B  F, hm, F.kp, F.binds (ps := ["floor", "cell"]) fun _ _ _ _ _ _ us hl => match us, hl with | [_, _], _ => rfl⟩
abbrev s_turned_floor : Stmt := top 14
theorem sc_turned_floor : FnScope ["floor"] ["floor"] (defScope s_turned_floor) := ⟨rfl, rfl, rfl, by decide +kernel, rfl, by decide +kernel, by decide +kernel⟩
set_option maxHeartbeats 4000000 in
theorem fn_turned_floor {P : Program} {w : World} {K : PySem.W.Frag} {mg : Str → Option Value} {base : Heap} (B : Bt2 mg)  {f : Addr} {fd : FuncData} (F : Fun K "turned_floor" "turned_floor" s_turned_floor f fd) : FnOk P w K mg base CX0 1 f fd ["floor"] (sp_turned_floor K) := by
  refine F.ok sc_turned_floor (fun vs H Q E h => sl_turned_floor h) (fun cdv A outer s H vs Q E hr h => ?_)
  have hu := hr.units
  have nd := sc_turned_floor.nd
  refine ⟨rd_turned_floor K, ?_, rk_turned_floor h⟩
  exact (pss_one (ps_ret (pe_tup (pa_cons (pe_ix (ix_c hu) (pv 0) pe_int (fun _ _ => rfl)) (pa_cons (pe_ix (ix_c hu) (pv 0) pe_int (fun _ _ => rfl)) (pa_cons (pe_ix (ix_c hu) (pv 0) pe_int (fun _ _ => rfl)) pa_nil))))))
theorem ok_turned_floor {P : Program} {w : World} {K : PySem.W.Frag} {mg : Str → Option Value} {base : Heap} (B : Bt2 mg)  {f : Addr} {fd : FuncData} (F : Fun K "turned_floor" "turned_floor" s_turned_floor f fd) (hm : mg "turned_floor" = some (.ref f)) : Cal P w K mg base 1 "turned_floor" ["floor"] (sp_turned_floor K) :=
  ⟨f, fd, fn_turned_floor B  F, hm, F.kp, F.binds (ps := ["floor"]) fun _ _ _ _ _ _ us hl => match us, hl with | [_], _ => rfl⟩
abbrev s_turned_spot : Stmt := top 15
theorem sc_turned_spot : FnScope ["floor", "spot"] ["floor", "spot"] (defScope s_turned_spot) := ⟨rfl, rfl, rfl, by decide +kernel, rfl, by decide +kernel, by decide +kernel⟩
set_option maxHeartbeats 4000000 in
theorem fn_turned_spot {P : Program} {w : World} {K : PySem.W.Frag} {mg : Str → Option Value} {base : Heap} (B : Bt2 mg)  {f : Addr} {fd : FuncData} (F : Fun K "turned_spot" "turned_spot" s_turned_spot f fd) : FnOk P w K mg base CX0 1 f fd ["floor", "spot"] (sp_turned_spot K) := by
  refine F.ok sc_turned_spot (fun vs H Q E h => sl_turned_spot h) (fun cdv A outer s H vs Q E hr h => ?_)
  have hu := hr.units
  have nd := sc_turned_spot.nd
  refine ⟨rd_turned_spot K, ?_, rk_turned_spot h⟩
  exact (pss_one (ps_ret (pe_tup (pa_cons (pe_ix (ix_c hu) (pv 1) pe_int (fun _ _ => rfl)) (pa_cons (pe_op op_cSub (pe_op op_cSub (pe_ix (ix_c hu) (pv 0) pe_int (fun _ _ => rfl)) pe_int) (pe_ix (ix_c hu) (pv 1) pe_int (fun _ _ => rfl))) pa_nil)))))
theorem ok_turned_spot {P : Program} {w : World} {K : PySem.W.Frag} {mg : Str → Option Value} {base : Heap} (B : Bt2 mg)  {f : Addr} {fd : FuncData} (F : Fun K "turned_spot" "turned_spot" s_turned_spot f fd) (hm : mg "turned_spot" = some (.ref f)) : Cal P w K mg base 1 "turned_spot" ["floor", "spot"] (sp_turned_spot K) :=
  ⟨f, fd, fn_turned_spot B  F, hm, F.kp, F.binds (ps := ["floor", "spot"]) fun _ _ _ _ _ _ us hl => match us, hl with | [_, _], _ => rfl⟩
abbrev s_mirrored_spot : Stmt := top 16
theorem sc_mirrored_spot : FnScope ["floor", "spot"] ["floor", "spot"] (defScope s_mirrored_spot) := ⟨rfl, rfl, rfl, by decide +kernel, rfl, by decide +kernel, by decide +kernel⟩
set_option maxHeartbeats 4000000 in
theorem fn_mirrored_spot {P : Program} {w : World} {K : PySem.W.Frag} {mg : Str → Option Value} {base : Heap} (B : Bt2 mg)  {f : Addr} {fd : FuncData} (F : Fun K "mirrored_spot" "mirrored_spot" s_mirrored_spot f fd) : FnOk P w K mg base CX0 1 f fd ["floor", "spot"] (sp_mirrored_spot K) := by
  refine F.ok sc_mirrored_spot (fun vs H Q E h => sl_mirrored_spot h) (fun cdv A outer s H vs Q E hr h => ?_)
  have hu := hr.units
  have nd := sc_mirrored_spot.nd
  refine ⟨rd_mirrored_spot K, ?_, rk_mirrored_spot h⟩
  exact (pss_one (ps_ret (pe_tup (pa_cons (pe_ix (ix_c hu) (pv 1) pe_int (fun _ _ => rfl)) (pa_cons (pe_op op_cSub (pe_op op_cSub (pe_ix (ix_c hu) (pv 0) pe_int (fun _ _ => rfl)) pe_int) (pe_ix (ix_c hu) (pv 1) pe_int (fun _ _ => rfl))) pa_nil)))))
theorem ok_mirrored_spot {P : Program} {w : World} {K : PySem.W.Frag} {mg : Str → Option Value} {base : Heap} (B : Bt2 mg)  {f : Addr} {fd : FuncData} (F : Fun K "mirrored_spot" "mirrored_spot" s_mirrored_spot f fd) (hm : mg "mirrored_spot" = some (.ref f)) : Cal P w K mg base 1 "mirrored_spot" ["floor", "spot"] (sp_mirrored_spot K) :=
  ⟨f, fd, fn_mirrored_spot B  F, hm, F.kp, F.binds (ps := ["floor", "spot"]) fun _ _ _ _ _ _ us hl => match us, hl with | [_, _], _ => rfl⟩
abbrev s_unchanged_signs : Stmt := top 20
theorem sc_unchanged_signs : FnScope ["floor"] ["floor"] (defScope s_unchanged_signs) := ⟨rfl, rfl, rfl, by decide +kernel, rfl, by decide +kernel, by decide +kernel⟩
set_option maxHeartbeats 4000000 in
theorem fn_unchanged_signs {P : Program} {w : World} {K : PySem.W.Frag} {mg : Str → Option Value} {base : Heap} (B : Bt2 mg)  {f : Addr} {fd : FuncData} (F : Fun K "unchanged_signs" "unchanged_signs" s_unchanged_signs f fd) : FnOk P w K mg base CX0 1 f fd ["floor"] (sp_unchanged_signs K) := by
  refine F.ok sc_unchanged_signs (fun vs H Q E h => sl_unchanged_signs h) (fun cdv A outer s H vs Q E hr h => ?_)
  have hu := hr.units
  have nd := sc_unchanged_signs.nd
  refine ⟨rd_unchanged_signs K, ?_, rk_unchanged_signs h⟩
  exact (pss_one (ps_ret (pe_listrng2 rfl rfl rfl B.list_ B.range_ (pa_cons pe_int (pa_cons (pe_op op_cAdd (pe_ix (ix_c hu) (pv 0) pe_int (fun _ _ => rfl)) pe_int) pa_nil)))))
theorem ok_unchanged_signs {P : Program} {w : World} {K : PySem.W.Frag} {mg : Str → Option Value} {base : Heap} (B : Bt2 mg)  {f : Addr} {fd : FuncData} (F : Fun K "unchanged_signs" "unchanged_signs" s_unchanged_signs f fd) (hm : mg "unchanged_signs" = some (.ref f)) : Cal P w K mg base 1 "unchanged_signs" ["floor"] (sp_unchanged_signs K) :=
  ⟨f, fd, fn_unchanged_signs B  F, hm, F.kp, F.binds (ps := ["floor"]) fun _ _ _ _ _ _ us hl => match us, hl with | [_], _ => rfl⟩
abbrev s_exchanged : Stmt := top 23
theorem sc_exchanged : FnScope ["sign", "signs"] ["sign", "signs"] (defScope s_exchanged) := ⟨rfl, rfl, rfl, by decide +kernel, rfl, by decide +kernel, by decide +kernel⟩
set_option maxHeartbeats 4000000 in
theorem fn_exchanged {P : Program} {w : World} {K : PySem.W.Frag} {mg : Str → Option Value} {base : Heap} (B : Bt2 mg)  {f : Addr} {fd : FuncData} (F : Fun K "exchanged" "exchanged" s_exchanged f fd) : FnOk P w K mg base CX0 1 f fd ["sign", "signs"] (sp_exchanged K) := by
  refine F.ok sc_exchanged (fun vs H Q E h => sl_exchanged h) (fun cdv A outer s H vs Q E hr h => ?_)
  have hu := hr.units
  have nd := sc_exchanged.nd
  refine ⟨rd_exchanged K, ?_, rk_exchanged h⟩
  exact (pss_one (ps_ret (pe_ifExp (pt_cmpR (op_cEq hu) (pv 0) pe_int (nomark _)) pe_int (pe_ix (ix_c hu) (pv 1) (pe_op op_cSub (pv 0) pe_int) (fun _ _ => rfl)))))
theorem ok_exchanged {P : Program} {w : World} {K : PySem.W.Frag} {mg : Str → Option Value} {base : Heap} (B : Bt2 mg)  {f : Addr} {fd : FuncData} (F : Fun K "exchanged" "exchanged" s_exchanged f fd) (hm : mg "exchanged" = some (.ref f)) : Cal P w K mg base 1 "exchanged" ["sign", "signs"] (sp_exchanged K) :=
  ⟨f, fd, fn_exchanged B  F, hm, F.kp, F.binds (ps := ["sign", "signs"]) fun _ _ _ _ _ _ us hl => match us, hl with | [_, _], _ => rfl⟩
abbrev s__law_at : Stmt := top 26
theorem sc__law_at : FnScope ["_law_script", "_law_k", "_law_mixed"] ["_law_script", "_law_k"] (defScope s__law_at) := ⟨rfl, rfl, rfl, by decide +kernel, rfl, by decide +kernel, by decide +kernel⟩
set_option maxHeartbeats 4000000 in
theorem fn__law_at {P : Program} {w : World} {K : PySem.W.Frag} {mg : Str → Option Value} {base : Heap} (B : Bt2 mg)  {f : Addr} {fd : FuncData} (F : Fun K "_law_at" "_law_at" s__law_at f fd) : FnOk P w K mg base CX0 1 f fd ["_law_script", "_law_k"] (sp__law_at K) := by
  refine F.ok sc__law_at (fun vs H Q E h => sl__law_at h) (fun cdv A outer s H vs Q E hr h => ?_)
  have hu := hr.units
  have nd := sc__law_at.nd
  refine ⟨rd__law_at K, ?_, rk__law_at h⟩
  exact (pss_cons (ps_if (pt_cmpR op_cLt (pv 1) (pe_callB call_len_seq rfl B.len_ bt_len (pa_cons (pv 0) pa_nil)) (nomark _)) (pss_one (ps_ret (pe_ix ix_list (pv 0) (pv 1) (fun _ _ => rfl)))) pss_nil)
      (pss_cons (ps_set (i := 2) nd rfl (Or.inl rfl) (pe_op op_cAdd (pe_op op_cMul pe_int (pv 1)) pe_int))
      (pss_cons (ps_if (pt_cmpR op_cGt (pe_callB call_len_seq rfl B.len_ bt_len (pa_cons (pv 0) pa_nil)) pe_int (nomark _)) (pss_one (ps_set (i := 2) nd rfl (Or.inl rfl) (pe_op op_cAdd (pv 2) (pe_op op_cMul (pe_op op_cMod (pe_ix ix_list (pv 0) (pe_op op_cMod (pv 1) (pe_callB call_len_seq rfl B.len_ bt_len (pa_cons (pv 0) pa_nil))) (fun _ _ => rfl)) pe_int) (pe_op op_cAdd (pv 1) pe_int))))) pss_nil)
      (pss_one (ps_ret (pe_op op_cAdd (pe_op op_cMod (pe_op op_cMul (pv 2) (pv 2)) pe_int) (pe_op op_cMod (pv 2) pe_int)))))))
theorem ok__law_at {P : Program} {w : World} {K : PySem.W.Frag} {mg : Str → Option Value} {base : Heap} (B : Bt2 mg)  {f : Addr} {fd : FuncData} (F : Fun K "_law_at" "_law_at" s__law_at f fd) (hm : mg "_law_at" = some (.ref f)) : Cal P w K mg base 1 "_law_at" ["_law_script", "_law_k"] (sp__law_at K) :=
  ⟨f, fd, fn__law_at B  F, hm, F.kp, F.binds (ps := ["_law_script", "_law_k"]) fun _ _ _ _ _ _ us hl => match us, hl with | [_, _], _ => rfl⟩
abbrev s__law_whole : Stmt := top 27
theorem sc__law_whole : FnScope ["_law_found"] ["_law_found"] (defScope s__law_whole) := ⟨rfl, rfl, rfl, by decide +kernel, rfl, by decide +kernel, by decide +kernel⟩
set_option maxHeartbeats 4000000 in
theorem fn__law_whole {P : Program} {w : World} {K : PySem.W.Frag} {mg : Str → Option Value} {base : Heap} (B : Bt2 mg)  {f : Addr} {fd : FuncData} (F : Fun K "_law_whole" "_law_whole" s__law_whole f fd) : FnOk P w K mg base CX0 1 f fd ["_law_found"] (sp__law_whole K) := by
  refine F.ok sc__law_whole (fun vs H Q E h => sl__law_whole h) (fun cdv A outer s H vs Q E hr h => ?_)
  have hu := hr.units
  have nd := sc__law_whole.nd
  refine ⟨rd__law_whole K, ?_, rk__law_whole h⟩
  exact (pss_one (ps_ret (pe_and (pe_callB call_kIsi rfl B.isinstance_ bt_isinstance (pa_cons (pv 0) (pa_cons (pe_bltn (v := .ty "int") rfl B.int_ bt_int rfl) pa_nil))) (pe_one (pe_not (pe_callB call_kIsi rfl B.isinstance_ bt_isinstance (pa_cons (pv 0) (pa_cons (pe_bltn (v := .ty "bool") rfl B.bool_ bt_bool rfl) pa_nil))))))))
theorem ok__law_whole {P : Program} {w : World} {K : PySem.W.Frag} {mg : Str → Option Value} {base : Heap} (B : Bt2 mg)  {f : Addr} {fd : FuncData} (F : Fun K "_law_whole" "_law_whole" s__law_whole f fd) (hm : mg "_law_whole" = some (.ref f)) : Cal P w K mg base 1 "_law_whole" ["_law_found"] (sp__law_whole K) :=
  ⟨f, fd, fn__law_whole B  F, hm, F.kp, F.binds (ps := ["_law_found"]) fun _ _ _ _ _ _ us hl => match us, hl with | [_], _ => rfl⟩
abbrev s__law_spot : Stmt := top 29
theorem sc__law_spot : FnScope ["_law_floor_here", "_law_cell", "_law_move", "_law_high", "_law_wide", "_law_signs", "_law_row", "_law_column", "_law_turn"] ["_law_floor_here", "_law_cell", "_law_move"] (defScope s__law_spot) := ⟨rfl, rfl, rfl, by decide +kernel, rfl, by decide +kernel, by decide +kernel⟩
set_option maxHeartbeats 4000000 in
theorem fn__law_spot {P : Program} {w : World} {K : PySem.W.Frag} {mg : Str → Option Value} {base : Heap} (B : Bt2 mg)  {f : Addr} {fd : FuncData} (F : Fun K "_law_spot" "_law_spot" s__law_spot f fd) : FnOk P w K mg base CX0 1 f fd ["_law_floor_here", "_law_cell", "_law_move"] (sp__law_spot K) := by
  refine F.ok sc__law_spot (fun vs H Q E h => sl__law_spot h) (fun cdv A outer s H vs Q E hr h => ?_)
  have hu := hr.units
  have nd := sc__law_spot.nd
  refine ⟨rd__law_spot K, ?_, rk__law_spot h⟩
  exact (pss_cons (ps_asg (pv 0) (pg_tup rfl (pgs_cons (pg_name (i := 3) nd rfl (Or.inl rfl)) (pgs_cons (pg_name (i := 4) nd rfl (Or.inl rfl)) (pgs_cons (pg_name (i := 5) nd rfl (Or.inl rfl)) pgs_nil)))))
      (pss_cons (ps_set (i := 6) nd rfl (Or.inl rfl) (pe_op op_cDiv (pv 1) (pv 4)))
      (pss_cons (ps_set (i := 7) nd rfl (Or.inl rfl) (pe_op op_cMod (pv 1) (pv 4)))
      (pss_cons (ps_if (pt_cmpR op_cGt (pv 2) pe_int (nomark _)) (pss_one (ps_set (i := 7) nd rfl (Or.inl rfl) (pe_op op_cSub (pe_op op_cSub (pv 4) pe_int) (pv 7)))) pss_nil)
      (pss_cons (ps_for PassesOwn.never rfl (pi_range1 rfl B.range_ (pa_cons (pe_op op_cMod (pv 2) pe_int) pa_nil)) (pg_name (i := 8) nd rfl (Or.inl rfl))
      (pss_cons (ps_par (i := 6) (j := 7) rfl nd rfl rfl (by decide) rfl rfl (pa_cons (pv 7) (pa_cons (pe_op op_cSub (pe_op op_cSub (pv 3) pe_int) (pv 6)) pa_nil)) rfl)
      (pss_one (ps_par (i := 3) (j := 4) rfl nd rfl rfl (by decide) rfl rfl (pa_cons (pv 4) (pa_cons (pv 3) pa_nil)) rfl))))
      (pss_one (ps_ret (pe_op op_cAdd (pe_op op_cMul (pv 6) (pv 4)) (pv 7)))))))))
theorem ok__law_spot {P : Program} {w : World} {K : PySem.W.Frag} {mg : Str → Option Value} {base : Heap} (B : Bt2 mg)  {f : Addr} {fd : FuncData} (F : Fun K "_law_spot" "_law_spot" s__law_spot f fd) (hm : mg "_law_spot" = some (.ref f)) : Cal P w K mg base 1 "_law_spot" ["_law_floor_here", "_law_cell", "_law_move"] (sp__law_spot K) :=
  ⟨f, fd, fn__law_spot B  F, hm, F.kp, F.binds (ps := ["_law_floor_here", "_law_cell", "_law_move"]) fun _ _ _ _ _ _ us hl => match us, hl with | [_, _, _], _ => rfl⟩
abbrev s__law_exchange : Stmt := top 31
theorem sc__law_exchange : FnScope ["_law_cell", "_law_many", "_law_left", "_law_found", "_law_k"] ["_law_cell", "_law_many"] (defScope s__law_exchange) := ⟨rfl, rfl, rfl, by decide +kernel, rfl, by decide +kernel, by decide +kernel⟩
set_option maxHeartbeats 4000000 in
theorem fn__law_exchange {P : Program} {w : World} {K : PySem.W.Frag} {mg : Str → Option Value} {base : Heap} (B : Bt2 mg)  {f : Addr} {fd : FuncData} (F : Fun K "_law_exchange" "_law_exchange" s__law_exchange f fd) : FnOk P w K mg base CX0 1 f fd ["_law_cell", "_law_many"] (sp__law_exchange K) := by
  refine F.ok sc__law_exchange (fun vs H Q E h => sl__law_exchange h) (fun cdv A outer s H vs Q E hr h => ?_)
  have hu := hr.units
  have nd := sc__law_exchange.nd
  refine ⟨rd__law_exchange K, ?_, rk__law_exchange h⟩
  exact (pss_cons (ps_set (i := 2) nd rfl (Or.inl rfl) (pe_listrng2 rfl rfl rfl B.list_ B.range_ (pa_cons pe_int (pa_cons (pe_op op_cAdd (pv 1) pe_int) pa_nil))))
      (pss_cons (ps_set (i := 3) nd rfl (Or.inl rfl) (pe_lst pa_nil))
      (pss_cons (ps_for PassesOwn.never rfl (pi_range1 rfl B.range_ (pa_cons (pv 1) pa_nil)) (pg_name (i := 4) nd rfl (Or.inl rfl))
      (pss_one (ps_expr (pe_bm PySem.F.plainAttrs_list PySem.F.slot_list_append PySem.F.type_list_append mt_kAppend (pv 3) (pa_cons (pe_bm PySem.F.plainAttrs_list PySem.F.slot_list_pop PySem.F.type_list_pop mt_kPopAt (pv 2) (pa_cons (pe_op op_cMod (pe_op op_cDiv (pv 0) (pe_op op_cAdd (pe_op op_cMul pe_int (pv 4)) pe_int)) (pe_callB call_kLen rfl B.len_ bt_len (pa_cons (pv 2) pa_nil))) pa_nil)) pa_nil)))))
      (pss_one (ps_ret (pv 3))))))
theorem ok__law_exchange {P : Program} {w : World} {K : PySem.W.Frag} {mg : Str → Option Value} {base : Heap} (B : Bt2 mg)  {f : Addr} {fd : FuncData} (F : Fun K "_law_exchange" "_law_exchange" s__law_exchange f fd) (hm : mg "_law_exchange" = some (.ref f)) : Cal P w K mg base 1 "_law_exchange" ["_law_cell", "_law_many"] (sp__law_exchange K) :=
  ⟨f, fd, fn__law_exchange B  F, hm, F.kp, F.binds (ps := ["_law_cell", "_law_many"]) fun _ _ _ _ _ _ us hl => match us, hl with | [_, _], _ => rfl⟩
abbrev s__law_bad_list : Stmt := top 32
theorem sc__law_bad_list : FnScope ["_law_signs", "_law_cell", "_law_at_here"] ["_law_signs", "_law_cell"] (defScope s__law_bad_list) := ⟨rfl, rfl, rfl, by decide +kernel, rfl, by decide +kernel, by decide +kernel⟩
set_option maxHeartbeats 4000000 in
theorem fn__law_bad_list {P : Program} {w : World} {K : PySem.W.Frag} {mg : Str → Option Value} {base : Heap} (B : Bt2 mg)  {f : Addr} {fd : FuncData} (F : Fun K "_law_bad_list" "_law_bad_list" s__law_bad_list f fd) : FnOk P w K mg base CX0 1 f fd ["_law_signs", "_law_cell"] (sp__law_bad_list K) := by
  refine F.ok sc__law_bad_list (fun vs H Q E h => sl__law_bad_list h) (fun cdv A outer s H vs Q E hr h => ?_)
  have hu := hr.units
  have nd := sc__law_bad_list.nd
  refine ⟨rd__law_bad_list K, ?_, rk__law_bad_list h⟩
  exact (pss_cons (ps_set (i := 2) nd rfl (Or.inl rfl) (pe_op op_cMod (pe_op op_cDiv (pv 1) pe_int) (pe_callB call_kLen rfl B.len_ bt_len (pa_cons (pv 0) pa_nil))))
      (pss_cons (ps_if (pt_cmpR (op_cEq hu) (pe_op op_cMod (pv 1) pe_int) pe_int (nomark _)) (pss_one (ps_ret (pe_slice sl_c2 (pv 0) (po_some pe_int) po_none))) pss_nil)
      (pss_cons (ps_if (pt_cmpR (op_cEq hu) (pe_op op_cMod (pv 1) pe_int) pe_int (nomark _)) (pss_one (ps_ret (pe_op op_cAdd (pv 0) (pe_lst (pa_cons (pe_ix (ix_c hu) (pv 0) (pv 2) (fun _ _ => rfl)) pa_nil))))) pss_nil)
      (pss_cons (ps_if (PW.pt (pw_and (pt_cmpR (op_cEq hu) (pe_op op_cMod (pv 1) pe_int) pe_int (nomark _)) (pw_and1 (pt_cmpR op_cGt (pe_callB call_kLen rfl B.len_ bt_len (pa_cons (pv 0) pa_nil)) pe_int (nomark _))))) (pss_one (ps_ret (pe_op op_cAdd (pe_op op_cAdd (pe_slice sl_c2 (pv 0) po_none (po_some (pv 2))) (pe_lst (pa_cons (pe_ix (ix_c hu) (pv 0) (pe_op op_cSub (pv 2) pe_int) (fun _ _ => rfl)) pa_nil))) (pe_slice sl_c2 (pv 0) (po_some (pe_op op_cAdd (pv 2) pe_int)) po_none)))) pss_nil)
      (pss_cons (ps_if (pt_cmpR (op_cEq hu) (pe_op op_cMod (pv 1) pe_int) pe_int (nomark _)) (pss_one (ps_ret (pe_op op_cAdd (pe_op op_cAdd (pe_slice sl_c2 (pv 0) po_none (po_some (pv 2))) (pe_lst (pa_cons pe_int pa_nil))) (pe_slice sl_c2 (pv 0) (po_some (pe_op op_cAdd (pv 2) pe_int)) po_none)))) pss_nil)
      (pss_one (ps_ret (pe_op op_cAdd (pe_op op_cAdd (pe_slice sl_c2 (pv 0) po_none (po_some (pv 2))) (pe_lst (pa_cons (pe_op op_cAdd (pe_op op_cAdd (pe_callB call_kLen rfl B.len_ bt_len (pa_cons (pv 0) pa_nil)) pe_int) (pe_op op_cMod (pe_op op_cDiv (pv 1) pe_int) (pe_op op_cPow pe_int pe_int))) pa_nil))) (pe_slice sl_c2 (pv 0) (po_some (pe_op op_cAdd (pv 2) pe_int)) po_none)))))))))
theorem ok__law_bad_list {P : Program} {w : World} {K : PySem.W.Frag} {mg : Str → Option Value} {base : Heap} (B : Bt2 mg)  {f : Addr} {fd : FuncData} (F : Fun K "_law_bad_list" "_law_bad_list" s__law_bad_list f fd) (hm : mg "_law_bad_list" = some (.ref f)) : Cal P w K mg base 1 "_law_bad_list" ["_law_signs", "_law_cell"] (sp__law_bad_list K) :=
  ⟨f, fd, fn__law_bad_list B  F, hm, F.kp, F.binds (ps := ["_law_signs", "_law_cell"]) fun _ _ _ _ _ _ us hl => match us, hl with | [_, _], _ => rfl⟩
abbrev s_refuse_no_move : Stmt := top 13
theorem sc_refuse_no_move : FnScope ["move"] ["move"] (defScope s_refuse_no_move) := ⟨rfl, rfl, rfl, by decide +kernel, rfl, by decide +kernel, by decide +kernel⟩
set_option maxHeartbeats 4000000 in
theorem fn_refuse_no_move {P : Program} {w : World} {K : PySem.W.Frag} {mg : Str → Option Value} {base : Heap} (B : Bt2 mg) (C_is_whole : Cal P w K mg base 1 "is_whole" ["value"] (sp_is_whole K)) {t_MANY_MOVES : Tok} (C_MANY_MOVES : mg "MANY_MOVES" = some (.int 8 t_MANY_MOVES)) {a : EA} (EM : ErrMx mg a) (R_NoMove : Ref1 K a "NoMove" a.NoMove (os66 a)) {f : Addr} {fd : FuncData} (F : Fun K "refuse_no_move" "refuse_no_move" s_refuse_no_move f fd) : FnOk P w K mg base (CX1 P w) 2 f fd ["move"] (sp_refuse_no_move K) := by
  refine F.ok1 sc_refuse_no_move (fun vs H Q E h => sl_refuse_no_move h) (fun cdv A outer s H vs Q E hr h => ?_)
  have hu := hr.units
  have nd := sc_refuse_no_move.nd
  refine ⟨rd_refuse_no_move K a E, ?_, rk_refuse_no_move R_NoMove h⟩
  exact (pss_one (ps_if (PW.pt (pw_or (pt_not (pt_val (pe_cal C_is_whole hr (by decide) rfl (pa_cons (pv 0) pa_nil)))) (pw_or (pt_cmpR op_cLt (pv 0) pe_int (nomark _)) (pw_or1 (pt_cmpR op_cGe (pv 0) (pe_glob rfl C_MANY_MOVES ⟨t_MANY_MOVES, rfl⟩) (nomark _)))))) (pss_one (ps_raise R_NoMove.xc rfl EM.NoMove (pa_cons pe_str pa_nil))) pss_nil))
theorem ok_refuse_no_move {P : Program} {w : World} {K : PySem.W.Frag} {mg : Str → Option Value} {base : Heap} (B : Bt2 mg) (C_is_whole : Cal P w K mg base 1 "is_whole" ["value"] (sp_is_whole K)) {t_MANY_MOVES : Tok} (C_MANY_MOVES : mg "MANY_MOVES" = some (.int 8 t_MANY_MOVES)) {a : EA} (EM : ErrMx mg a) (R_NoMove : Ref1 K a "NoMove" a.NoMove (os66 a)) {f : Addr} {fd : FuncData} (F : Fun K "refuse_no_move" "refuse_no_move" s_refuse_no_move f fd) (hm : mg "refuse_no_move" = some (.ref f)) : Cal1 P w K mg base 2 "refuse_no_move" ["move"] (sp_refuse_no_move K) :=
  ⟨f, fd, fn_refuse_no_move B C_is_whole C_MANY_MOVES EM R_NoMove F, hm, F.kp, F.binds (ps := ["move"]) fun _ _ _ _ _ _ us hl => match us, hl with | [_], _ => rfl⟩
abbrev s_moved_cell : Stmt := top 18
theorem sc_moved_cell : FnScope ["floor", "move", "cell", "now", "spot", "turn"] ["floor", "move", "cell"] (defScope s_moved_cell) := ⟨rfl, rfl, rfl, by decide +kernel, rfl, by decide +kernel, by decide +kernel⟩
set_option maxHeartbeats 4000000 in
theorem fn_moved_cell {P : Program} {w : World} {K : PySem.W.Frag} {mg : Str → Option Value} {base : Heap} (B : Bt2 mg) (C_mirrored_spot : Cal P w K mg base 1 "mirrored_spot" ["floor", "spot"] (sp_mirrored_spot K)) (C_spot_of : Cal P w K mg base 1 "spot_of" ["floor", "cell"] (sp_spot_of K)) (C_turned_floor : Cal P w K mg base 1 "turned_floor" ["floor"] (sp_turned_floor K)) (C_turned_spot : Cal P w K mg base 1 "turned_spot" ["floor", "spot"] (sp_turned_spot K)) {t_MANY_TURNS : Tok} (C_MANY_TURNS : mg "MANY_TURNS" = some (.int 4 t_MANY_TURNS)) {f : Addr} {fd : FuncData} (F : Fun K "moved_cell" "moved_cell" s_moved_cell f fd) : FnOk P w K mg base CX0 2 f fd ["floor", "move", "cell"] (sp_moved_cell K) := by
  refine F.ok sc_moved_cell (fun vs H Q E h => sl_moved_cell h) (fun cdv A outer s H vs Q E hr h => ?_)
  have hu := hr.units
  have nd := sc_moved_cell.nd
  refine ⟨rd_moved_cell K, ?_, rk_moved_cell h⟩
  exact (pss_cons (ps_set (i := 3) nd rfl (Or.inl rfl) (pv 0))
      (pss_cons (ps_set (i := 4) nd rfl (Or.inl rfl) (pe_cal C_spot_of hr (by decide) rfl (pa_cons (pv 0) (pa_cons (pv 2) pa_nil))))
      (pss_cons (ps_if (pt_cmpR op_cGe (pv 1) (pe_glob rfl C_MANY_TURNS ⟨t_MANY_TURNS, rfl⟩) (nomark _)) (pss_one (ps_set (i := 4) nd rfl (Or.inl rfl) (pe_cal C_mirrored_spot hr (by decide) rfl (pa_cons (pv 0) (pa_cons (pv 4) pa_nil))))) pss_nil)
      (pss_cons (ps_for PassesOwn.never rfl (pi_range1 rfl B.range_ (pa_cons (pe_op op_cMod (pv 1) (pe_glob rfl C_MANY_TURNS ⟨t_MANY_TURNS, rfl⟩)) pa_nil)) (pg_name (i := 5) nd rfl (Or.inl rfl))
      (pss_cons (ps_set (i := 4) nd rfl (Or.inl rfl) (pe_cal C_turned_spot hr (by decide) rfl (pa_cons (pv 3) (pa_cons (pv 4) pa_nil))))
      (pss_one (ps_set (i := 3) nd rfl (Or.inl rfl) (pe_cal C_turned_floor hr (by decide) rfl (pa_cons (pv 3) pa_nil))))))
      (pss_one (ps_ret (pe_op op_cAdd (pe_op op_cMul (pe_ix (ix_c hu) (pv 4) pe_int (fun _ _ => rfl)) (pe_ix (ix_c hu) (pv 3) pe_int (fun _ _ => rfl))) (pe_ix (ix_c hu) (pv 4) pe_int (fun _ _ => rfl)))))))))
theorem ok_moved_cell {P : Program} {w : World} {K : PySem.W.Frag} {mg : Str → Option Value} {base : Heap} (B : Bt2 mg) (C_mirrored_spot : Cal P w K mg base 1 "mirrored_spot" ["floor", "spot"] (sp_mirrored_spot K)) (C_spot_of : Cal P w K mg base 1 "spot_of" ["floor", "cell"] (sp_spot_of K)) (C_turned_floor : Cal P w K mg base 1 "turned_floor" ["floor"] (sp_turned_floor K)) (C_turned_spot : Cal P w K mg base 1 "turned_spot" ["floor", "spot"] (sp_turned_spot K)) {t_MANY_TURNS : Tok} (C_MANY_TURNS : mg "MANY_TURNS" = some (.int 4 t_MANY_TURNS)) {f : Addr} {fd : FuncData} (F : Fun K "moved_cell" "moved_cell" s_moved_cell f fd) (hm : mg "moved_cell" = some (.ref f)) : Cal P w K mg base 2 "moved_cell" ["floor", "move", "cell"] (sp_moved_cell K) :=
  ⟨f, fd, fn_moved_cell B C_mirrored_spot C_spot_of C_turned_floor C_turned_spot C_MANY_TURNS F, hm, F.kp, F.binds (ps := ["floor", "move", "cell"]) fun _ _ _ _ _ _ us hl => match us, hl with | [_, _, _], _ => rfl⟩
abbrev s_is_exchange : Stmt := top 21
theorem sc_is_exchange : FnScope ["floor", "signs"] ["floor", "signs"] (defScope s_is_exchange) := ⟨rfl, rfl, rfl, by decide +kernel, rfl, by decide +kernel, by decide +kernel⟩
set_option maxHeartbeats 4000000 in
theorem fn_is_exchange {P : Program} {w : World} {K : PySem.W.Frag} {mg : Str → Option Value} {base : Heap} (B : Bt2 mg) (C_is_whole : Cal P w K mg base 1 "is_whole" ["value"] (sp_is_whole K)) (C_unchanged_signs : Cal P w K mg base 1 "unchanged_signs" ["floor"] (sp_unchanged_signs K)) {f : Addr} {fd : FuncData} (F : Fun K "is_exchange" "is_exchange" s_is_exchange f fd) : FnOk P w K mg base CX0 2 f fd ["floor", "signs"] (sp_is_exchange K) := by
  refine F.ok sc_is_exchange (fun vs H Q E h => sl_is_exchange h) (fun cdv A outer s H vs Q E hr h => ?_)
  have hu := hr.units
  have nd := sc_is_exchange.nd
  refine ⟨rd_is_exchange K, ?_, rk_is_exchange h⟩
  exact (pss_cons (ps_if (PW.pt (pw_or (pt_not (pt_val (pe_callB call_kIsi rfl B.isinstance_ bt_isinstance (pa_cons (pv 1) (pa_cons (pe_bltn (v := .ty "list") rfl B.list_ bt_list rfl) pa_nil))))) (pw_or1 (pt_not (pt_val (pe_callB (call_kAll rfl) rfl B.all_ bt_all (pa_cons (pe_comp (ix := [none, none]) [".0", "sign"] (blk_ok2 rfl (by decide +kernel) rfl rfl rfl) rfl (pi_list (pv 1)) (fun cl s H fp => (pg_name (i := 1) (show ([".0", "sign"] : List Str).Nodup by decide +kernel) rfl (Or.inl rfl))) (fun cl s H fp => pts_nil) (fun cl s H fp => (pe_cal C_is_whole hr (by decide) rfl (pa_cons (pv 1) pa_nil)))) pa_nil))))))) (pss_one (ps_ret pe_bl)) pss_nil)
      (pss_one (ps_ret (pe_cmpR (op_cEq hu) (pe_callB call_kSorted rfl B.sorted_ bt_sorted (pa_cons (pv 1) pa_nil)) (pe_cal C_unchanged_signs hr (by decide) rfl (pa_cons (pv 0) pa_nil)) (nomark _)))))
theorem ok_is_exchange {P : Program} {w : World} {K : PySem.W.Frag} {mg : Str → Option Value} {base : Heap} (B : Bt2 mg) (C_is_whole : Cal P w K mg base 1 "is_whole" ["value"] (sp_is_whole K)) (C_unchanged_signs : Cal P w K mg base 1 "unchanged_signs" ["floor"] (sp_unchanged_signs K)) {f : Addr} {fd : FuncData} (F : Fun K "is_exchange" "is_exchange" s_is_exchange f fd) (hm : mg "is_exchange" = some (.ref f)) : Cal P w K mg base 2 "is_exchange" ["floor", "signs"] (sp_is_exchange K) :=
  ⟨f, fd, fn_is_exchange B C_is_whole C_unchanged_signs F, hm, F.kp, F.binds (ps := ["floor", "signs"]) fun _ _ _ _ _ _ us hl => match us, hl with | [_, _], _ => rfl⟩
abbrev s__law_floor : Stmt := top 28
theorem sc__law_floor : FnScope ["_law_script", "_law_high", "_law_wide"] ["_law_script"] (defScope s__law_floor) := ⟨rfl, rfl, rfl, by decide +kernel, rfl, by decide +kernel, by decide +kernel⟩
set_option maxHeartbeats 4000000 in
theorem fn__law_floor {P : Program} {w : World} {K : PySem.W.Frag} {mg : Str → Option Value} {base : Heap} (B : Bt2 mg) (C__law_at : Cal P w K mg base 1 "_law_at" ["_law_script", "_law_k"] (sp__law_at K)) {f : Addr} {fd : FuncData} (F : Fun K "_law_floor" "_law_floor" s__law_floor f fd) : FnOk P w K mg base CX0 2 f fd ["_law_script"] (sp__law_floor K) := by
  refine F.ok sc__law_floor (fun vs H Q E h => sl__law_floor h) (fun cdv A outer s H vs Q E hr h => ?_)
  have hu := hr.units
  have nd := sc__law_floor.nd
  refine ⟨rd__law_floor K, ?_, rk__law_floor h⟩
  exact (pss_cons (ps_set (i := 1) nd rfl (Or.inl rfl) (pe_op op_cAdd pe_int (pe_op op_cMod (pe_cal C__law_at hr (by decide) rfl (pa_cons (pv 0) (pa_cons pe_int pa_nil))) pe_int)))
      (pss_cons (ps_set (i := 2) nd rfl (Or.inl rfl) (pe_op op_cAdd pe_int (pe_op op_cMod (pe_cal C__law_at hr (by decide) rfl (pa_cons (pv 0) (pa_cons pe_int pa_nil))) (pe_callB (call_kMin rfl) rfl B.min_ bt_min (pa_cons pe_int (pa_cons (pe_op op_cDiv pe_int (pv 1)) pa_nil))))))
      (pss_one (ps_ret (pe_tup (pa_cons (pv 1) (pa_cons (pv 2) (pa_cons (pe_op op_cAdd pe_int (pe_op op_cMod (pe_cal C__law_at hr (by decide) rfl (pa_cons (pv 0) (pa_cons pe_int pa_nil))) pe_int)) pa_nil))))))))
theorem ok__law_floor {P : Program} {w : World} {K : PySem.W.Frag} {mg : Str → Option Value} {base : Heap} (B : Bt2 mg) (C__law_at : Cal P w K mg base 1 "_law_at" ["_law_script", "_law_k"] (sp__law_at K)) {f : Addr} {fd : FuncData} (F : Fun K "_law_floor" "_law_floor" s__law_floor f fd) (hm : mg "_law_floor" = some (.ref f)) : Cal P w K mg base 2 "_law_floor" ["_law_script"] (sp__law_floor K) :=
  ⟨f, fd, fn__law_floor B C__law_at F, hm, F.kp, F.binds (ps := ["_law_script"]) fun _ _ _ _ _ _ us hl => match us, hl with | [_], _ => rfl⟩
abbrev s__law_due : Stmt := top 34
theorem sc__law_due : FnScope ["_law_floor_here", "_law_filling", "_law_move", "_law_signs", "_law_due_here", "_law_cell", "_law_sign"] ["_law_floor_here", "_law_filling", "_law_move", "_law_signs"] (defScope s__law_due) := ⟨rfl, rfl, rfl, by decide +kernel, rfl, by decide +kernel, by decide +kernel⟩
set_option maxHeartbeats 4000000 in
theorem fn__law_due {P : Program} {w : World} {K : PySem.W.Frag} {mg : Str → Option Value} {base : Heap} (B : Bt2 mg) (C__law_spot : Cal P w K mg base 1 "_law_spot" ["_law_floor_here", "_law_cell", "_law_move"] (sp__law_spot K)) {f : Addr} {fd : FuncData} (F : Fun K "_law_due" "_law_due" s__law_due f fd) : FnOk P w K mg base CX0 2 f fd ["_law_floor_here", "_law_filling", "_law_move", "_law_signs"] (sp__law_due K) := by
  refine F.ok sc__law_due (fun vs H Q E h => sl__law_due h) (fun cdv A outer s H vs Q E hr h => ?_)
  have hu := hr.units
  have nd := sc__law_due.nd
  refine ⟨rd__law_due K, ?_, rk__law_due h⟩
  exact (pss_cons (ps_set (i := 4) nd rfl (Or.inl rfl) (pe_callTy call_kList rfl B.list_ bt_list (pa_cons (pv 1) pa_nil)))
      (pss_cons (ps_for PassesOwn.never rfl (pi_enum rfl B.enumerate_ (pa_cons (pv 1) pa_nil)) (pg_tup rfl (pgs_cons (pg_name (i := 5) nd rfl (Or.inl rfl)) (pgs_cons (pg_name (i := 6) nd rfl (Or.inl rfl)) pgs_nil)))
      (pss_one (ps_asg (pe_ix (ix_c hu) (pe_op op_cAdd (pe_lst (pa_cons pe_int pa_nil)) (pv 3)) (pv 6) (fun _ _ => rfl)) (pg_sub (pv 4) (pe_cal C__law_spot hr (by decide) rfl (pa_cons (pv 0) (pa_cons (pv 5) (pa_cons (pv 2) pa_nil)))) (set_c hu)))))
      (pss_one (ps_ret (pv 4)))))
theorem ok__law_due {P : Program} {w : World} {K : PySem.W.Frag} {mg : Str → Option Value} {base : Heap} (B : Bt2 mg) (C__law_spot : Cal P w K mg base 1 "_law_spot" ["_law_floor_here", "_law_cell", "_law_move"] (sp__law_spot K)) {f : Addr} {fd : FuncData} (F : Fun K "_law_due" "_law_due" s__law_due f fd) (hm : mg "_law_due" = some (.ref f)) : Cal P w K mg base 2 "_law_due" ["_law_floor_here", "_law_filling", "_law_move", "_law_signs"] (sp__law_due K) :=
  ⟨f, fd, fn__law_due B C__law_spot F, hm, F.kp, F.binds (ps := ["_law_floor_here", "_law_filling", "_law_move", "_law_signs"]) fun _ _ _ _ _ _ us hl => match us, hl with | [_, _, _, _], _ => rfl⟩
abbrev s__law_are : Stmt := top 35
theorem sc__law_are : FnScope ["_law_found", "_law_due_here"] ["_law_found", "_law_due_here"] (defScope s__law_are) := ⟨rfl, rfl, rfl, by decide +kernel, rfl, by decide +kernel, by decide +kernel⟩
set_option maxHeartbeats 4000000 in
theorem fn__law_are {P : Program} {w : World} {K : PySem.W.Frag} {mg : Str → Option Value} {base : Heap} (B : Bt2 mg) (C__law_whole : Cal P w K mg base 1 "_law_whole" ["_law_found"] (sp__law_whole K)) {f : Addr} {fd : FuncData} (F : Fun K "_law_are" "_law_are" s__law_are f fd) : FnOk P w K mg base CX0 2 f fd ["_law_found", "_law_due_here"] (sp__law_are K) := by
  refine F.ok sc__law_are (fun vs H Q E h => sl__law_are h) (fun cdv A outer s H vs Q E hr h => ?_)
  have hu := hr.units
  have nd := sc__law_are.nd
  refine ⟨rd__law_are K, ?_, rk__law_are h⟩
  exact (pss_cons (ps_if (PW.pt (pw_or (pt_not (pt_val (pe_callB call_kIsi rfl B.isinstance_ bt_isinstance (pa_cons (pv 0) (pa_cons (pe_bltn (v := .ty "list") rfl B.list_ bt_list rfl) pa_nil))))) (pw_or1 (pt_cmpR (op_cNe hu) (pv 0) (pv 1) (nomark _))))) (pss_one (ps_ret pe_bl)) pss_nil)
      (pss_one (ps_ret (pe_cmpR (op_cEq hu) (pe_callB call_kLen rfl B.len_ bt_len (pa_cons (pe_comp (ix := [none, none]) [".0", "_law_sign"] (blk_ok2 rfl (by decide +kernel) rfl rfl rfl) rfl (pi_list (pv 0)) (fun cl s H fp => (pg_name (i := 1) (show ([".0", "_law_sign"] : List Str).Nodup by decide +kernel) rfl (Or.inl rfl))) (fun cl s H fp => (pts_one (pt_val (pe_cal C__law_whole hr (by decide) rfl (pa_cons (pv 1) pa_nil))))) (fun cl s H fp => (pv 1))) pa_nil)) (pe_callB call_kLen rfl B.len_ bt_len (pa_cons (pv 1) pa_nil)) (nomark _)))))
theorem ok__law_are {P : Program} {w : World} {K : PySem.W.Frag} {mg : Str → Option Value} {base : Heap} (B : Bt2 mg) (C__law_whole : Cal P w K mg base 1 "_law_whole" ["_law_found"] (sp__law_whole K)) {f : Addr} {fd : FuncData} (F : Fun K "_law_are" "_law_are" s__law_are f fd) (hm : mg "_law_are" = some (.ref f)) : Cal P w K mg base 2 "_law_are" ["_law_found", "_law_due_here"] (sp__law_are K) :=
  ⟨f, fd, fn__law_are B C__law_whole F, hm, F.kp, F.binds (ps := ["_law_found", "_law_due_here"]) fun _ _ _ _ _ _ us hl => match us, hl with | [_, _], _ => rfl⟩
abbrev s_moved_floor : Stmt := top 17
theorem sc_moved_floor : FnScope ["floor", "move", "now", "turn"] ["floor", "move"] (defScope s_moved_floor) := ⟨rfl, rfl, rfl, by decide +kernel, rfl, by decide +kernel, by decide +kernel⟩
set_option maxHeartbeats 4000000 in
theorem fn_moved_floor {P : Program} {w : World} {K : PySem.W.Frag} {mg : Str → Option Value} {base : Heap} (B : Bt2 mg) (C_refuse_no_move : Cal1 P w K mg base 2 "refuse_no_move" ["move"] (sp_refuse_no_move K)) (C_turned_floor : Cal P w K mg base 1 "turned_floor" ["floor"] (sp_turned_floor K)) {t_MANY_TURNS : Tok} (C_MANY_TURNS : mg "MANY_TURNS" = some (.int 4 t_MANY_TURNS)) {f : Addr} {fd : FuncData} (F : Fun K "moved_floor" "moved_floor" s_moved_floor f fd) : FnOk P w K mg base (CX1 P w) 3 f fd ["floor", "move"] (sp_moved_floor K) := by
  refine F.ok1 sc_moved_floor (fun vs H Q E h => sl_moved_floor h) (fun cdv A outer s H vs Q E hr h => ?_)
  have hu := hr.units
  have nd := sc_moved_floor.nd
  refine ⟨rd_moved_floor K E, ?_, rk_moved_floor h⟩
  exact (pss_cons (ps_expr (pe_cal1 (xe_pass fun _ _ _ z => z) C_refuse_no_move hr (by decide) rfl (pa_cons (pv 1) pa_nil)))
      (pss_cons (ps_set (i := 2) nd rfl (Or.inl rfl) (pv 0))
      (pss_cons (ps_for PassesOwn.leaving rfl (pi_range1 rfl B.range_ (pa_cons (pe_op op_cMod (pv 1) (pe_glob rfl C_MANY_TURNS ⟨t_MANY_TURNS, rfl⟩)) pa_nil)) (pg_name (i := 3) nd rfl (Or.inl rfl))
      (pss_one (ps_set (i := 2) nd rfl (Or.inl rfl) (pe_cal C_turned_floor hr (by decide) rfl (pa_cons (pv 2) pa_nil)))))
      (pss_one (ps_ret (pv 2))))))
theorem ok_moved_floor {P : Program} {w : World} {K : PySem.W.Frag} {mg : Str → Option Value} {base : Heap} (B : Bt2 mg) (C_refuse_no_move : Cal1 P w K mg base 2 "refuse_no_move" ["move"] (sp_refuse_no_move K)) (C_turned_floor : Cal P w K mg base 1 "turned_floor" ["floor"] (sp_turned_floor K)) {t_MANY_TURNS : Tok} (C_MANY_TURNS : mg "MANY_TURNS" = some (.int 4 t_MANY_TURNS)) {f : Addr} {fd : FuncData} (F : Fun K "moved_floor" "moved_floor" s_moved_floor f fd) (hm : mg "moved_floor" = some (.ref f)) : Cal1 P w K mg base 3 "moved_floor" ["floor", "move"] (sp_moved_floor K) :=
  ⟨f, fd, fn_moved_floor B C_refuse_no_move C_turned_floor C_MANY_TURNS F, hm, F.kp, F.binds (ps := ["floor", "move"]) fun _ _ _ _ _ _ us hl => match us, hl with | [_, _], _ => rfl⟩
abbrev s_moved_cells : Stmt := top 19
theorem sc_moved_cells : FnScope ["floor", "move"] ["floor", "move"] (defScope s_moved_cells) := ⟨rfl, rfl, rfl, by decide +kernel, rfl, by decide +kernel, by decide +kernel⟩
set_option maxHeartbeats 4000000 in
theorem fn_moved_cells {P : Program} {w : World} {K : PySem.W.Frag} {mg : Str → Option Value} {base : Heap} (B : Bt2 mg) (C_many_cells : Cal P w K mg base 1 "many_cells" ["floor"] (sp_many_cells K)) (C_moved_cell : Cal P w K mg base 2 "moved_cell" ["floor", "move", "cell"] (sp_moved_cell K)) (C_refuse_no_move : Cal1 P w K mg base 2 "refuse_no_move" ["move"] (sp_refuse_no_move K)) {f : Addr} {fd : FuncData} (F : Fun K "moved_cells" "moved_cells" s_moved_cells f fd) : FnOk P w K mg base (CX1 P w) 3 f fd ["floor", "move"] (sp_moved_cells K) := by
  refine F.ok1 sc_moved_cells (fun vs H Q E h => sl_moved_cells h) (fun cdv A outer s H vs Q E hr h => ?_)
  have hu := hr.units
  have nd := sc_moved_cells.nd
  refine ⟨rd_moved_cells K E, ?_, rk_moved_cells h⟩
  exact (pss_cons (ps_expr (pe_cal1 (xe_pass fun _ _ _ z => z) C_refuse_no_move hr (by decide) rfl (pa_cons (pv 1) pa_nil)))
      (pss_one (ps_ret (pe_comp (ix := [none, none, some 0, some 1]) [".0", "cell", "floor", "move"] (blk_ok2 rfl (by decide +kernel) rfl rfl rfl) rfl (pi_range1 rfl B.range_ (pa_cons (pe_cal C_many_cells hr (by decide) rfl (pa_cons (pv 0) pa_nil)) pa_nil)) (fun cl s H fp => (pg_name (i := 1) (show ([".0", "cell", "floor", "move"] : List Str).Nodup by decide +kernel) rfl (Or.inl rfl))) (fun cl s H fp => pts_nil) (fun cl s H fp => (pe_cal C_moved_cell hr (by decide) rfl (pa_cons (pv 2) (pa_cons (pv 3) (pa_cons (pv 1) pa_nil)))))))))
theorem ok_moved_cells {P : Program} {w : World} {K : PySem.W.Frag} {mg : Str → Option Value} {base : Heap} (B : Bt2 mg) (C_many_cells : Cal P w K mg base 1 "many_cells" ["floor"] (sp_many_cells K)) (C_moved_cell : Cal P w K mg base 2 "moved_cell" ["floor", "move", "cell"] (sp_moved_cell K)) (C_refuse_no_move : Cal1 P w K mg base 2 "refuse_no_move" ["move"] (sp_refuse_no_move K)) {f : Addr} {fd : FuncData} (F : Fun K "moved_cells" "moved_cells" s_moved_cells f fd) (hm : mg "moved_cells" = some (.ref f)) : Cal1 P w K mg base 3 "moved_cells" ["floor", "move"] (sp_moved_cells K) :=
  ⟨f, fd, fn_moved_cells B C_many_cells C_moved_cell C_refuse_no_move F, hm, F.kp, F.binds (ps := ["floor", "move"]) fun _ _ _ _ _ _ us hl => match us, hl with | [_, _], _ => rfl⟩
abbrev s_exchange_by : Stmt := top 22
theorem sc_exchange_by : FnScope ["floor", "signs"] ["floor", "signs"] (defScope s_exchange_by) := ⟨rfl, rfl, rfl, by decide +kernel, rfl, by decide +kernel, by decide +kernel⟩
set_option maxHeartbeats 4000000 in
theorem fn_exchange_by {P : Program} {w : World} {K : PySem.W.Frag} {mg : Str → Option Value} {base : Heap} (B : Bt2 mg) (C_is_exchange : Cal P w K mg base 2 "is_exchange" ["floor", "signs"] (sp_is_exchange K)) (C_unchanged_signs : Cal P w K mg base 1 "unchanged_signs" ["floor"] (sp_unchanged_signs K)) {a : EA} (EM : ErrMx mg a) (R_NoMove : Ref1 K a "NoMove" a.NoMove (os66 a)) {f : Addr} {fd : FuncData} (F : Fun K "exchange_by" "exchange_by" s_exchange_by f fd) : FnOk P w K mg base (CX1 P w) 3 f fd ["floor", "signs"] (sp_exchange_by K) := by
  refine F.ok1 sc_exchange_by (fun vs H Q E h => sl_exchange_by h) (fun cdv A outer s H vs Q E hr h => ?_)
  have hu := hr.units
  have nd := sc_exchange_by.nd
  refine ⟨rd_exchange_by K a E, ?_, rk_exchange_by R_NoMove h⟩
  exact (pss_cons (ps_if (pt_cmpR op_isN (pv 1) pe_non (nomark _)) (pss_one (ps_ret (pe_cal C_unchanged_signs hr (by decide) rfl (pa_cons (pv 0) pa_nil)))) pss_nil)
      (pss_cons (ps_if (pt_not (pt_val (pe_cal C_is_exchange hr (by decide) rfl (pa_cons (pv 0) (pa_cons (pv 1) pa_nil))))) (pss_one (ps_raise R_NoMove.xc rfl EM.NoMove (pa_cons pe_str pa_nil))) pss_nil)
      (pss_one (ps_ret (pv 1)))))
theorem ok_exchange_by {P : Program} {w : World} {K : PySem.W.Frag} {mg : Str → Option Value} {base : Heap} (B : Bt2 mg) (C_is_exchange : Cal P w K mg base 2 "is_exchange" ["floor", "signs"] (sp_is_exchange K)) (C_unchanged_signs : Cal P w K mg base 1 "unchanged_signs" ["floor"] (sp_unchanged_signs K)) {a : EA} (EM : ErrMx mg a) (R_NoMove : Ref1 K a "NoMove" a.NoMove (os66 a)) {f : Addr} {fd : FuncData} (F : Fun K "exchange_by" "exchange_by" s_exchange_by f fd) (hm : mg "exchange_by" = some (.ref f)) : Cal1 P w K mg base 3 "exchange_by" ["floor", "signs"] (sp_exchange_by K) :=
  ⟨f, fd, fn_exchange_by B C_is_exchange C_unchanged_signs EM R_NoMove F, hm, F.kp, F.binds (ps := ["floor", "signs"]) fun _ _ _ _ _ _ us hl => match us, hl with | [_, _], _ => rfl⟩
abbrev s_moved_filling : Stmt := top 24
theorem sc_moved_filling : FnScope ["floor", "filling", "move", "signs", "cells", "exchange", "found", "cell", "sign"] ["floor", "filling", "move", "signs"] (defScope s_moved_filling) := ⟨rfl, rfl, rfl, by decide +kernel, rfl, by decide +kernel, by decide +kernel⟩
set_option maxHeartbeats 4000000 in
theorem fn_moved_filling {P : Program} {w : World} {K : PySem.W.Frag} {mg : Str → Option Value} {base : Heap} (B : Bt2 mg) (C_exchange_by : Cal1 P w K mg base 3 "exchange_by" ["floor", "signs"] (sp_exchange_by K)) (C_exchanged : Cal P w K mg base 1 "exchanged" ["sign", "signs"] (sp_exchanged K)) (C_many_cells : Cal P w K mg base 1 "many_cells" ["floor"] (sp_many_cells K)) (C_moved_cells : Cal1 P w K mg base 3 "moved_cells" ["floor", "move"] (sp_moved_cells K)) {f : Addr} {fd : FuncData} (F : FunD K "moved_filling" "moved_filling" s_moved_filling f fd [Value.none]) : FnOk P w K mg base (CX1 P w) 4 f fd ["floor", "filling", "move", "signs"] (sp_moved_filling K) := by
  refine F.ok1 sc_moved_filling (fun vs H Q E h => sl_moved_filling h) (fun cdv A outer s H vs Q E hr h => ?_)
  have hu := hr.units
  have nd := sc_moved_filling.nd
  refine ⟨rd_moved_filling K E, ?_, rk_moved_filling h⟩
  exact (pss_cons (ps_set (i := 4) nd rfl (Or.inl rfl) (pe_cal1 (xe_pass fun _ _ _ z => z) C_moved_cells hr (by decide) rfl (pa_cons (pv 0) (pa_cons (pv 2) pa_nil))))
      (pss_cons (ps_set (i := 5) nd rfl (Or.inl rfl) (pe_cal1 (xe_pass fun _ _ _ z => z) C_exchange_by hr (by decide) rfl (pa_cons (pv 0) (pa_cons (pv 3) pa_nil))))
      (pss_cons (ps_set (i := 6) nd rfl (Or.inl rfl) (pe_op op_cRepL (pe_lst (pa_cons pe_int pa_nil)) (pe_cal C_many_cells hr (by decide) rfl (pa_cons (pv 0) pa_nil))))
      (pss_cons (ps_for PassesOwn.leaving rfl (pi_zip rfl B.zip_ (pa_cons (pv 4) (pa_cons (pv 1) pa_nil))) (pg_tup rfl (pgs_cons (pg_name (i := 7) nd rfl (Or.inl rfl)) (pgs_cons (pg_name (i := 8) nd rfl (Or.inl rfl)) pgs_nil)))
      (pss_one (ps_asg (pe_cal C_exchanged hr (by decide) rfl (pa_cons (pv 8) (pa_cons (pv 5) pa_nil))) (pg_sub (pv 6) (pv 7) (set_c hu)))))
      (pss_one (ps_ret (pv 6)))))))
theorem ok_moved_filling {P : Program} {w : World} {K : PySem.W.Frag} {mg : Str → Option Value} {base : Heap} (B : Bt2 mg) (C_exchange_by : Cal1 P w K mg base 3 "exchange_by" ["floor", "signs"] (sp_exchange_by K)) (C_exchanged : Cal P w K mg base 1 "exchanged" ["sign", "signs"] (sp_exchanged K)) (C_many_cells : Cal P w K mg base 1 "many_cells" ["floor"] (sp_many_cells K)) (C_moved_cells : Cal1 P w K mg base 3 "moved_cells" ["floor", "move"] (sp_moved_cells K)) {f : Addr} {fd : FuncData} (F : FunD K "moved_filling" "moved_filling" s_moved_filling f fd [Value.none]) (hm : mg "moved_filling" = some (.ref f)) : Cal1 P w K mg base 4 "moved_filling" ["floor", "filling", "move", "signs"] (sp_moved_filling K) :=
  ⟨f, fd, fn_moved_filling B C_exchange_by C_exchanged C_many_cells C_moved_cells F, hm, F.kp, F.binds (ps := ["floor", "filling", "move", "signs"]) fun _ _ _ _ _ _ _ us hl => match us, hl with | [_, _, _, _], _ => ⟨_, rfl, rfl⟩⟩
theorem okD_moved_filling {P : Program} {w : World} {K : PySem.W.Frag} {mg : Str → Option Value} {base : Heap} (B : Bt2 mg) (C_exchange_by : Cal1 P w K mg base 3 "exchange_by" ["floor", "signs"] (sp_exchange_by K)) (C_exchanged : Cal P w K mg base 1 "exchanged" ["sign", "signs"] (sp_exchanged K)) (C_many_cells : Cal P w K mg base 1 "many_cells" ["floor"] (sp_many_cells K)) (C_moved_cells : Cal1 P w K mg base 3 "moved_cells" ["floor", "move"] (sp_moved_cells K)) {f : Addr} {fd : FuncData} (F : FunD K "moved_filling" "moved_filling" s_moved_filling f fd [Value.none]) (hm : mg "moved_filling" = some (.ref f)) : Cal1D P w K mg base 4 "moved_filling" ["floor", "filling", "move", "signs"] (sp_moved_filling K) [Value.none] :=
  ⟨f, fd, fn_moved_filling B C_exchange_by C_exchanged C_many_cells C_moved_cells F, hm, F.kp, FunD.bindsD (ps := ["floor", "filling", "move", "signs"]) 3 rfl F fun _ _ _ _ _ _ _ us hl => match us, hl with | [_, _, _], _ => ⟨_, rfl, rfl⟩⟩
abbrev s__law_refused : Stmt := top 33
theorem sc__law_refused : FnScope ["_law_floor_here", "_law_filling", "_law_move", "_law_signs", "_law_caught", "error", "_law_others"] ["_law_floor_here", "_law_filling", "_law_move", "_law_signs"] (defScope s__law_refused) := ⟨rfl, rfl, rfl, by decide +kernel, rfl, by decide +kernel, by decide +kernel⟩
set_option maxHeartbeats 4000000 in
theorem fn__law_refused {P : Program} {w : World} {K : PySem.W.Frag} {mg : Str → Option Value} {base : Heap} (B : Bt2 mg) (C_moved_filling : Cal1 P w K mg base 4 "moved_filling" ["floor", "filling", "move", "signs"] (sp_moved_filling K)) {a : EA} (EM : ErrMx mg a) (R_NoMove : Ref1 K a "NoMove" a.NoMove (os66 a)) (BV : mg "ValueError" = none) {f : Addr} {fd : FuncData} (F : Fun K "_law_refused" "_law_refused" s__law_refused f fd) : FnOk P w K mg base CX0 5 f fd ["_law_floor_here", "_law_filling", "_law_move", "_law_signs"] (sp__law_refused K) := by
  refine F.ok sc__law_refused (fun vs H Q E h => sl__law_refused h) (fun cdv A outer s H vs Q E hr h => ?_)
  have hu := hr.units
  have nd := sc__law_refused.nd
  refine ⟨rd__law_refused K a, ?_, rk__law_refused R_NoMove h⟩
  exact (pss_cons (ps_set (i := 4) nd rfl (Or.inl rfl) pe_non)
      (pss_cons (ps_trye (i := 5) (fun _ _ z => z) C_moved_filling hr (by decide) rfl (pa_cons (pv 0) (pa_cons (pv 1) (pa_cons (pv 2) (pa_cons (pv 3) pa_nil)))) nd rfl rfl rfl EM.ClueError rfl rfl (fun _ => (pss_one (ps_set (i := 4) nd rfl (Or.inl rfl) (pv 5)))))
      (pss_cons (ps_set (i := 6) nd rfl (Or.inl rfl) (pe_lst (pa_cons (pe_callB call_kIsX rfl B.isinstance_ bt_isinstance (pa_cons (pv 4) (pa_cons (pe_glob rfl EM.NoFilling rfl) pa_nil))) (pa_cons (pe_callB call_kIsX rfl B.isinstance_ bt_isinstance (pa_cons (pv 4) (pa_cons (pe_glob rfl EM.NoPuzzle rfl) pa_nil))) (pa_cons (pe_callB call_kIsX rfl B.isinstance_ bt_isinstance (pa_cons (pv 4) (pa_cons (pe_glob rfl EM.TooMany rfl) pa_nil))) pa_nil)))))
      (pss_one (ps_ret (pe_and (pe_callB call_kIsX rfl B.isinstance_ bt_isinstance (pa_cons (pv 4) (pa_cons (pe_glob rfl EM.NoMove rfl) pa_nil))) (pe_and (pe_callB call_kIsX rfl B.isinstance_ bt_isinstance (pa_cons (pv 4) (pa_cons (pe_bltn (v := .ty "ValueError") rfl BV bt_ValueError rfl) pa_nil))) (pe_one (pe_not (pe_callB (call_kAny rfl) rfl B.any_ bt_any (pa_cons (pv 6) pa_nil)))))))))))
theorem ok__law_refused {P : Program} {w : World} {K : PySem.W.Frag} {mg : Str → Option Value} {base : Heap} (B : Bt2 mg) (C_moved_filling : Cal1 P w K mg base 4 "moved_filling" ["floor", "filling", "move", "signs"] (sp_moved_filling K)) {a : EA} (EM : ErrMx mg a) (R_NoMove : Ref1 K a "NoMove" a.NoMove (os66 a)) (BV : mg "ValueError" = none) {f : Addr} {fd : FuncData} (F : Fun K "_law_refused" "_law_refused" s__law_refused f fd) (hm : mg "_law_refused" = some (.ref f)) : Cal P w K mg base 5 "_law_refused" ["_law_floor_here", "_law_filling", "_law_move", "_law_signs"] (sp__law_refused K) :=
  ⟨f, fd, fn__law_refused B C_moved_filling EM R_NoMove BV F, hm, F.kp, F.binds (ps := ["_law_floor_here", "_law_filling", "_law_move", "_law_signs"]) fun _ _ _ _ _ _ us hl => match us, hl with | [_, _, _, _], _ => rfl⟩
abbrev s_law : Stmt := top 36
theorem sc_law : FnScope ["_law_script", "_law_floor_here", "_law_filling", "_law_move", "_law_back", "_law_plain_signs", "_law_signs", "_law_due_here", "_law_handed", "_law_found", "_law_there", "_law_turned_signs", "_law_odd"] ["_law_script"] (defScope s_law) := ⟨rfl, rfl, rfl, by decide +kernel, rfl, by decide +kernel, by decide +kernel⟩
set_option maxHeartbeats 4000000 in
theorem fn_law {P : Program} {w : World} {K : PySem.W.Frag} {mg : Str → Option Value} {base : Heap} (B : Bt2 mg) (C__law_are : Cal P w K mg base 2 "_law_are" ["_law_found", "_law_due_here"] (sp__law_are K)) (C__law_at : Cal P w K mg base 1 "_law_at" ["_law_script", "_law_k"] (sp__law_at K)) (C__law_bad_list : Cal P w K mg base 1 "_law_bad_list" ["_law_signs", "_law_cell"] (sp__law_bad_list K)) (C__law_due : Cal P w K mg base 2 "_law_due" ["_law_floor_here", "_law_filling", "_law_move", "_law_signs"] (sp__law_due K)) (C__law_exchange : Cal P w K mg base 1 "_law_exchange" ["_law_cell", "_law_many"] (sp__law_exchange K)) (C__law_floor : Cal P w K mg base 2 "_law_floor" ["_law_script"] (sp__law_floor K)) (C__law_refused : Cal P w K mg base 5 "_law_refused" ["_law_floor_here", "_law_filling", "_law_move", "_law_signs"] (sp__law_refused K)) (C_moved_filling : Cal1 P w K mg base 4 "moved_filling" ["floor", "filling", "move", "signs"] (sp_moved_filling K)) (C_moved_floor : Cal1 P w K mg base 3 "moved_floor" ["floor", "move"] (sp_moved_floor K)) (CD_moved_filling : Cal1D P w K mg base 4 "moved_filling" ["floor", "filling", "move", "signs"] (sp_moved_filling K) [Value.none]) {f : Addr} {fd : FuncData} (F : Fun K "law" "law" s_law f fd) : FnOk P w K mg base CX0 6 f fd ["_law_script"] (sp_law K) := by
  refine F.ok sc_law (fun vs H Q E h => sl_law h) (fun cdv A outer s H vs Q E hr h => ?_)
  have hu := hr.units
  have nd := sc_law.nd
  refine ⟨rd_law K, ?_, rk_law h⟩
  exact (pss_cons (ps_set (i := 1) nd rfl (Or.inr rfl) (pe_cal C__law_floor hr (by decide) rfl (pa_cons (pv 0) pa_nil)))
      (pss_cons (ps_comp (k := 2) nd rfl (Or.inl rfl) rfl (ix := [none, none, some 1, some 0]) [".0", "_law_k", "_law_floor_here", "_law_script"] (blk_ok2 rfl (by decide +kernel) rfl rfl rfl) rfl (pi_range1 rfl B.range_ (pa_cons (pe_op op_cMul (pe_ix (ix_c hu) (pv 1) pe_int (fun _ _ => rfl)) (pe_ix (ix_c hu) (pv 1) pe_int (fun _ _ => rfl))) pa_nil)) (fun cl s H fp => (pg_name (i := 1) (show ([".0", "_law_k", "_law_floor_here", "_law_script"] : List Str).Nodup by decide +kernel) rfl (Or.inl rfl))) (fun cl s H fp => pts_nil) (fun cl s H fp => (pe_op op_cMod (pe_cal C__law_at hr (by decide) rfl (pa_cons (pv 3) (pa_cons (pe_op op_cAdd pe_int (pv 1)) pa_nil))) (pe_op op_cAdd (pe_ix (ix_c hu) (pv 2) pe_int (fun _ _ => rfl)) pe_int))))
      (pss_cons (ps_set (i := 3) nd rfl (Or.inl rfl) (pe_op op_cMod (pe_cal C__law_at hr (by decide) rfl (pa_cons (pv 0) (pa_cons pe_int pa_nil))) pe_int))
      (pss_cons (ps_set (i := 4) nd rfl (Or.inl rfl) (pe_ix (ix_c hu) (pe_lst (pa_cons pe_int (pa_cons pe_int (pa_cons pe_int (pa_cons pe_int (pa_cons pe_int (pa_cons pe_int (pa_cons pe_int (pa_cons pe_int pa_nil))))))))) (pv 3) (fun _ _ => rfl)))
      (pss_cons (ps_set (i := 5) nd rfl (Or.inl rfl) (pe_listrng2 rfl rfl rfl B.list_ B.range_ (pa_cons pe_int (pa_cons (pe_op op_cAdd (pe_ix (ix_c hu) (pv 1) pe_int (fun _ _ => rfl)) pe_int) pa_nil))))
      (pss_cons (ps_set (i := 6) nd rfl (Or.inr rfl) (pe_cal C__law_exchange hr (by decide) rfl (pa_cons (pe_cal C__law_at hr (by decide) rfl (pa_cons (pv 0) (pa_cons pe_int pa_nil))) (pa_cons (pe_ix (ix_c hu) (pv 1) pe_int (fun _ _ => rfl)) pa_nil))))
      (pss_cons (ps_if (pt_not (pt_val (pe_cal C__law_are hr (by decide) rfl (pa_cons (pe_cal1D pass1 CD_moved_filling vals_non hr (by decide) rfl (pa_cons (pv 1) (pa_cons (pe_callTy call_kList rfl B.list_ bt_list (pa_cons (pv 2) pa_nil)) (pa_cons (pv 3) pa_nil)))) (pa_cons (pe_cal C__law_due hr (by decide) rfl (pa_cons (pv 1) (pa_cons (pv 2) (pa_cons (pv 3) (pa_cons (pv 5) pa_nil))))) pa_nil))))) (pss_one (ps_ret pe_bl)) pss_nil)
      (pss_cons (ps_if (pt_not (pt_val (pe_cal C__law_are hr (by decide) rfl (pa_cons (pe_cal1 pass1 C_moved_filling hr (by decide) rfl (pa_cons (pv 1) (pa_cons (pe_callTy call_kList rfl B.list_ bt_list (pa_cons (pv 2) pa_nil)) (pa_cons (pv 3) (pa_cons pe_non pa_nil))))) (pa_cons (pe_cal C__law_due hr (by decide) rfl (pa_cons (pv 1) (pa_cons (pv 2) (pa_cons (pv 3) (pa_cons (pv 5) pa_nil))))) pa_nil))))) (pss_one (ps_ret pe_bl)) pss_nil)
      (pss_cons (ps_set (i := 7) nd rfl (Or.inl rfl) (pe_cal C__law_due hr (by decide) rfl (pa_cons (pv 1) (pa_cons (pv 2) (pa_cons (pv 3) (pa_cons (pv 6) pa_nil))))))
      (pss_cons (ps_set (i := 8) nd rfl (Or.inl rfl) (pe_lst (pa_cons (pe_callTy call_kList rfl B.list_ bt_list (pa_cons (pv 2) pa_nil)) (pa_cons (pe_callTy call_kList rfl B.list_ bt_list (pa_cons (pv 6) pa_nil)) pa_nil))))
      (pss_cons (ps_set (i := 9) nd rfl (Or.inl rfl) (pe_cal1 pass1 C_moved_filling hr (by decide) rfl (pa_cons (pv 1) (pa_cons (pe_ix (ix_c hu) (pv 8) pe_int (fun _ _ => rfl)) (pa_cons (pv 3) (pa_cons (pe_ix (ix_c hu) (pv 8) pe_int (fun _ _ => rfl)) pa_nil))))))
      (pss_cons (ps_if (PW.pt (pw_or (pt_not (pt_val (pe_cal C__law_are hr (by decide) rfl (pa_cons (pv 9) (pa_cons (pv 7) pa_nil))))) (pw_or1 (pt_cmpR (op_cNe hu) (pv 8) (pe_lst (pa_cons (pv 2) (pa_cons (pv 6) pa_nil))) (nomark _))))) (pss_one (ps_ret pe_bl)) pss_nil)
      (pss_cons (ps_set (i := 10) nd rfl (Or.inl rfl) (pe_cal1 pass1 C_moved_floor hr (by decide) rfl (pa_cons (pv 1) (pa_cons (pv 3) pa_nil))))
      (pss_cons (ps_comp (k := 11) nd rfl (Or.inl rfl) rfl (ix := [none, none, some 6]) [".0", "_law_sign", "_law_signs"] (blk_ok2 rfl (by decide +kernel) rfl rfl rfl) rfl (pi_list (pv 5)) (fun cl s H fp => (pg_name (i := 1) (show ([".0", "_law_sign", "_law_signs"] : List Str).Nodup by decide +kernel) rfl (Or.inl rfl))) (fun cl s H fp => pts_nil) (fun cl s H fp => (pe_op op_cAdd (pe_bm PySem.F.plainAttrs_list PySem.F.slot_list_index PySem.F.type_list_index (mt_kIndex hu) (pv 2) (pa_cons (pv 1) pa_nil)) pe_int)))
      (pss_cons (ps_if (pt_not (pt_val (pe_cal C__law_are hr (by decide) rfl (pa_cons (pe_cal1 pass1 C_moved_filling hr (by decide) rfl (pa_cons (pv 10) (pa_cons (pv 9) (pa_cons (pv 4) (pa_cons (pv 11) pa_nil))))) (pa_cons (pv 2) pa_nil))))) (pss_one (ps_ret pe_bl)) pss_nil)
      (pss_cons (ps_if (pt_not (pt_val (pe_cal C__law_refused hr (by decide) rfl (pa_cons (pv 1) (pa_cons (pe_ix (ix_c hu) (pv 8) pe_int (fun _ _ => rfl)) (pa_cons (pv 3) (pa_cons (pe_cal C__law_bad_list hr (by decide) rfl (pa_cons (pv 6) (pa_cons (pe_cal C__law_at hr (by decide) rfl (pa_cons (pv 0) (pa_cons pe_int pa_nil))) pa_nil))) pa_nil))))))) (pss_one (ps_ret pe_bl)) pss_nil)
      (pss_cons (ps_set (i := 12) nd rfl (Or.inl rfl) (pe_ix (ix_c hu) (pe_lst (pa_cons (pe_un un_neg pe_int) (pa_cons pe_int (pa_cons (pe_un un_neg pe_int) (pa_cons (pe_op op_cAdd (pe_op op_cPow pe_int pe_int) (pv 3)) pa_nil))))) (pe_op op_cMod (pe_cal C__law_at hr (by decide) rfl (pa_cons (pv 0) (pa_cons pe_int pa_nil))) pe_int) (fun _ _ => rfl)))
      (pss_cons (ps_if (PW.pt (pw_or (pt_not (pt_val (pe_cal C__law_refused hr (by decide) rfl (pa_cons (pv 1) (pa_cons (pe_ix (ix_c hu) (pv 8) pe_int (fun _ _ => rfl)) (pa_cons (pv 12) (pa_cons pe_non pa_nil))))))) (pw_or1 (pt_not (pt_val (pe_cal C__law_refused hr (by decide) rfl (pa_cons (pv 1) (pa_cons (pe_ix (ix_c hu) (pv 8) pe_int (fun _ _ => rfl)) (pa_cons (pv 12) (pa_cons (pv 6) pa_nil)))))))))) (pss_one (ps_ret pe_bl)) pss_nil)
      (pss_cons (ps_expr (pe_bm0 PySem.F.plainAttrs_list PySem.F.slot_list_clear PySem.F.type_list_clear mt_kClear (pv 9)))
      (pss_cons (ps_expr (pe_bm0 PySem.F.plainAttrs_list PySem.F.slot_list_clear PySem.F.type_list_clear mt_kClear (pe_ix (ix_c hu) (pv 8) pe_int (fun _ _ => rfl))))
      (pss_one (ps_ret (pe_cal C__law_are hr (by decide) rfl (pa_cons (pe_cal1 pass1 C_moved_filling hr (by decide) rfl (pa_cons (pv 1) (pa_cons (pe_ix (ix_c hu) (pv 8) pe_int (fun _ _ => rfl)) (pa_cons (pv 3) (pa_cons (pe_callTy call_kList rfl B.list_ bt_list (pa_cons (pv 6) pa_nil)) pa_nil))))) (pa_cons (pv 7) pa_nil)))))))))))))))))))))))))
theorem all_mk {l : PySem.W.OpenLaw} {w : World} {K : PySem.W.Frag} {h : Heap} {mg : Str → Option Value} {fa : Addr} (X : K.In h) (G : h.Ns mainGlobals mg) (hfa : mg "law" = some (.ref fa))
    {dT22 : Addr} {dtc22 : Value} {dtd22 : Option Addr} {dtn22 : Nat} {dts22 : Array (Option Value)} {f0 : Addr} {od0 an0 : Option Addr} {sl0 : Array (Option Value)} {oc0 kV0 dc0 pm0 cd0 ct0 : Value} {f1 : Addr} {od1 an1 : Option Addr} {sl1 : Array (Option Value)} {oc1 kV1 dc1 pm1 cd1 ct1 : Value} {f2 : Addr} {od2 an2 : Option Addr} {sl2 : Array (Option Value)} {oc2 kV2 dc2 pm2 cd2 ct2 : Value} {f3 : Addr} {od3 an3 : Option Addr} {sl3 : Array (Option Value)} {oc3 kV3 dc3 pm3 cd3 ct3 : Value} {f4 : Addr} {od4 an4 : Option Addr} {sl4 : Array (Option Value)} {oc4 kV4 dc4 pm4 cd4 ct4 : Value} {f5 : Addr} {od5 an5 : Option Addr} {sl5 : Array (Option Value)} {oc5 kV5 dc5 pm5 cd5 ct5 : Value} {f6 : Addr} {od6 an6 : Option Addr} {sl6 : Array (Option Value)} {oc6 kV6 dc6 pm6 cd6 ct6 : Value} {f7 : Addr} {od7 an7 : Option Addr} {sl7 : Array (Option Value)} {oc7 kV7 dc7 pm7 cd7 ct7 : Value} {f8 : Addr} {od8 an8 : Option Addr} {sl8 : Array (Option Value)} {oc8 kV8 dc8 pm8 cd8 ct8 : Value} {f9 : Addr} {od9 an9 : Option Addr} {sl9 : Array (Option Value)} {oc9 kV9 dc9 pm9 cd9 ct9 : Value} {f10 : Addr} {od10 an10 : Option Addr} {sl10 : Array (Option Value)} {oc10 kV10 dc10 pm10 cd10 ct10 : Value} {f11 : Addr} {od11 an11 : Option Addr} {sl11 : Array (Option Value)} {oc11 kV11 dc11 pm11 cd11 ct11 : Value} {f12 : Addr} {od12 an12 : Option Addr} {sl12 : Array (Option Value)} {oc12 kV12 dc12 pm12 cd12 ct12 : Value} {f13 : Addr} {od13 an13 : Option Addr} {sl13 : Array (Option Value)} {oc13 kV13 dc13 pm13 cd13 ct13 : Value} {f14 : Addr} {od14 an14 : Option Addr} {sl14 : Array (Option Value)} {oc14 kV14 dc14 pm14 cd14 ct14 : Value} {f15 : Addr} {od15 an15 : Option Addr} {sl15 : Array (Option Value)} {oc15 kV15 dc15 pm15 cd15 ct15 : Value} {f16 : Addr} {od16 an16 : Option Addr} {sl16 : Array (Option Value)} {oc16 kV16 dc16 pm16 cd16 ct16 : Value} {f17 : Addr} {od17 an17 : Option Addr} {sl17 : Array (Option Value)} {oc17 kV17 dc17 pm17 cd17 ct17 : Value} {f18 : Addr} {od18 an18 : Option Addr} {sl18 : Array (Option Value)} {oc18 kV18 dc18 pm18 cd18 ct18 : Value} {f19 : Addr} {od19 an19 : Option Addr} {sl19 : Array (Option Value)} {oc19 kV19 dc19 pm19 cd19 ct19 : Value} {f20 : Addr} {od20 an20 : Option Addr} {sl20 : Array (Option Value)} {oc20 kV20 dc20 pm20 cd20 ct20 : Value} {f21 : Addr} {od21 an21 : Option Addr} {sl21 : Array (Option Value)} {oc21 kV21 dc21 pm21 cd21 ct21 : Value} {f22 : Addr} {od22 an22 : Option Addr} {sl22 : Array (Option Value)} {oc22 kV22 dc22 pm22 cd22 ct22 : Value} {f23 : Addr} {od23 an23 : Option Addr} {sl23 : Array (Option Value)} {oc23 kV23 dc23 pm23 cd23 ct23 : Value} {f24 : Addr} {od24 an24 : Option Addr} {sl24 : Array (Option Value)} {oc24 kV24 dc24 pm24 cd24 ct24 : Value} {tk_MANY_MOVES : Tok} {tk_MANY_TURNS : Tok} {x_ClueError x_NoFilling x_NoPuzzle x_TooMany x_NoMove : Addr} {cE cC0 : Value} {dE dD : Option Addr} {esE : Array DictEntry} {nE : Nat} {sE slD : Array (Option Value)} {ND : Addr} {cdD : ClassData} {nm_NoMove q_NoMove : Str} {N_NoMove : Addr} {bs_NoMove : List Value} {hd_NoMove : Bool} {sn_NoMove : List Str} {sub_NoMove : List Value} {ab_NoMove : Bool} {col_NoMove : Option Bool} {dd_NoMove : Option Addr} {k0_NoMove k1_NoMove k2_NoMove k3_NoMove k5_NoMove : Option Value} {cN_NoMove : Value} {dN_NoMove : Option Addr} {es_NoMove : Array DictEntry} {n_NoMove : Nat} {sN_NoMove : Array (Option Value)}
    (a0 : PySem.W.nsIn K mainGlobals "is_whole" = some (some (.ref f0))) (l0 : K.lookup f0 = some ⟨oc0, od0, .func (PySem.W.fnOf "is_whole" "is_whole" (defArgs s_is_whole) (defBody s_is_whole) (defScope s_is_whole) .none kV0 dc0 pm0 an0 cd0 ct0), sl0⟩) (c0 : PySem.W.codeIn K cd0 "is_whole" = true) (k0 : PySem.W.keepIn K (.ref f0) = true) (a1 : PySem.W.nsIn K mainGlobals "many_cells" = some (some (.ref f1))) (l1 : K.lookup f1 = some ⟨oc1, od1, .func (PySem.W.fnOf "many_cells" "many_cells" (defArgs s_many_cells) (defBody s_many_cells) (defScope s_many_cells) .none kV1 dc1 pm1 an1 cd1 ct1), sl1⟩) (c1 : PySem.W.codeIn K cd1 "many_cells" = true) (k1 : PySem.W.keepIn K (.ref f1) = true) (a2 : PySem.W.nsIn K mainGlobals "spot_of" = some (some (.ref f2))) (l2 : K.lookup f2 = some ⟨oc2, od2, .func (PySem.W.fnOf "spot_of" "spot_of" (defArgs s_spot_of) (defBody s_spot_of) (defScope s_spot_of) .none kV2 dc2 pm2 an2 cd2 ct2), sl2⟩) (c2 : PySem.W.codeIn K cd2 "spot_of" = true) (k2 : PySem.W.keepIn K (.ref f2) = true) (a3 : PySem.W.nsIn K mainGlobals "turned_floor" = some (some (.ref f3))) (l3 : K.lookup f3 = some ⟨oc3, od3, .func (PySem.W.fnOf "turned_floor" "turned_floor" (defArgs s_turned_floor) (defBody s_turned_floor) (defScope s_turned_floor) .none kV3 dc3 pm3 an3 cd3 ct3), sl3⟩) (c3 : PySem.W.codeIn K cd3 "turned_floor" = true) (k3 : PySem.W.keepIn K (.ref f3) = true) (a4 : PySem.W.nsIn K mainGlobals "turned_spot" = some (some (.ref f4))) (l4 : K.lookup f4 = some ⟨oc4, od4, .func (PySem.W.fnOf "turned_spot" "turned_spot" (defArgs s_turned_spot) (defBody s_turned_spot) (defScope s_turned_spot) .none kV4 dc4 pm4 an4 cd4 ct4), sl4⟩) (c4 : PySem.W.codeIn K cd4 "turned_spot" = true) (k4 : PySem.W.keepIn K (.ref f4) = true) (a5 : PySem.W.nsIn K mainGlobals "mirrored_spot" = some (some (.ref f5))) (l5 : K.lookup f5 = some ⟨oc5, od5, .func (PySem.W.fnOf "mirrored_spot" "mirrored_spot" (defArgs s_mirrored_spot) (defBody s_mirrored_spot) (defScope s_mirrored_spot) .none kV5 dc5 pm5 an5 cd5 ct5), sl5⟩) (c5 : PySem.W.codeIn K cd5 "mirrored_spot" = true) (k5 : PySem.W.keepIn K (.ref f5) = true) (a6 : PySem.W.nsIn K mainGlobals "unchanged_signs" = some (some (.ref f6))) (l6 : K.lookup f6 = some ⟨oc6, od6, .func (PySem.W.fnOf "unchanged_signs" "unchanged_signs" (defArgs s_unchanged_signs) (defBody s_unchanged_signs) (defScope s_unchanged_signs) .none kV6 dc6 pm6 an6 cd6 ct6), sl6⟩) (c6 : PySem.W.codeIn K cd6 "unchanged_signs" = true) (k6 : PySem.W.keepIn K (.ref f6) = true) (a7 : PySem.W.nsIn K mainGlobals "exchanged" = some (some (.ref f7))) (l7 : K.lookup f7 = some ⟨oc7, od7, .func (PySem.W.fnOf "exchanged" "exchanged" (defArgs s_exchanged) (defBody s_exchanged) (defScope s_exchanged) .none kV7 dc7 pm7 an7 cd7 ct7), sl7⟩) (c7 : PySem.W.codeIn K cd7 "exchanged" = true) (k7 : PySem.W.keepIn K (.ref f7) = true) (a8 : PySem.W.nsIn K mainGlobals "_law_at" = some (some (.ref f8))) (l8 : K.lookup f8 = some ⟨oc8, od8, .func (PySem.W.fnOf "_law_at" "_law_at" (defArgs s__law_at) (defBody s__law_at) (defScope s__law_at) .none kV8 dc8 pm8 an8 cd8 ct8), sl8⟩) (c8 : PySem.W.codeIn K cd8 "_law_at" = true) (k8 : PySem.W.keepIn K (.ref f8) = true) (a9 : PySem.W.nsIn K mainGlobals "_law_whole" = some (some (.ref f9))) (l9 : K.lookup f9 = some ⟨oc9, od9, .func (PySem.W.fnOf "_law_whole" "_law_whole" (defArgs s__law_whole) (defBody s__law_whole) (defScope s__law_whole) .none kV9 dc9 pm9 an9 cd9 ct9), sl9⟩) (c9 : PySem.W.codeIn K cd9 "_law_whole" = true) (k9 : PySem.W.keepIn K (.ref f9) = true) (a10 : PySem.W.nsIn K mainGlobals "_law_spot" = some (some (.ref f10))) (l10 : K.lookup f10 = some ⟨oc10, od10, .func (PySem.W.fnOf "_law_spot" "_law_spot" (defArgs s__law_spot) (defBody s__law_spot) (defScope s__law_spot) .none kV10 dc10 pm10 an10 cd10 ct10), sl10⟩) (c10 : PySem.W.codeIn K cd10 "_law_spot" = true) (k10 : PySem.W.keepIn K (.ref f10) = true) (a11 : PySem.W.nsIn K mainGlobals "_law_exchange" = some (some (.ref f11))) (l11 : K.lookup f11 = some ⟨oc11, od11, .func (PySem.W.fnOf "_law_exchange" "_law_exchange" (defArgs s__law_exchange) (defBody s__law_exchange) (defScope s__law_exchange) .none kV11 dc11 pm11 an11 cd11 ct11), sl11⟩) (c11 : PySem.W.codeIn K cd11 "_law_exchange" = true) (k11 : PySem.W.keepIn K (.ref f11) = true) (a12 : PySem.W.nsIn K mainGlobals "_law_bad_list" = some (some (.ref f12))) (l12 : K.lookup f12 = some ⟨oc12, od12, .func (PySem.W.fnOf "_law_bad_list" "_law_bad_list" (defArgs s__law_bad_list) (defBody s__law_bad_list) (defScope s__law_bad_list) .none kV12 dc12 pm12 an12 cd12 ct12), sl12⟩) (c12 : PySem.W.codeIn K cd12 "_law_bad_list" = true) (k12 : PySem.W.keepIn K (.ref f12) = true) (a13 : PySem.W.nsIn K mainGlobals "refuse_no_move" = some (some (.ref f13))) (l13 : K.lookup f13 = some ⟨oc13, od13, .func (PySem.W.fnOf "refuse_no_move" "refuse_no_move" (defArgs s_refuse_no_move) (defBody s_refuse_no_move) (defScope s_refuse_no_move) .none kV13 dc13 pm13 an13 cd13 ct13), sl13⟩) (c13 : PySem.W.codeIn K cd13 "refuse_no_move" = true) (k13 : PySem.W.keepIn K (.ref f13) = true) (a14 : PySem.W.nsIn K mainGlobals "moved_cell" = some (some (.ref f14))) (l14 : K.lookup f14 = some ⟨oc14, od14, .func (PySem.W.fnOf "moved_cell" "moved_cell" (defArgs s_moved_cell) (defBody s_moved_cell) (defScope s_moved_cell) .none kV14 dc14 pm14 an14 cd14 ct14), sl14⟩) (c14 : PySem.W.codeIn K cd14 "moved_cell" = true) (k14 : PySem.W.keepIn K (.ref f14) = true) (a15 : PySem.W.nsIn K mainGlobals "is_exchange" = some (some (.ref f15))) (l15 : K.lookup f15 = some ⟨oc15, od15, .func (PySem.W.fnOf "is_exchange" "is_exchange" (defArgs s_is_exchange) (defBody s_is_exchange) (defScope s_is_exchange) .none kV15 dc15 pm15 an15 cd15 ct15), sl15⟩) (c15 : PySem.W.codeIn K cd15 "is_exchange" = true) (k15 : PySem.W.keepIn K (.ref f15) = true) (a16 : PySem.W.nsIn K mainGlobals "_law_floor" = some (some (.ref f16))) (l16 : K.lookup f16 = some ⟨oc16, od16, .func (PySem.W.fnOf "_law_floor" "_law_floor" (defArgs s__law_floor) (defBody s__law_floor) (defScope s__law_floor) .none kV16 dc16 pm16 an16 cd16 ct16), sl16⟩) (c16 : PySem.W.codeIn K cd16 "_law_floor" = true) (k16 : PySem.W.keepIn K (.ref f16) = true) (a17 : PySem.W.nsIn K mainGlobals "_law_due" = some (some (.ref f17))) (l17 : K.lookup f17 = some ⟨oc17, od17, .func (PySem.W.fnOf "_law_due" "_law_due" (defArgs s__law_due) (defBody s__law_due) (defScope s__law_due) .none kV17 dc17 pm17 an17 cd17 ct17), sl17⟩) (c17 : PySem.W.codeIn K cd17 "_law_due" = true) (k17 : PySem.W.keepIn K (.ref f17) = true) (a18 : PySem.W.nsIn K mainGlobals "_law_are" = some (some (.ref f18))) (l18 : K.lookup f18 = some ⟨oc18, od18, .func (PySem.W.fnOf "_law_are" "_law_are" (defArgs s__law_are) (defBody s__law_are) (defScope s__law_are) .none kV18 dc18 pm18 an18 cd18 ct18), sl18⟩) (c18 : PySem.W.codeIn K cd18 "_law_are" = true) (k18 : PySem.W.keepIn K (.ref f18) = true) (a19 : PySem.W.nsIn K mainGlobals "moved_floor" = some (some (.ref f19))) (l19 : K.lookup f19 = some ⟨oc19, od19, .func (PySem.W.fnOf "moved_floor" "moved_floor" (defArgs s_moved_floor) (defBody s_moved_floor) (defScope s_moved_floor) .none kV19 dc19 pm19 an19 cd19 ct19), sl19⟩) (c19 : PySem.W.codeIn K cd19 "moved_floor" = true) (k19 : PySem.W.keepIn K (.ref f19) = true) (a20 : PySem.W.nsIn K mainGlobals "moved_cells" = some (some (.ref f20))) (l20 : K.lookup f20 = some ⟨oc20, od20, .func (PySem.W.fnOf "moved_cells" "moved_cells" (defArgs s_moved_cells) (defBody s_moved_cells) (defScope s_moved_cells) .none kV20 dc20 pm20 an20 cd20 ct20), sl20⟩) (c20 : PySem.W.codeIn K cd20 "moved_cells" = true) (k20 : PySem.W.keepIn K (.ref f20) = true) (a21 : PySem.W.nsIn K mainGlobals "exchange_by" = some (some (.ref f21))) (l21 : K.lookup f21 = some ⟨oc21, od21, .func (PySem.W.fnOf "exchange_by" "exchange_by" (defArgs s_exchange_by) (defBody s_exchange_by) (defScope s_exchange_by) .none kV21 dc21 pm21 an21 cd21 ct21), sl21⟩) (c21 : PySem.W.codeIn K cd21 "exchange_by" = true) (k21 : PySem.W.keepIn K (.ref f21) = true) (a22 : PySem.W.nsIn K mainGlobals "moved_filling" = some (some (.ref f22))) (l22 : K.lookup f22 = some ⟨oc22, od22, .func (PySem.W.fnOf "moved_filling" "moved_filling" (defArgs s_moved_filling) (defBody s_moved_filling) (defScope s_moved_filling) (.ref dT22) kV22 dc22 pm22 an22 cd22 ct22), sl22⟩) (c22 : PySem.W.codeIn K cd22 "moved_filling" = true) (k22 : PySem.W.keepIn K (.ref f22) = true) (ld22 : K.lookup dT22 = some ⟨dtc22, dtd22, .seq ([Value.none] : List Value).toArray dtn22, dts22⟩) (a23 : PySem.W.nsIn K mainGlobals "_law_refused" = some (some (.ref f23))) (l23 : K.lookup f23 = some ⟨oc23, od23, .func (PySem.W.fnOf "_law_refused" "_law_refused" (defArgs s__law_refused) (defBody s__law_refused) (defScope s__law_refused) .none kV23 dc23 pm23 an23 cd23 ct23), sl23⟩) (c23 : PySem.W.codeIn K cd23 "_law_refused" = true) (k23 : PySem.W.keepIn K (.ref f23) = true) (a24 : PySem.W.nsIn K mainGlobals "law" = some (some (.ref f24))) (l24 : K.lookup f24 = some ⟨oc24, od24, .func (PySem.W.fnOf "law" "law" (defArgs s_law) (defBody s_law) (defScope s_law) .none kV24 dc24 pm24 an24 cd24 ct24), sl24⟩) (c24 : PySem.W.codeIn K cd24 "law" = true) (k24 : PySem.W.keepIn K (.ref f24) = true) (kc_MANY_MOVES : PySem.W.nsIn K mainGlobals "MANY_MOVES" = some (some (.int 8 tk_MANY_MOVES))) (kc_MANY_TURNS : PySem.W.nsIn K mainGlobals "MANY_TURNS" = some (some (.int 4 tk_MANY_TURNS))) (e_ClueError : PySem.W.nsIn K mainGlobals "ClueError" = some (some (.ref x_ClueError))) (e_NoFilling : PySem.W.nsIn K mainGlobals "NoFilling" = some (some (.ref x_NoFilling))) (e_NoPuzzle : PySem.W.nsIn K mainGlobals "NoPuzzle" = some (some (.ref x_NoPuzzle))) (e_TooMany : PySem.W.nsIn K mainGlobals "TooMany" = some (some (.ref x_TooMany))) (e_NoMove : PySem.W.nsIn K mainGlobals "NoMove" = some (some (.ref x_NoMove))) (z_ValueError : PySem.W.nsIn K mainGlobals "ValueError" = some none) (D1 : K.lookup x_ClueError = some ⟨cC0, dD, .cls cdD, slD⟩) (D2 : cdD.ns = ND) (D3 : K.lookup ND = some ⟨cE, dE, .dict esE nE, sE⟩) (D4 : noInitE esE = true) (r1_NoMove : K.lookup x_NoMove = some (excClassObj nm_NoMove q_NoMove x_NoMove N_NoMove bs_NoMove (.ref x_ClueError :: VE) hd_NoMove sn_NoMove sub_NoMove ab_NoMove col_NoMove dd_NoMove k0_NoMove k1_NoMove k2_NoMove k3_NoMove k5_NoMove "ValueError.__new__")) (r2_NoMove : K.lookup N_NoMove = some ⟨cN_NoMove, dN_NoMove, .dict es_NoMove n_NoMove, sN_NoMove⟩) (r3_NoMove : noInitE es_NoMove = true) (f1_NoMove : PySem.W.findIn K (.ref x_NoMove) "__getattribute__" = some (some (.builtin "BaseException.__getattribute__"))) (f2_NoMove : PySem.W.findIn K (.ref x_NoMove) "__getattr__" = some none) (f3_NoMove : PySem.W.findIn K (.ref x_NoMove) "__class__" = some (some (.builtin "object.__class__"))) (f4_NoMove : PySem.W.mroIn K x_NoMove (.type "object") = some true) (f5_NoMove : PySem.W.mroIn K x_NoMove (.type "BaseException") = some true) (f6_NoMove : PySem.W.kitOne K (.ref x_NoMove) (.type "ValueError") = some true) (f7_NoMove : PySem.W.exmOne K (.ref x_NoMove) (.ref x_ClueError) = some true) (g_NoMove_NoFilling : PySem.W.kitOne K (.ref x_NoMove) (.ref x_NoFilling) = some false) (g_NoMove_NoPuzzle : PySem.W.kitOne K (.ref x_NoMove) (.ref x_NoPuzzle) = some false) (g_NoMove_TooMany : PySem.W.kitOne K (.ref x_NoMove) (.ref x_TooMany) = some false)
    (z_len : PySem.W.nsIn K mainGlobals "len" = some none) (z_abs : PySem.W.nsIn K mainGlobals "abs" = some none) (z_min : PySem.W.nsIn K mainGlobals "min" = some none) (z_max : PySem.W.nsIn K mainGlobals "max" = some none) (z_sorted : PySem.W.nsIn K mainGlobals "sorted" = some none) (z_any : PySem.W.nsIn K mainGlobals "any" = some none) (z_isinstance : PySem.W.nsIn K mainGlobals "isinstance" = some none) (z_list : PySem.W.nsIn K mainGlobals "list" = some none) (z_int : PySem.W.nsIn K mainGlobals "int" = some none) (z_bool : PySem.W.nsIn K mainGlobals "bool" = some none) (z_str : PySem.W.nsIn K mainGlobals "str" = some none) (z_tuple : PySem.W.nsIn K mainGlobals "tuple" = some none) (z_reversed : PySem.W.nsIn K mainGlobals "reversed" = some none) (z_set : PySem.W.nsIn K mainGlobals "set" = some none) (z_range : PySem.W.nsIn K mainGlobals "range" = some none) (z_zip : PySem.W.nsIn K mainGlobals "zip" = some none) (z_all : PySem.W.nsIn K mainGlobals "all" = some none) (z_sum : PySem.W.nsIn K mainGlobals "sum" = some none) (z_enumerate : PySem.W.nsIn K mainGlobals "enumerate" = some none) :
    ∃ fd : FuncData, (∀ (s : Shared) (v : Value), BindsTo s fd ⟨[v], []⟩ [("_law_script", v)]) ∧ ∀ base : Heap, K.In base → base.Ns mainGlobals mg → FnOk l.prog w K mg base CX0 6 fa fd ["_law_script"] (sp_law K) := by
  have e := hfa.symm.trans (PySem.W.mg_of X G a24)
  cases e
  have B : Bt2 mg := ⟨⟨PySem.W.mg_none_of X G z_len, PySem.W.mg_none_of X G z_abs, PySem.W.mg_none_of X G z_min, PySem.W.mg_none_of X G z_max, PySem.W.mg_none_of X G z_sorted, PySem.W.mg_none_of X G z_any, PySem.W.mg_none_of X G z_isinstance, PySem.W.mg_none_of X G z_list, PySem.W.mg_none_of X G z_int, PySem.W.mg_none_of X G z_bool, PySem.W.mg_none_of X G z_str, PySem.W.mg_none_of X G z_tuple, PySem.W.mg_none_of X G z_reversed, PySem.W.mg_none_of X G z_set, PySem.W.mg_none_of X G z_range, PySem.W.mg_none_of X G z_zip⟩, PySem.W.mg_none_of X G z_all, PySem.W.mg_none_of X G z_sum, PySem.W.mg_none_of X G z_enumerate⟩
  have F0 := fun_mk (st := s_is_whole) l0 c0 k0
  have F1 := fun_mk (st := s_many_cells) l1 c1 k1
  have F2 := fun_mk (st := s_spot_of) l2 c2 k2
  have F3 := fun_mk (st := s_turned_floor) l3 c3 k3
  have F4 := fun_mk (st := s_turned_spot) l4 c4 k4
  have F5 := fun_mk (st := s_mirrored_spot) l5 c5 k5
  have F6 := fun_mk (st := s_unchanged_signs) l6 c6 k6
  have F7 := fun_mk (st := s_exchanged) l7 c7 k7
  have F8 := fun_mk (st := s__law_at) l8 c8 k8
  have F9 := fun_mk (st := s__law_whole) l9 c9 k9
  have F10 := fun_mk (st := s__law_spot) l10 c10 k10
  have F11 := fun_mk (st := s__law_exchange) l11 c11 k11
  have F12 := fun_mk (st := s__law_bad_list) l12 c12 k12
  have F13 := fun_mk (st := s_refuse_no_move) l13 c13 k13
  have F14 := fun_mk (st := s_moved_cell) l14 c14 k14
  have F15 := fun_mk (st := s_is_exchange) l15 c15 k15
  have F16 := fun_mk (st := s__law_floor) l16 c16 k16
  have F17 := fun_mk (st := s__law_due) l17 c17 k17
  have F18 := fun_mk (st := s__law_are) l18 c18 k18
  have F19 := fun_mk (st := s_moved_floor) l19 c19 k19
  have F20 := fun_mk (st := s_moved_cells) l20 c20 k20
  have F21 := fun_mk (st := s_exchange_by) l21 c21 k21
  have F22 := funD_mk (st := s_moved_filling) l22 c22 k22 ld22
  have F23 := fun_mk (st := s__law_refused) l23 c23 k23
  have F24 := fun_mk (st := s_law) l24 c24 k24
  refine ⟨PySem.W.fnOf "law" "law" (defArgs s_law) (defBody s_law) (defScope s_law) .none kV24 dc24 pm24 an24 cd24 ct24, fun s v => .of_eq rfl, fun base _ _ => ?_⟩
  have C_MANY_MOVES := PySem.W.mg_of X G kc_MANY_MOVES
  have C_MANY_TURNS := PySem.W.mg_of X G kc_MANY_TURNS
  have EM : ErrMx mg (⟨x_ClueError, x_ClueError, x_NoFilling, x_ClueError, x_NoPuzzle, x_TooMany, x_ClueError, x_NoMove, x_ClueError, x_ClueError, x_ClueError, x_ClueError⟩ : EA) := ⟨PySem.W.mg_of X G e_ClueError, PySem.W.mg_of X G e_NoFilling, PySem.W.mg_of X G e_NoPuzzle, PySem.W.mg_of X G e_TooMany, PySem.W.mg_of X G e_NoMove⟩
  have BV := PySem.W.mg_none_of X G z_ValueError
  have R_NoMove : Ref1 K (⟨x_ClueError, x_ClueError, x_NoFilling, x_ClueError, x_NoPuzzle, x_TooMany, x_ClueError, x_NoMove, x_ClueError, x_ClueError, x_ClueError, x_ClueError⟩ : EA) "NoMove" x_NoMove (os66 (⟨x_ClueError, x_ClueError, x_NoFilling, x_ClueError, x_NoPuzzle, x_TooMany, x_ClueError, x_NoMove, x_ClueError, x_ClueError, x_ClueError, x_ClueError⟩ : EA)) := ⟨e_NoMove, xc_of r1_NoMove r2_NoMove r3_NoMove D1 D2 D3 D4, ⟨f1_NoMove, f2_NoMove, f3_NoMove, f4_NoMove, f5_NoMove⟩, f6_NoMove, f7_NoMove, (List.forall_mem_cons.mpr ⟨g_NoMove_NoFilling, (List.forall_mem_cons.mpr ⟨g_NoMove_NoPuzzle, (List.forall_mem_cons.mpr ⟨g_NoMove_TooMany, (fun _ z => nomatch z)⟩)⟩)⟩)⟩
  have C_is_whole : Cal l.prog w K mg base 1 "is_whole" ["value"] (sp_is_whole K) := ok_is_whole B  F0 (PySem.W.mg_of X G a0)
  have C_many_cells : Cal l.prog w K mg base 1 "many_cells" ["floor"] (sp_many_cells K) := ok_many_cells B  F1 (PySem.W.mg_of X G a1)
  have C_spot_of : Cal l.prog w K mg base 1 "spot_of" ["floor", "cell"] (sp_spot_of K) := ok_spot_of B  F2 (PySem.W.mg_of X G a2)
  have C_turned_floor : Cal l.prog w K mg base 1 "turned_floor" ["floor"] (sp_turned_floor K) := ok_turned_floor B  F3 (PySem.W.mg_of X G a3)
  have C_turned_spot : Cal l.prog w K mg base 1 "turned_spot" ["floor", "spot"] (sp_turned_spot K) := ok_turned_spot B  F4 (PySem.W.mg_of X G a4)
  have C_mirrored_spot : Cal l.prog w K mg base 1 "mirrored_spot" ["floor", "spot"] (sp_mirrored_spot K) := ok_mirrored_spot B  F5 (PySem.W.mg_of X G a5)
  have C_unchanged_signs : Cal l.prog w K mg base 1 "unchanged_signs" ["floor"] (sp_unchanged_signs K) := ok_unchanged_signs B  F6 (PySem.W.mg_of X G a6)
  have C_exchanged : Cal l.prog w K mg base 1 "exchanged" ["sign", "signs"] (sp_exchanged K) := ok_exchanged B  F7 (PySem.W.mg_of X G a7)
  have C__law_at : Cal l.prog w K mg base 1 "_law_at" ["_law_script", "_law_k"] (sp__law_at K) := ok__law_at B  F8 (PySem.W.mg_of X G a8)
  have C__law_whole : Cal l.prog w K mg base 1 "_law_whole" ["_law_found"] (sp__law_whole K) := ok__law_whole B  F9 (PySem.W.mg_of X G a9)
  have C__law_spot : Cal l.prog w K mg base 1 "_law_spot" ["_law_floor_here", "_law_cell", "_law_move"] (sp__law_spot K) := ok__law_spot B  F10 (PySem.W.mg_of X G a10)
  have C__law_exchange : Cal l.prog w K mg base 1 "_law_exchange" ["_law_cell", "_law_many"] (sp__law_exchange K) := ok__law_exchange B  F11 (PySem.W.mg_of X G a11)
  have C__law_bad_list : Cal l.prog w K mg base 1 "_law_bad_list" ["_law_signs", "_law_cell"] (sp__law_bad_list K) := ok__law_bad_list B  F12 (PySem.W.mg_of X G a12)
  have C_refuse_no_move : Cal1 l.prog w K mg base 2 "refuse_no_move" ["move"] (sp_refuse_no_move K) := ok_refuse_no_move B C_is_whole C_MANY_MOVES EM R_NoMove F13 (PySem.W.mg_of X G a13)
  have C_moved_cell : Cal l.prog w K mg base 2 "moved_cell" ["floor", "move", "cell"] (sp_moved_cell K) := ok_moved_cell B C_mirrored_spot C_spot_of C_turned_floor C_turned_spot C_MANY_TURNS F14 (PySem.W.mg_of X G a14)
  have C_is_exchange : Cal l.prog w K mg base 2 "is_exchange" ["floor", "signs"] (sp_is_exchange K) := ok_is_exchange B C_is_whole C_unchanged_signs F15 (PySem.W.mg_of X G a15)
  have C__law_floor : Cal l.prog w K mg base 2 "_law_floor" ["_law_script"] (sp__law_floor K) := ok__law_floor B C__law_at F16 (PySem.W.mg_of X G a16)
  have C__law_due : Cal l.prog w K mg base 2 "_law_due" ["_law_floor_here", "_law_filling", "_law_move", "_law_signs"] (sp__law_due K) := ok__law_due B C__law_spot F17 (PySem.W.mg_of X G a17)
  have C__law_are : Cal l.prog w K mg base 2 "_law_are" ["_law_found", "_law_due_here"] (sp__law_are K) := ok__law_are B C__law_whole F18 (PySem.W.mg_of X G a18)
  have C_moved_floor : Cal1 l.prog w K mg base 3 "moved_floor" ["floor", "move"] (sp_moved_floor K) := ok_moved_floor B C_refuse_no_move C_turned_floor C_MANY_TURNS F19 (PySem.W.mg_of X G a19)
  have C_moved_cells : Cal1 l.prog w K mg base 3 "moved_cells" ["floor", "move"] (sp_moved_cells K) := ok_moved_cells B C_many_cells C_moved_cell C_refuse_no_move F20 (PySem.W.mg_of X G a20)
  have C_exchange_by : Cal1 l.prog w K mg base 3 "exchange_by" ["floor", "signs"] (sp_exchange_by K) := ok_exchange_by B C_is_exchange C_unchanged_signs EM R_NoMove F21 (PySem.W.mg_of X G a21)
  have CD_moved_filling : Cal1D l.prog w K mg base 4 "moved_filling" ["floor", "filling", "move", "signs"] (sp_moved_filling K) [Value.none] := okD_moved_filling B C_exchange_by C_exchanged C_many_cells C_moved_cells F22 (PySem.W.mg_of X G a22)
  have C_moved_filling : Cal1 l.prog w K mg base 4 "moved_filling" ["floor", "filling", "move", "signs"] (sp_moved_filling K) := ok_moved_filling B C_exchange_by C_exchanged C_many_cells C_moved_cells F22 (PySem.W.mg_of X G a22)
  have C__law_refused : Cal l.prog w K mg base 5 "_law_refused" ["_law_floor_here", "_law_filling", "_law_move", "_law_signs"] (sp__law_refused K) := ok__law_refused B C_moved_filling EM R_NoMove BV F23 (PySem.W.mg_of X G a23)
  exact fn_law B C__law_are C__law_at C__law_bad_list C__law_due C__law_exchange C__law_floor C__law_refused C_moved_filling C_moved_floor CD_moved_filling F24
theorem walk {l : PySem.W.OpenLaw} {q : Program} {loose : List Str} {XP : (Str → Option Value) → Heap → Prop} {YP : World → Heap → Prop} {d : DefRec} {K : Params → PySem.W.Frag} (hn : l.most = some 63) (hdf : d.params.defaults = [])
    (hY : ∀ (w : World) (h : Heap), YP w h → (K w.params).In h)
    (F : ∀ (w : World) (mg : Str → Option Value) (fa : Addr) (h : Heap), (K w.params).In h → h.Ns mainGlobals mg → mg d.name = some (.ref fa) →
      ∃ fd : FuncData, (∀ (s : Shared) (u : Value), BindsTo s fd ⟨[u], []⟩ [("_law_script", u)]) ∧ ∀ base : Heap, (K w.params).In base → base.Ns mainGlobals mg → FnOk l.prog w (K w.params) mg base CX0 6 fa fd ["_law_script"] (sp_law (K w.params))) :
    PySem.W.WalkO q loose XP YP l.row.toRowW d [] (fun f vs => PySem.call f vs) :=
  L2.walk_of (n := 63) (k := 6) (x := "_law_script") (CX := fun _ => CX0) (sp := fun w => sp_law (K w.params)) hn (by decide) hdf ⟨rfl, by decide, by decide⟩ hY F (fun _ _ a ns hl _ hS => ⟨a, ns, rfl, hS, hl, fun _ => rfl⟩) fun _ _ _ _ _ z => z
end L2
open PySem PySem.W PyProof.Rows
set_option maxRecDepth 100000 in
def PySem.W.Fast.tw14006241173244640269 : Unit := ()
def PySem.W.Fast.tw4947000447037213384 : Unit := ()
def PySem.W.Fast.tw18355260599088163504 : Unit := ()
def PySem.W.Fast.tw4935101549142393362 : Unit := ()
def PySem.W.Fast.tw6324927546928341575 : Unit := ()
def PySem.W.Fast.tw4837578704111967729 : Unit := ()
def PySem.W.Fast.tw10700645608206822923 : Unit := ()
def PySem.W.Fast.tw174206914864621296 : Unit := ()
def PySem.W.Fast.tw2744801040384298260 : Unit := ()
def PySem.W.Fast.tw12109583609496955991 : Unit := ()
def PySem.W.Fast.tw9685321746438211337 : Unit := ()
def PySem.W.Fast.tw2940947743603911438 : Unit := ()
def PySem.W.Fast.tw17715271083033531192 : Unit := ()
def PySem.W.Fast.tw11832004841313400418 : Unit := ()
set_option maxHeartbeats 0 in
theorem PySem.Challenge.cw_cluemaker_k66_fillings_moved_holds : PySem.Challenge.rw_cluemaker_k66_fillings_moved.Holds := by
  w_on; o_law; k_head; (case hw => w_witness2)
  k_fill
  refine L2.walk (l := PySem.Challenge.rw_cluemaker_k66_fillings_moved) rfl rfl (fun w h Y => PySem.W.kIn_of Y) ?F
  case F =>
    intro w mg fa h KX G hmg
    refine' L2.all_mk KX G hmg ?a0 ?l0 ?c0 ?k0 ?a1 ?l1 ?c1 ?k1 ?a2 ?l2 ?c2 ?k2 ?a3 ?l3 ?c3 ?k3 ?a4 ?l4 ?c4 ?k4 ?a5 ?l5 ?c5 ?k5 ?a6 ?l6 ?c6 ?k6 ?a7 ?l7 ?c7 ?k7 ?a8 ?l8 ?c8 ?k8 ?a9 ?l9 ?c9 ?k9 ?a10 ?l10 ?c10 ?k10 ?a11 ?l11 ?c11 ?k11 ?a12 ?l12 ?c12 ?k12 ?a13 ?l13 ?c13 ?k13 ?a14 ?l14 ?c14 ?k14 ?a15 ?l15 ?c15 ?k15 ?a16 ?l16 ?c16 ?k16 ?a17 ?l17 ?c17 ?k17 ?a18 ?l18 ?c18 ?k18 ?a19 ?l19 ?c19 ?k19 ?a20 ?l20 ?c20 ?k20 ?a21 ?l21 ?c21 ?k21 ?a22 ?l22 ?c22 ?k22 ?ld22 ?a23 ?l23 ?c23 ?k23 ?a24 ?l24 ?c24 ?k24 ?kc_MANY_MOVES ?kc_MANY_TURNS ?e_ClueError ?e_NoFilling ?e_NoPuzzle ?e_TooMany ?e_NoMove ?z_ValueError ?D1 ?D2 ?D3 ?D4 ?r1_NoMove ?r2_NoMove ?r3_NoMove ?f1_NoMove ?f2_NoMove ?f3_NoMove ?f4_NoMove ?f5_NoMove ?f6_NoMove ?f7_NoMove ?g_NoMove_NoFilling ?g_NoMove_NoPuzzle ?g_NoMove_TooMany ?z_len ?z_abs ?z_min ?z_max ?z_sorted ?z_any ?z_isinstance ?z_list ?z_int ?z_bool ?z_str ?z_tuple ?z_reversed ?z_set ?z_range ?z_zip ?z_all ?z_sum ?z_enumerate
    (case a0 => k_is); (case l0 => k_is); (case c0 => k_is); (case k0 => k_is)
    (case a1 => k_is); (case l1 => k_is); (case c1 => k_is); (case k1 => k_is)
    (case a2 => k_is); (case l2 => k_is); (case c2 => k_is); (case k2 => k_is)
    (case a3 => k_is); (case l3 => k_is); (case c3 => k_is); (case k3 => k_is)
    (case a4 => k_is); (case l4 => k_is); (case c4 => k_is); (case k4 => k_is)
    (case a5 => k_is); (case l5 => k_is); (case c5 => k_is); (case k5 => k_is)
    (case a6 => k_is); (case l6 => k_is); (case c6 => k_is); (case k6 => k_is)
    (case a7 => k_is); (case l7 => k_is); (case c7 => k_is); (case k7 => k_is)
    (case a8 => k_is); (case l8 => k_is); (case c8 => k_is); (case k8 => k_is)
    (case a9 => k_is); (case l9 => k_is); (case c9 => k_is); (case k9 => k_is)
    (case a10 => k_is); (case l10 => k_is); (case c10 => k_is); (case k10 => k_is)
    (case a11 => k_is); (case l11 => k_is); (case c11 => k_is); (case k11 => k_is)
    (case a12 => k_is); (case l12 => k_is); (case c12 => k_is); (case k12 => k_is)
    (case a13 => k_is); (case l13 => k_is); (case c13 => k_is); (case k13 => k_is)
    (case a14 => k_is); (case l14 => k_is); (case c14 => k_is); (case k14 => k_is)
    (case a15 => k_is); (case l15 => k_is); (case c15 => k_is); (case k15 => k_is)
    (case a16 => k_is); (case l16 => k_is); (case c16 => k_is); (case k16 => k_is)
    (case a17 => k_is); (case l17 => k_is); (case c17 => k_is); (case k17 => k_is)
    (case a18 => k_is); (case l18 => k_is); (case c18 => k_is); (case k18 => k_is)
    (case a19 => k_is); (case l19 => k_is); (case c19 => k_is); (case k19 => k_is)
    (case a20 => k_is); (case l20 => k_is); (case c20 => k_is); (case k20 => k_is)
    (case a21 => k_is); (case l21 => k_is); (case c21 => k_is); (case k21 => k_is)
    (case a22 => k_is); (case l22 => k_is); (case c22 => k_is); (case k22 => k_is)
    (case ld22 => k_is)
    (case a23 => k_is); (case l23 => k_is); (case c23 => k_is); (case k23 => k_is)
    (case a24 => k_is); (case l24 => k_is); (case c24 => k_is); (case k24 => k_is)
    (case kc_MANY_MOVES => k_is)
    (case kc_MANY_TURNS => k_is)
    (case e_ClueError => k_is)
    (case e_NoFilling => k_is)
    (case e_NoPuzzle => k_is)
    (case e_TooMany => k_is)
    (case e_NoMove => k_is)
    (case z_ValueError => k_is)
    (case D1 => k_is)
    (case D2 => exact rfl)
    (case D3 => k_is)
    (case D4 => first | kernel_rfl | exact rfl)
    (case r1_NoMove => k_is)
    (case r2_NoMove => k_is)
    (case r3_NoMove => first | kernel_rfl | exact rfl)
    (case f1_NoMove => k_is)
    (case f2_NoMove => k_is)
    (case f3_NoMove => k_is)
    (case f4_NoMove => k_is)
    (case f5_NoMove => k_is)
    (case f6_NoMove => kit_is)
    (case f7_NoMove => kts_exm)
    (case g_NoMove_NoFilling => kit_is)
    (case g_NoMove_NoPuzzle => kit_is)
    (case g_NoMove_TooMany => kit_is)
    (case z_len => k_is)
    (case z_abs => k_is)
    (case z_min => k_is)
    (case z_max => k_is)
    (case z_sorted => k_is)
    (case z_any => k_is)
    (case z_isinstance => k_is)
    (case z_list => k_is)
    (case z_int => k_is)
    (case z_bool => k_is)
    (case z_str => k_is)
    (case z_tuple => k_is)
    (case z_reversed => k_is)
    (case z_set => k_is)
    (case z_range => k_is)
    (case z_zip => k_is)
    (case z_all => k_is)
    (case z_sum => k_is)
    (case z_enumerate => k_is)
