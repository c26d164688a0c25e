import PyProof.Rows.All
import Wide.All
import OpenK.AllK
import Wide.FinOn
import HandS.ForMost
import HandS.ForExc
import HandS.CallSlots
import HandS.Defaults
import HandS.Lambda
import HandS.More
import HandS.TupAny
import HandS.TupLe
import HandS.IsInst
import HandS.Deep
import HandS.Small
import HandS.Zip
import HandS.DictComp
import HandS.SortOrd
import HandS.DeepEq
import HandS.IterVal
import HandS.Records
import HandS.ExcIs
import HandS.HeadHook2
import HandS.HeadHook3
import HandS.HeadHook4
import HandS.HeadEnd
import HandS.HeadWalk
import HandS.EndTab
import PySem.Challenge.RW_ownedborder_k06_whole_borders
import HandS.Head0
import HandS.Head1
import HandS.Head2
import HandS.Head3

section
set_option Elab.async false
set_option linter.all false
set_option autoImplicit false
set_option maxRecDepth 100000
set_option maxHeartbeats 1000000
namespace Mo
open PySem PySem.Spec PyProof.Rows L2

/-! ### values, objects, results of the little machine -/
inductive W where
  | non | bl (b : Bool) | int (i : Int) | str (x : Str) | ty (n : String)
  | tup (xs : List W) | lst (xs : List W) | scr (xs : List W) | ins (c : Str) (fs : List (Str × W))
  | ref (n : Nat) | fn (x : Str) | kd (kvs : List (Str × W))
inductive O where
  | lst (xs : List W) | dK (kvs : List (Key × W)) | dT (kvs : List (List Key × W)) | ins (c : Str) (fs : List (Str × W))
  | frz (o : O)
abbrev Hq := List O
structure Exn where
  c : Str
  f : Option (Str × W)
inductive Re (α : Type) where
  | ok (a : α) (h : Hq) | ex (x : Exn) (h : Hq) | no
def Re.bind {α β : Type} (r : Re α) (f : α → Hq → Re β) : Re β := match r with
  | .ok a h => f a h
  | .ex x h => .ex x h
  | .no => .no
/-- no exception may come -/
def Re.quiet {α : Type} (r : Re α) : Re α := match r with
  | .ok a h => .ok a h
  | _ => .no
abbrev Sg := List (Option W)
inductive Fl where
  | nx (σ : Sg) | rt (w : W) | bk (σ : Sg) | ct (σ : Sg)

/-! ### the two worlds -/
/-- tables of code objects (of the defs that make lambdas), with the lambdas' names -/
abbrev Tabl := List (Addr × Str)
structure Gm where
  K : PySem.W.Frag
  mg : Str → Option Value
  T : Tabl
  w : World
structure Wd where
  F : Hp
  ι : List Addr
  H : Hp
mutual
inductive VR (G : Gm) (F : Hp) (ι : List Addr) : W → V → Prop where
  | non : VR G F ι .non .non
  | bl {b : Bool} : VR G F ι (.bl b) (.bl b)
  | int {i : Int} : VR G F ι (.int i) (.int i)
  | str {x : Str} : VR G F ι (.str x) (.str x)
  | ty {n : String} : VR G F ι (.ty n) (.ty n)
  | tup {a : Addr} {ws : List W} {vs : List V} : SqT G.K F a vs → VRs G F ι ws vs → VR G F ι (.tup ws) (.ref a)
  | lst {a : Addr} {ws : List W} {vs : List V} : F a = some (.lst vs) → VRs G F ι ws vs → VR G F ι (.lst ws) (.ref a)
  | scr {a : Addr} {ws : List W} {vs : List V} : SqL G.K F a vs → VRs G F ι ws vs → VR G F ι (.scr ws) (.ref a)
  | ins {a C dx : Addr} {c : Str} {fs : List (Str × W)} {gs : List (Str × V)} : F a = some (.ins C dx gs) → G.mg c = some (.ref C) → FRs G F ι fs gs → VR G F ι (.ins c fs) (.ref a)
  | ref {n : Nat} {a : Addr} : ι[n]? = some a → VR G F ι (.ref n) (.ref a)
  | fn {x : Str} {a : Addr} : G.mg x = some (.ref a) → VR G F ι (.fn x) (.ref a)
  | kd {a : Addr} {kvs : List (Str × W)} {vf : Str → V} : (∃ es n, KDict G.K G.w a es n) → (∀ z w', kvs.lookup z = some w' → ∃ u, PySem.W.nsIn G.K a z = some (some u) ∧ RelV (vf z) u) →
      (∀ z, kvs.lookup z = none → PySem.W.nsIn G.K a z = some none) → (∀ z w', kvs.lookup z = some w' → VR G F ι w' (vf z)) → VR G F ι (.kd kvs) (.ref a)
inductive VRs (G : Gm) (F : Hp) (ι : List Addr) : List W → List V → Prop where
  | nil : VRs G F ι [] []
  | cons {w : W} {v : V} {ws : List W} {vs : List V} : VR G F ι w v → VRs G F ι ws vs → VRs G F ι (w :: ws) (v :: vs)
inductive FRs (G : Gm) (F : Hp) (ι : List Addr) : List (Str × W) → List (Str × V) → Prop where
  | nil : FRs G F ι [] []
  | cons {x : Str} {w : W} {v : V} {ws : List (Str × W)} {vs : List (Str × V)} : VR G F ι w v → FRs G F ι ws vs → FRs G F ι ((x, w) :: ws) ((x, v) :: vs)
end
/-- the same pairs by key -/
inductive KR {κ : Type} (G : Gm) (F : Hp) (ι : List Addr) : List (κ × W) → List (κ × V) → Prop where
  | nil : KR G F ι [] []
  | cons {x : κ} {w : W} {v : V} {ws : List (κ × W)} {vs : List (κ × V)} : VR G F ι w v → KR G F ι ws vs → KR G F ι ((x, w) :: ws) ((x, v) :: vs)
inductive OR (G : Gm) (F : Hp) (ι : List Addr) : O → HO → Prop where
  | lst {ws : List W} {vs : List V} : VRs G F ι ws vs → OR G F ι (.lst ws) (.lst vs)
  | dK {ws : List (Key × W)} {vs : List (Key × V)} : KR G F ι ws vs → OR G F ι (.dK ws) (.dK vs)
  | dT {ws : List (List Key × W)} {vs : List (List Key × V)} : KR G F ι ws vs → OR G F ι (.dT ws) (.dT vs)
  | ins {C dx : Addr} {c : Str} {fs : List (Str × W)} {gs : List (Str × V)} : G.mg c = some (.ref C) → FRs G F ι fs gs → OR G F ι (.ins c fs) (.ins C dx gs)
  | frz {o : O} {u : HO} {ob : Obj} : OR G F ι o u → OR G F ι (.frz o) (.frz ob u)
structure Ext (a b : Wd) : Prop where
  ι : a.ι <+: b.ι
  F : ∀ p o, a.F p = some o → b.F p = some o
  keep : ∀ p o, a.H p = some o → (∀ ps, o ≠ .tbl ps) → p ∉ a.ι → b.H p = some o ∧ p ∉ b.ι ∧ (a.F p = none → b.F p = none)
  frz : ∀ p o u, a.H p = some (.frz o u) → b.H p = some (.frz o u)
theorem Ext.refl (a : Wd) : Ext a a := ⟨List.prefix_refl _, fun _ _ h => h, fun _ _ h _ n => ⟨h, n, fun h => h⟩, fun _ _ _ h => h⟩
theorem Ext.trans {a b c : Wd} (x : Ext a b) (y : Ext b c) : Ext a c where
  ι := x.ι.trans y.ι
  F := fun p o h => y.F p o (x.F p o h)
  keep := fun p o h t n => by
    obtain ⟨h1, n1, f1⟩ := x.keep p o h t n
    obtain ⟨h2, n2, f2⟩ := y.keep p o h1 t n1
    exact ⟨h2, n2, fun f => f2 (f1 f)⟩
  frz := fun p o u h => y.frz p o u (x.frz p o u h)

section
variable {G : Gm} {F F' : Hp} {ι ι' : List Addr}
theorem sqT_mono {K : PySem.W.Frag} {a : Addr} {vs : List V} (hF : ∀ p o, F p = some o → F' p = some o) (h : SqT K F a vs) : SqT K F' a vs := by
  rcases h with (h | ⟨o, h⟩) | h
  · exact .inl (.inl (hF _ _ h))
  · exact .inl (.inr ⟨o, hF _ _ h⟩)
  · exact .inr h
theorem sqL_mono {K : PySem.W.Frag} {a : Addr} {vs : List V} (hF : ∀ p o, F p = some o → F' p = some o) (h : SqL K F a vs) : SqL K F' a vs := by
  rcases h with (h | ⟨o, h⟩) | h
  · exact .inl (.inl (hF _ _ h))
  · exact .inl (.inr ⟨o, hF _ _ h⟩)
  · exact .inr h
theorem pre_get {a b : List Addr} (h : a <+: b) {n : Nat} {x : Addr} (e : a[n]? = some x) : b[n]? = some x := by
  obtain ⟨t, rfl⟩ := h
  have hn : n < a.length := (List.getElem?_eq_some_iff.mp e).1
  rw [List.getElem?_append_left hn]; exact e
mutual
theorem VR.mono (hF : ∀ p o, F p = some o → F' p = some o) (hι : ι <+: ι') : ∀ {w : W} {v : V}, VR G F ι w v → VR G F' ι' w v
  | _, _, .non => .non
  | _, _, .bl => .bl
  | _, _, .int => .int
  | _, _, .str => .str
  | _, _, .ty => .ty
  | _, _, .tup s r => .tup (sqT_mono hF s) (VRs.mono hF hι r)
  | _, _, .lst s r => .lst (hF _ _ s) (VRs.mono hF hι r)
  | _, _, .scr s r => .scr (sqL_mono hF s) (VRs.mono hF hι r)
  | _, _, .ins f c r => .ins (hF _ _ f) c (FRs.mono hF hι r)
  | _, _, .ref e => .ref (pre_get hι e)
  | _, _, .fn e => .fn e
  | _, _, .kd e p q r => .kd e p q fun z w' h => VR.mono hF hι (r z w' h)
theorem VRs.mono (hF : ∀ p o, F p = some o → F' p = some o) (hι : ι <+: ι') : ∀ {w : List W} {v : List V}, VRs G F ι w v → VRs G F' ι' w v
  | _, _, .nil => .nil
  | _, _, .cons r t => .cons (VR.mono hF hι r) (VRs.mono hF hι t)
theorem FRs.mono (hF : ∀ p o, F p = some o → F' p = some o) (hι : ι <+: ι') : ∀ {w : List (Str × W)} {v : List (Str × V)}, FRs G F ι w v → FRs G F' ι' w v
  | _, _, .nil => .nil
  | _, _, .cons r t => .cons (VR.mono hF hι r) (FRs.mono hF hι t)
end
theorem KR.mono {κ : Type} (hF : ∀ p o, F p = some o → F' p = some o) (hι : ι <+: ι') : ∀ {w : List (κ × W)} {v : List (κ × V)}, KR G F ι w v → KR G F' ι' w v
  | _, _, .nil => .nil
  | _, _, .cons r t => .cons (VR.mono hF hι r) (KR.mono hF hι t)
theorem OR.mono (hF : ∀ p o, F p = some o → F' p = some o) (hι : ι <+: ι') {o : O} {u : HO} (r : OR G F ι o u) : OR G F' ι' o u := by
  induction r with
  | lst r => exact .lst (r.mono hF hι)
  | dK r => exact .dK (r.mono hF hι)
  | dT r => exact .dT (r.mono hF hι)
  | ins c r => exact .ins c (r.mono hF hι)
  | frz _ ih => exact .frz ih
theorem VRs.length : ∀ {ws : List W} {vs : List V}, VRs G F ι ws vs → ws.length = vs.length
  | _, _, .nil => rfl
  | _, _, .cons _ t => congrArg (· + 1) (VRs.length t)
theorem VRs.get : ∀ {ws : List W} {vs : List V} {i : Nat} {w : W}, VRs G F ι ws vs → ws[i]? = some w → ∃ v, vs[i]? = some v ∧ VR G F ι w v
  | _, _, _, _, .nil, e => by simp at e
  | _, _, 0, _, .cons r _, e => by simp at e; subst e; exact ⟨_, rfl, r⟩
  | _, _, i + 1, w, .cons _ t, e => by
    obtain ⟨u, h1, h2⟩ := VRs.get (i := i) (w := w) t (by simpa using e)
    exact ⟨u, by simpa using h1, h2⟩
theorem VRs.getV : ∀ {ws : List W} {vs : List V} {i : Nat} {v : V}, VRs G F ι ws vs → vs[i]? = some v → ∃ w, ws[i]? = some w ∧ VR G F ι w v
  | _, _, _, _, .nil, e => by simp at e
  | _, _, 0, _, .cons r _, e => by simp at e; subst e; exact ⟨_, rfl, r⟩
  | _, _, i + 1, w, .cons _ t, e => by
    obtain ⟨u, h1, h2⟩ := VRs.getV (i := i) (v := w) t (by simpa using e)
    exact ⟨u, by simpa using h1, h2⟩
theorem VRs.append : ∀ {ws us : List W} {vs xs : List V}, VRs G F ι ws vs → VRs G F ι us xs → VRs G F ι (ws ++ us) (vs ++ xs)
  | _, _, _, _, .nil, q => q
  | _, _, _, _, .cons r t, q => .cons r (VRs.append t q)
theorem VRs.set {w : W} {v : V} (r : VR G F ι w v) : ∀ {ws : List W} {vs : List V} (i : Nat), VRs G F ι ws vs → VRs G F ι (ws.set i w) (vs.set i v)
  | _, _, _, .nil => .nil
  | _, _, 0, .cons _ t => .cons r t
  | _, _, i + 1, .cons q t => .cons q (VRs.set r i t)
theorem VRs.take : ∀ {ws : List W} {vs : List V} (n : Nat), VRs G F ι ws vs → VRs G F ι (ws.take n) (vs.take n)
  | _, _, 0, _ => .nil
  | _, _, _ + 1, .nil => .nil
  | _, _, n + 1, .cons r t => .cons r (VRs.take n t)
theorem VRs.drop : ∀ {ws : List W} {vs : List V} (n : Nat), VRs G F ι ws vs → VRs G F ι (ws.drop n) (vs.drop n)
  | _, _, 0, r => r
  | _, _, _ + 1, .nil => .nil
  | _, _, n + 1, .cons _ t => VRs.drop n t
theorem FRs.look {x : Str} : ∀ {fs : List (Str × W)} {gs : List (Str × V)}, FRs G F ι fs gs → (∀ w, fs.lookup x = some w → ∃ v, gs.lookup x = some v ∧ VR G F ι w v) ∧ (fs.lookup x = none → gs.lookup x = none)
  | _, _, .nil => ⟨fun w h => by simp at h, fun _ => rfl⟩
  | (y, w) :: fs, (_, v) :: gs, .cons r t => by
    by_cases h : (x == y) = true
    · refine ⟨fun w' e => ?_, fun e => ?_⟩
      · rw [List.lookup_cons, h] at e; simp at e; subst e
        exact ⟨v, by rw [List.lookup_cons, h], r⟩
      · rw [List.lookup_cons, h] at e; simp at e
    · have h' : (x == y) = false := by simpa using h
      refine ⟨fun w' e => ?_, fun e => ?_⟩
      · rw [List.lookup_cons, h'] at e
        obtain ⟨v', e', r'⟩ := (FRs.look (x := x) t).1 w' e
        exact ⟨v', by rw [List.lookup_cons, h']; exact e', r'⟩
      · rw [List.lookup_cons, h'] at e
        rw [List.lookup_cons, h']; exact (FRs.look (x := x) t).2 e
theorem FRs.length : ∀ {ws : List (Str × W)} {vs : List (Str × V)}, FRs G F ι ws vs → ws.length = vs.length
  | _, _, .nil => rfl
  | _, _, .cons _ t => congrArg (· + 1) (FRs.length t)
end

theorem nodup_ixA {N : List Addr} (hN : N.Nodup) {i j : Nat} {x : Addr} (a : N[i]? = some x) (b : N[j]? = some x) : i = j := by
  obtain ⟨h1, e1⟩ := List.getElem?_eq_some_iff.mp a
  obtain ⟨h2, e2⟩ := List.getElem?_eq_some_iff.mp b
  exact (List.getElem_inj hN).mp (e1.trans e2.symm)
/-- the little heap and the abstract one -/
structure HR (G : Gm) (d : Wd) (h : Hq) : Prop where
  tabs : LamX.Tabs G.T d.H
  ftab : ∀ p ps, d.F p ≠ some (.tbl ps)
  len : d.ι.length = h.length
  nd : d.ι.Nodup
  sub : ∀ p o, d.F p = some o → d.H p = some o
  off : ∀ (n : Nat) (a : Addr) (o : O), d.ι[n]? = some a → h[n]? = some o → d.F a = none
  obj : ∀ (n : Nat) (a : Addr) (o : O), d.ι[n]? = some a → h[n]? = some o → ∃ u, d.H a = some u ∧ OR G d.F d.ι o u
theorem sqT_sub {G : Gm} {d : Wd} {h : Hq} (r : HR G d h) {a : Addr} {vs : List V} (q : SqT G.K d.F a vs) : SqT G.K d.H a vs := sqT_mono r.sub q
theorem sqL_sub {G : Gm} {d : Wd} {h : Hq} (r : HR G d h) {a : Addr} {vs : List V} (q : SqL G.K d.F a vs) : SqL G.K d.H a vs := sqL_mono r.sub q
theorem HR.mem {G : Gm} {d : Wd} {h : Hq} (r : HR G d h) {n : Nat} {a : Addr} (e : d.ι[n]? = some a) : ∃ o u, h[n]? = some o ∧ d.H a = some u ∧ OR G d.F d.ι o u := by
  have hn : n < h.length := by rw [← r.len]; exact (List.getElem?_eq_some_iff.mp e).1
  obtain ⟨u, h1, h2⟩ := r.obj n a h[n] e (by simp [hn])
  exact ⟨h[n], u, by simp [hn], h1, h2⟩
/-- a new object that never changes -/
theorem tabs_upd {Th : Tabl} {H : Hp} {p : Addr} {o : HO} (t : LamX.Tabs Th H) (np : H p = none) : LamX.Tabs Th (upd H p o) := t.ext fun b u e => by rw [upd_ne (ne_of_none e np)]; exact e
/-- an object that is neither a table nor a code object is written -/
theorem tabs_put {Th : Tabl} {H : Hp} {p : Addr} {o u : HO} (t : LamX.Tabs Th H) (hp : H p = some u) (n1 : ∀ ps, u ≠ .tbl ps) (n2 : ∀ φ, u ≠ .ext φ) : LamX.Tabs Th (upd H p o) := fun q hq => by
  obtain ⟨ps, e, tr, am⟩ := t q hq
  have h1 : q.1 ≠ p := fun z => by rw [z, hp] at e; exact n1 ps (Option.some.inj e)
  refine ⟨ps, by rw [upd_ne h1]; exact e, tr, fun pos cv hc => ?_⟩
  obtain ⟨c, e1, e2⟩ := am pos cv hc
  refine ⟨c, e1, ?_⟩
  rw [upd_ne]
  · exact e2
  · intro z; rw [z, hp] at e2; exact n2 _ (Option.some.inj e2)
def Wd.addF (d : Wd) (p : Addr) (o : HO) : Wd := ⟨upd d.F p o, d.ι, upd d.H p o⟩
theorem ext_addF {d : Wd} {p : Addr} (o : HO) (np : d.H p = none) (fp : d.F p = none) : Ext d (d.addF p o) := by
  refine ⟨List.prefix_refl _, fun q u e => ?_, fun q u e _ n => ⟨?_, n, fun f => ?_⟩, fun q u z e => ?_⟩
  · show upd d.F p o q = some u
    rw [upd_ne (ne_of_none e fp)]; exact e
  · show upd d.H p o q = some u
    rw [upd_ne (ne_of_none e np)]; exact e
  · show upd d.F p o q = none
    rw [upd_ne (ne_of_none e np)]; exact f
  · show upd d.H p o q = some _
    rw [upd_ne (ne_of_none e np)]; exact e
theorem HR.fnone {G : Gm} {d : Wd} {h : Hq} (r : HR G d h) {p : Addr} (np : d.H p = none) : d.F p = none := by
  cases e : d.F p with
  | none => rfl
  | some o => have := r.sub p o e; rw [np] at this; cases this
theorem HR.addF {G : Gm} {d : Wd} {h : Hq} (r : HR G d h) {p : Addr} (o : HO) (np : d.H p = none) (nt : ∀ ps, o ≠ .tbl ps := by intro _ z; cases z) : HR G (d.addF p o) h := by
  have e := ext_addF o np (r.fnone np)
  refine ⟨tabs_upd r.tabs np, fun q ps z => ?_, r.len, r.nd, fun q u z => ?_, fun n a u h1 h2 => ?_, fun n a u h1 h2 => ?_⟩
  · have z' : upd d.F p o q = some (.tbl ps) := z
    by_cases hq : q = p
    · subst hq; rw [upd_same] at z'; exact nt ps (Option.some.inj z')
    · rw [upd_ne hq] at z'; exact r.ftab q ps z'
  · have z' : upd d.F p o q = some u := z
    show upd d.H p o q = some u
    by_cases hq : q = p
    · subst hq; rw [upd_same] at z' ⊢; exact z'
    · rw [upd_ne hq] at z' ⊢; exact r.sub q u z'
  · obtain ⟨v, h3, _⟩ := r.obj n a u h1 h2
    show upd d.F p o a = none
    rw [upd_ne (ne_of_none h3 np)]; exact r.off n a u h1 h2
  · obtain ⟨v, h3, h4⟩ := r.obj n a u h1 h2
    refine ⟨v, ?_, h4.mono e.F e.ι⟩
    show upd d.H p o a = some v
    rw [upd_ne (ne_of_none h3 np)]; exact h3
/-- a new object of the little heap -/
def Wd.addH (d : Wd) (p : Addr) (o : HO) : Wd := ⟨d.F, d.ι ++ [p], upd d.H p o⟩
theorem HR.fresh {G : Gm} {d : Wd} {h : Hq} (r : HR G d h) {p : Addr} (np : d.H p = none) : p ∉ d.ι := fun m => by
  obtain ⟨n, e⟩ := List.getElem?_of_mem m
  obtain ⟨_, u, _, h2, _⟩ := r.mem e
  rw [np] at h2; cases h2
theorem ext_addH {G : Gm} {d : Wd} {h : Hq} (r : HR G d h) {p : Addr} (o : HO) (np : d.H p = none) : Ext d (d.addH p o) := by
  refine ⟨List.prefix_append _ _, fun q u e => e, fun q u e _ n => ⟨?_, fun m => ?_, fun f => f⟩, fun q u z e => ?_⟩
  · show upd d.H p o q = some u
    rw [upd_ne (ne_of_none e np)]; exact e
  · rcases List.mem_append.mp m with m | m
    · exact n m
    · have : q = p := by simpa using m
      exact ne_of_none e np this
  · show upd d.H p o q = some _
    rw [upd_ne (ne_of_none e np)]; exact e
theorem HR.addH {G : Gm} {d : Wd} {h : Hq} (r : HR G d h) {p : Addr} {o : HO} {o' : O} (np : d.H p = none) (q : OR G d.F (d.ι ++ [p]) o' o) : HR G (d.addH p o) (h ++ [o']) := by
  have e := ext_addH r o np
  refine ⟨tabs_upd r.tabs np, r.ftab, by simp [Wd.addH, r.len], ?_, fun q u z => ?_, fun n a u h1 h2 => ?_, fun n a u h1 h2 => ?_⟩
  · show (d.ι ++ [p]).Nodup
    rw [List.nodup_append]
    exact ⟨r.nd, by simp, fun a ha b hb => by
      have : b = p := by simpa using hb
      subst this
      intro z; subst z; exact r.fresh np ha⟩
  · have z' : d.F q = some u := z
    show upd d.H p o q = some u
    rw [upd_ne (ne_of_none (r.sub q u z') np)]; exact r.sub q u z'
  · have h1' : (d.ι ++ [p])[n]? = some a := h1
    by_cases hn : n < d.ι.length
    · rw [List.getElem?_append_left hn] at h1'
      rw [List.getElem?_append_left (by rw [← r.len]; exact hn)] at h2
      exact r.off n a u h1' h2
    · rw [List.getElem?_append_right (by omega)] at h1'
      have : a = p := by
        have := (List.getElem?_eq_some_iff.mp h1').2
        simpa using this.symm
      subst this
      exact r.fnone np
  · have h1' : (d.ι ++ [p])[n]? = some a := h1
    by_cases hn : n < d.ι.length
    · rw [List.getElem?_append_left hn] at h1'
      rw [List.getElem?_append_left (by rw [← r.len]; exact hn)] at h2
      obtain ⟨v, h3, h4⟩ := r.obj n a u h1' h2
      refine ⟨v, ?_, h4.mono e.F e.ι⟩
      show upd d.H p o a = some v
      rw [upd_ne (ne_of_none h3 np)]; exact h3
    · rw [List.getElem?_append_right (by omega)] at h1'
      rw [List.getElem?_append_right (by rw [← r.len]; omega)] at h2
      have hz : n = d.ι.length := by
        have := (List.getElem?_eq_some_iff.mp h1').1
        simp at this; omega
      subst hz
      have : a = p := by
        have := (List.getElem?_eq_some_iff.mp h1').2
        simpa using this.symm
      subst this
      have : u = o' := by
        rw [r.len] at h2
        simpa using h2.symm
      subst this
      exact ⟨o, upd_same, q⟩
/-- an object of the little heap is written -/
def Wd.put (d : Wd) (p : Addr) (o : HO) : Wd := ⟨d.F, d.ι, upd d.H p o⟩
theorem HR.put {G : Gm} {d : Wd} {h : Hq} (r : HR G d h) {n : Nat} {p : Addr} {o u : HO} {o' : O} (e : d.ι[n]? = some p) (hp : d.H p = some u) (nf : ∀ ob z, u ≠ .frz ob z) (q : OR G d.F d.ι o' o) : Ext d (d.put p o) ∧ HR G (d.put p o) (h.set n o') := by
  have hm : p ∈ d.ι := List.mem_of_getElem? e
  have nt : (∀ ps, u ≠ .tbl ps) ∧ ∀ φ, u ≠ .ext φ := by
    obtain ⟨o0, u', _, h2, h3⟩ := r.mem e
    have eu : u = u' := Option.some.inj (hp.symm.trans h2)
    rw [eu]
    refine ⟨fun (ps : Array Value) (z : u' = .tbl ps) => ?_, fun (φ : Heap → Prop) (z : u' = .ext φ) => ?_⟩
    · rw [z] at h3; cases h3
    · rw [z] at h3; cases h3
  refine ⟨⟨List.prefix_refl _, fun _ _ z => z, fun a b z _ na => ⟨?_, na, fun f => f⟩, fun a b z w => ?_⟩, ⟨tabs_put r.tabs hp nt.1 nt.2, r.ftab, by simp [Wd.put, r.len], r.nd, fun a b z => ?_, fun m a b h1 h2 => ?_, fun m a b h1 h2 => ?_⟩⟩
  · show upd d.H p o a = some b
    rw [upd_ne (fun x => na (by rw [x]; exact hm))]; exact z
  · show upd d.H p o a = some _
    rw [upd_ne]
    · exact w
    · intro x; subst x; rw [hp] at w; exact nf _ _ (Option.some.inj w)
  · have z' : d.F a = some b := z
    show upd d.H p o a = some b
    rw [upd_ne]
    · exact r.sub a b z'
    · intro x; subst x
      obtain ⟨ob, _, h1, _, _⟩ := r.mem e
      rw [r.off n _ ob e h1] at z'; cases z'
  · obtain ⟨ob, _, h3, _, _⟩ := r.mem h1
    exact r.off m a ob h1 h3
  · have h1' : d.ι[m]? = some a := h1
    by_cases hmn : m = n
    · subst hmn
      rw [e] at h1'; cases h1'
      have hl : m < h.length := by rw [← r.len]; exact (List.getElem?_eq_some_iff.mp e).1
      rw [List.getElem?_set_self hl] at h2
      cases h2
      exact ⟨o, upd_same, q⟩
    · rw [List.getElem?_set_ne (Ne.symm hmn)] at h2
      obtain ⟨v, h3, h4⟩ := r.obj m a b h1' h2
      refine ⟨v, ?_, h4⟩
      show upd d.H p o a = some v
      rw [upd_ne]
      · exact h3
      · intro x; subst x
        exact hmn (nodup_ixA r.nd h1' e)
structure SR (G : Gm) (d : Wd) (σ' : Sg) (σ : L2.St) : Prop where
  len : σ'.length = σ.length
  get : ∀ (i : Nat) (w : W), σ'[i]? = some (some w) → ∃ v, σ[i]? = some (some v) ∧ VR G d.F d.ι w v
theorem SR.mono {G : Gm} {a b : Wd} {σ' : Sg} {σ : L2.St} (r : SR G a σ' σ) (e : Ext a b) : SR G b σ' σ :=
  ⟨r.len, fun i w h => let ⟨v, h1, h2⟩ := r.get i w h; ⟨v, h1, h2.mono e.F e.ι⟩⟩
theorem SR.set {G : Gm} {d : Wd} {σ' : Sg} {σ : L2.St} {w : W} {v : V} (r : SR G d σ' σ) (i : Nat) (q : VR G d.F d.ι w v) : SR G d (σ'.set i (some w)) (σ.set i (some v)) := by
  refine ⟨by simp [r.len], fun j u e => ?_⟩
  by_cases hj : j = i
  · subst hj
    have hl : j < σ'.length := by
      have := (List.getElem?_eq_some_iff.mp e).1
      simpa using this
    rw [List.getElem?_set_self hl] at e
    have e' : w = u := by simpa using e
    subst e'
    exact ⟨v, by rw [List.getElem?_set_self (by rw [← r.len]; exact hl)], q⟩
  · rw [List.getElem?_set_ne (Ne.symm hj)] at e
    obtain ⟨v', h1, h2⟩ := r.get j u e
    exact ⟨v', by rw [List.getElem?_set_ne (Ne.symm hj)]; exact h1, h2⟩

/-- an exception's own dict -/
def XD (G : Gm) (d : Wd) : Option (Str × W) → Option Addr → Prop
  | none, none => True
  | some (f, w), some dd => ∃ v, d.H dd = some (.xd [(f, v)]) ∧ VR G d.F d.ι w v
  | _, _ => False
/-- what follows from a result -/
def Po {α : Type} (G : Gm) (E : XK) (d : Wd) (r : Re α) (Φ : Wd → α → Hq → Prop) : Prop := match r with
  | .ok a h => ∀ d', Ext d d' → HR G d' h → Φ d' a h
  | .ex x h => ∀ d' C dd, Ext d d' → HR G d' h → G.mg x.c = some (.ref C) → XD G d' x.f dd → E (.ref C) dd d'.H
  | .no => False
section
variable {α β : Type} {G : Gm} {E : XK} {d d' : Wd} {r : Re α}
theorem Po.mono {Φ : Wd → α → Hq → Prop} (p : Po G E d r Φ) (e : Ext d d') : Po G E d' r Φ := by
  cases r with
  | ok a h => exact fun d2 e2 hr => p d2 (e.trans e2) hr
  | ex x h => exact fun d2 C dd e2 hr => p d2 C dd (e.trans e2) hr
  | no => exact p
theorem Po.imp {Φ Ψ : Wd → α → Hq → Prop} (p : Po G E d r Φ) (i : ∀ d' a h, Ext d d' → HR G d' h → Φ d' a h → Ψ d' a h) : Po G E d r Ψ := by
  cases r with
  | ok a h => exact fun d2 e2 hr => i d2 a h e2 hr (p d2 e2 hr)
  | ex x h => exact p
  | no => exact p
theorem Po.then {Φ : Wd → β → Hq → Prop} {f : α → Hq → Re β} (p : Po G E d (r.bind f) Φ) : Po G E d r (fun d1 a h1 => Po G E d1 (f a h1) Φ) := by
  cases r with
  | ok a h => exact fun d2 e2 hr => Po.mono (show Po G E d (f a h) Φ from p) e2
  | ex x h => exact p
  | no => exact p
theorem Po.quiet {Φ : Wd → α → Hq → Prop} {E' : XK} (p : Po G E d r.quiet Φ) : Po G E' d r Φ := by
  cases r with
  | ok a h => exact p
  | ex x h => exact p.elim
  | no => exact p
theorem Po.ok {Φ : Wd → α → Hq → Prop} {a : α} {h : Hq} (p : Po G E d (.ok a h) Φ) (hr : HR G d h) : Φ d a h := p d (Ext.refl d) hr
end

/-! ### the judgements -/
abbrev EM := Sg → Hq → Re W
abbrev TM := Sg → Hq → Re Bool
abbrev AM := Sg → Hq → Re (List W)
abbrev SM := Sg → Hq → Re Fl
def QE (G : Gm) (Q : VK) : Wd → W → Hq → Prop := fun d w _ => ∀ v, VR G d.F d.ι w v → Q v d.H
def QA (G : Gm) (Q : List V → Hp → Prop) : Wd → List W → Hq → Prop := fun d w _ => ∀ v, VRs G d.F d.ι w v → Q v d.H
def QT (Q : Bool → Hp → Prop) : Wd → Bool → Hq → Prop := fun d b _ => Q b d.H
def QS (G : Gm) (D : Ends) : Wd → Fl → Hq → Prop := fun d f _ => match f with
  | .nx σ' => ∀ σ, SR G d σ' σ → D.nx σ d.H
  | .rt w => ∀ v, VR G d.F d.ι w v → D.rt v d.H
  | .bk σ' => ∀ σ, SR G d σ' σ → D.bk σ d.H
  | .ct σ' => ∀ σ, SR G d σ' σ → D.ct σ d.H
abbrev Cx.G (Th : Tabl) (X : Cx) : Gm := ⟨X.K, X.mg, Th, X.w⟩
/-- the exceptions of E are taken -/
abbrev Tk (X : Cx) (E : XK) : Prop := Takes X (fun c d _ H => E c d H)
def SimE (G : Gm) (E : XK) (t : TE) (m : EM) : Prop := ∀ (d : Wd) (σ' : Sg) (σ : L2.St) (h : Hq) (Q : VK), SR G d σ' σ → HR G d h → Po G E d (m σ' h) (QE G Q) → t σ d.H Q
def SimT (G : Gm) (E : XK) (t : TT) (m : TM) : Prop := ∀ (d : Wd) (σ' : Sg) (σ : L2.St) (h : Hq) (Q : Bool → Hp → Prop), SR G d σ' σ → HR G d h → Po G E d (m σ' h) (QT Q) → t σ d.H Q
def SimA (G : Gm) (E : XK) (t : TA) (m : AM) : Prop := ∀ (d : Wd) (σ' : Sg) (σ : L2.St) (h : Hq) (Q : List V → Hp → Prop), SR G d σ' σ → HR G d h → Po G E d (m σ' h) (QA G Q) → t σ d.H Q
def SimS (G : Gm) (E : XK) (t : TS) (m : SM) : Prop := ∀ (d : Wd) (σ' : Sg) (σ : L2.St) (h : Hq) (D : Ends), SR G d σ' σ → HR G d h → Po G E d (m σ' h) (QS G D) → t D σ d.H
structure XE (Th : Tabl) (X : Cx) (E : XK) (e : Expr) (m : EM) : Prop where
  ex : ∃ t, PE X e t ∧ SimE (Cx.G Th X) E t m
structure XT (Th : Tabl) (X : Cx) (E : XK) (e : Expr) (m : TM) : Prop where
  ex : ∃ t, PT X e t ∧ SimT (Cx.G Th X) E t m
structure XW (Th : Tabl) (X : Cx) (E : XK) (e : Expr) (m : TM) : Prop where
  ex : ∃ t, PW X e t ∧ SimT (Cx.G Th X) E t m
structure XA (Th : Tabl) (X : Cx) (E : XK) (es : List Expr) (m : AM) : Prop where
  ex : ∃ t, PA X es t ∧ SimA (Cx.G Th X) E t m
structure XS (Th : Tabl) (X : Cx) (E : XK) (st : Stmt) (m : SM) : Prop where
  ex : ∃ t, PS X st t ∧ SimS (Cx.G Th X) E t m
structure XSs (Th : Tabl) (X : Cx) (E : XK) (st : List Stmt) (m : SM) : Prop where
  ex : ∃ t, PSs X st t ∧ SimS (Cx.G Th X) E t m

/-! ### names and constants -/
section
variable {Th : Tabl} {X : Cx} {E : XK} {a b c : Expr} {ma mb mc : EM} {pos : Pos}
def eVar (i : Nat) : EM := fun σ h => match σ[i]? with
  | some (some w) => .ok w h
  | _ => .no
def eC (w : W) : EM := fun _ h => .ok w h
theorem simC {w : W} {v : V} (r : ∀ F ι, VR (Cx.G Th X) F ι w v) : SimE (Cx.G Th X) E (tC v) (eC w) := fun d σ' σ h Q sr hr p => p.ok hr v (r _ _)
theorem xv (i : Nat) {x : Str} {pos : Pos} (hN : X.N[i]? = some x := by rfl) (hv : Vis X.env.scope x := by first | exact Or.inl rfl | exact Or.inr (Or.inl rfl) | exact Or.inr (Or.inr rfl)) (hd : (x == ("__debug__" : Str)) = false := by decide)
    (hcd : (x == ("__classdict__" : Str)) = false := by decide) : XE Th X E (.Name x pos) (eVar i) := by
  refine ⟨_, pe_var hN hv hd hcd, fun d σ' σ h Q sr hr p => ?_⟩
  unfold eVar at p
  cases e : σ'[i]? with
  | none => rw [e] at p; exact p.elim
  | some o =>
    cases o with
    | none => rw [e] at p; exact p.elim
    | some w =>
      rw [e] at p
      obtain ⟨v, e1, r1⟩ := sr.get i w e
      exact ⟨v, e1, p.ok hr v r1⟩
theorem xe_int {i j pos} : XE Th X E (.Constant (.int i) j pos) (eC (.int i)) := ⟨_, pe_int, simC fun _ _ => .int⟩
theorem xe_bl {b j pos} : XE Th X E (.Constant (.bool b) j pos) (eC (.bl b)) := ⟨_, pe_bl, simC fun _ _ => .bl⟩
theorem xe_non {j pos} : XE Th X E (.Constant .none j pos) (eC .non) := ⟨_, pe_non, simC fun _ _ => .non⟩
theorem xe_str {x j pos} : XE Th X E (.Constant (.str x) j pos) (eC (.str x)) := ⟨_, pe_str, simC fun _ _ => .str⟩
/-- a module's constant of no or one object -/
theorem xe_glob {x : Str} {v : V} {w : W} {u : Value} {pos : Pos} (hg : Gl X x) (hm : X.mg x = some u) (r : RelV v u) (rw : ∀ F ι, VR (Cx.G Th X) F ι w v) (hd : (x == ("__debug__" : Str)) = false := by decide) : XE Th X E (.Name x pos) (eC w) :=
  ⟨_, pe_glob hg hm r hd, simC rw⟩

/-! ### operators by values -/
abbrev OpM := W → W → Hq → Re W
def SimO (G : Gm) (E : XK) (r : R2) (f : OpM) : Prop := ∀ (d : Wd) (a b : W) (x y : V) (h : Hq) (Q : VK), VR G d.F d.ι a x → VR G d.F d.ι b y → HR G d h → Po G E d (f a b h) (QE G Q) → r x y d.H Q
def eOp (f : OpM) (ma mb : EM) : EM := fun σ h => (ma σ h).bind fun x h1 => (mb σ h1).bind fun y h2 => f x y h2
theorem simOp {G : Gm} {r : R2} {f : OpM} {ta tb : TE} (ho : SimO G E r f) (ha : SimE G E ta ma) (hb : SimE G E tb mb) : SimE G E (tOp r ta tb) (eOp f ma mb) := by
  intro d σ' σ h Q sr hr p
  refine ha d σ' σ h _ sr hr ((Po.then p).imp fun d1 x h1 e1 hr1 p1 v1 r1 => ?_)
  refine hb d1 σ' σ h1 _ (sr.mono e1) hr1 ((Po.then p1).imp fun d2 y h2 e2 hr2 p2 v2 r2 => ?_)
  exact ho d2 x y v1 v2 h2 Q (r1.mono e2.F e2.ι) r2 hr2 p2
structure XO (Th : Tabl) (X : Cx) (E : XK) (f : Value → Value → Sem Value) (m : OpM) : Prop where
  ex : ∃ r, OpR X f r ∧ SimO (Cx.G Th X) E r m
theorem xe_op {op : Operator} {f : OpM} (ho : XO Th X E (binaryOp op) f) (ha : XE Th X E a ma) (hb : XE Th X E b mb) : XE Th X E (.BinOp a op b pos) (eOp f ma mb) := by
  obtain ⟨r, ro, so⟩ := ho
  obtain ⟨ta, pa, sa⟩ := ha
  obtain ⟨tb, pb, sb⟩ := hb
  exact ⟨_, pe_op ro pa pb, simOp so sa sb⟩
theorem xe_cmp {op : CmpOp} {f : OpM} (ho : XO Th X E (compareOp op) f) (ha : XE Th X E a ma) (hb : XE Th X E b mb) (hm : behindInMarks op b = false) : XE Th X E (.Compare a [op] [b] pos) (eOp f ma mb) := by
  obtain ⟨r, ro, so⟩ := ho
  obtain ⟨ta, pa, sa⟩ := ha
  obtain ⟨tb, pb, sb⟩ := hb
  exact ⟨_, pe_cmpR ro pa pb hm, simOp so sa sb⟩
def tTst (m : EM) : TM := fun σ h => (m σ h).bind fun w h1 => match w with
  | .bl b => .ok b h1
  | _ => .no
theorem VR.bl_of {G : Gm} {F : Hp} {ι : List Addr} {b : Bool} {v : V} (r : VR G F ι (.bl b) v) : v = .bl b := by cases r; rfl
theorem VR.int_of {G : Gm} {F : Hp} {ι : List Addr} {i : Int} {v : V} (r : VR G F ι (.int i) v) : v = .int i := by cases r; rfl
theorem VR.str_of {G : Gm} {F : Hp} {ι : List Addr} {i : Str} {v : V} (r : VR G F ι (.str i) v) : v = .str i := by cases r; rfl
theorem VR.non_of {G : Gm} {F : Hp} {ι : List Addr} {v : V} (r : VR G F ι .non v) : v = .non := by cases r; rfl
theorem simTst {G : Gm} {t : TE} (h : SimE G E t ma) : SimT G E (tTest t) (tTst ma) := by
  intro d σ' σ h1 Q sr hr p
  refine h d σ' σ h1 _ sr hr ((Po.then p).imp fun d1 w h2 e1 hr1 p1 v r => ?_)
  cases w <;> first
    | exact p1.elim
    | (cases r.bl_of; exact ⟨_, rfl, p1.ok hr1⟩)
theorem xt_cmp {op : CmpOp} {f : OpM} (ho : XO Th X E (compareOp op) f) (ha : XE Th X E a ma) (hb : XE Th X E b mb) (hm : behindInMarks op b = false) : XT Th X E (.Compare a [op] [b] pos) (tTst (eOp f ma mb)) := by
  obtain ⟨r, ro, so⟩ := ho
  obtain ⟨ta, pa, sa⟩ := ha
  obtain ⟨tb, pb, sb⟩ := hb
  exact ⟨_, pt_cmpR ro pa pb hm, simTst (simOp so sa sb)⟩
/-- two rules for one operation: the first where it gives something -/
theorem XO.or {f : Value → Value → Sem Value} {m m1 m2 : OpM} (h1 : XO Th X E f m1) (h2 : XO Th X E f m2) (hm : ∀ a b h, m a b h = m1 a b h ∨ m a b h = m2 a b h) : XO Th X E f m := by
  obtain ⟨r1, o1, s1⟩ := h1
  obtain ⟨r2, o2, s2⟩ := h2
  refine ⟨_, OpR.or o1 o2, fun d a b x y h Q ra rb hr p => ?_⟩
  rcases hm a b h with e | e
  · rw [e] at p; exact .inl (s1 d a b x y h Q ra rb hr p)
  · rw [e] at p; exact .inr (s2 d a b x y h Q ra rb hr p)
end
end Mo
end

section
set_option Elab.async false
set_option linter.all false
set_option autoImplicit false
set_option maxRecDepth 100000
set_option maxHeartbeats 1000000
namespace Mo
open PySem PySem.Spec PyProof.Rows L2
section
variable {Th : Tabl} {X : Cx} {E : XK} {a b c e : Expr} {es : List Expr} {ma mb mc me : EM} {mt mu : TM} {am : AM} {pos : Pos}

/-! ### arguments, displays -/
def aNil : AM := fun _ h => .ok [] h
def aCons (m : EM) (r : AM) : AM := fun σ h => (m σ h).bind fun w h1 => (r σ h1).bind fun ws h2 => .ok (w :: ws) h2
theorem xa_nil : XA Th X E [] aNil := ⟨_, pa_nil, fun d σ' σ h Q sr hr p => p.ok hr [] .nil⟩
theorem xa_cons (he : XE Th X E e me) (hr : XA Th X E es am) (hs : starEach (e :: es) X.env = (false, eval e X.env) :: starEach es X.env := by rfl) : XA Th X E (e :: es) (aCons me am) := by
  obtain ⟨te, pe, se⟩ := he
  obtain ⟨ta, pa, sa⟩ := hr
  refine ⟨_, pa_cons pe pa hs, fun d σ' σ h Q sr hr p => ?_⟩
  refine se d σ' σ h _ sr hr ((Po.then p).imp fun d1 x h1 e1 hr1 p1 v1 r1 => ?_)
  refine sa d1 σ' σ h1 _ (sr.mono e1) hr1 ((Po.then p1).imp fun d2 y h2 e2 hr2 p2 v2 r2 => ?_)
  exact p2.ok hr2 _ (.cons (r1.mono e2.F e2.ι) r2)
def lim (n : Nat) : Bool := decide (n ≤ 1000000)
theorem lim_ok {n : Nat} (h : lim n = true) : n ≤ sizeLine := by
  have : n ≤ 1000000 := of_decide_eq_true h
  rw [sizeLine_eq]; omega
theorem lim_lt {n : Nat} (h : lim n = true) : n < sizeLine := by
  have : n ≤ 1000000 := of_decide_eq_true h
  rw [sizeLine_eq]; omega
def eTup (m : AM) : EM := fun σ h => (m σ h).bind fun ws h1 => if lim ws.length = true then .ok (.tup ws) h1 else .no
def eLst (m : AM) : EM := fun σ h => (m σ h).bind fun ws h1 => if lim ws.length = true then .ok (.lst ws) h1 else .no
/-- a list of the little heap -/
def eLstH (m : AM) : EM := fun σ h => (m σ h).bind fun ws h1 => if lim ws.length = true then .ok (.ref h1.length) (h1 ++ [.lst ws]) else .no
theorem newT {G : Gm} {E : XK} {d : Wd} {h : Hq} {ws : List W} {vs : List V} {Q : VK} (hr : HR G d h) (r : VRs G d.F d.ι ws vs) (p : Po G E d (.ok (.tup ws) h) (QE G Q)) (q : Addr) (np : d.H q = none) : Q (.ref q) (upd d.H q (.tup vs)) := by
  have e := ext_addF (.tup vs) np (hr.fnone np)
  exact p _ e (hr.addF _ np) _ (.tup (SqT.of upd_same) (r.mono e.F e.ι))
theorem newL {G : Gm} {E : XK} {d : Wd} {h : Hq} {ws : List W} {vs : List V} {Q : VK} (hr : HR G d h) (r : VRs G d.F d.ι ws vs) (p : Po G E d (.ok (.lst ws) h) (QE G Q)) (q : Addr) (np : d.H q = none) : Q (.ref q) (upd d.H q (.lst vs)) := by
  have e := ext_addF (.lst vs) np (hr.fnone np)
  exact p _ e (hr.addF _ np) _ (.lst upd_same (r.mono e.F e.ι))
theorem newO {G : Gm} {E : XK} {d : Wd} {h : Hq} {o' : O} {o : HO} {Q : VK} (hr : HR G d h) (r : OR G d.F d.ι o' o) (p : Po G E d (.ok (.ref h.length) (h ++ [o'])) (QE G Q)) (q : Addr) (np : d.H q = none) : Q (.ref q) (upd d.H q o) := by
  have e := ext_addH hr o np
  refine p _ e (hr.addH np (r.mono e.F e.ι)) _ (.ref ?_)
  show (d.ι ++ [q])[h.length]? = some q
  rw [← hr.len]; simp
theorem xe_tup {x1 : Nat} (h : XA Th X E es am) : XE Th X E (.Tuple es x1 pos) (eTup am) := by
  obtain ⟨ta, pa, sa⟩ := h
  refine ⟨_, pe_tup pa, fun d σ' σ h Q sr hr p => ?_⟩
  refine sa d σ' σ h _ sr hr ((Po.then p).imp fun d1 ws h1 e1 hr1 p1 vs r1 => ?_)
  by_cases hl : lim ws.length = true
  · rw [if_pos hl] at p1
    exact ⟨by rw [← r1.length]; exact lim_ok hl, fun q np => newT hr1 r1 p1 q np⟩
  · rw [if_neg hl] at p1; exact p1.elim
theorem xe_lst (h : XA Th X E es am) : XE Th X E (.List es pos) (eLst am) := by
  obtain ⟨ta, pa, sa⟩ := h
  refine ⟨_, pe_lst pa, fun d σ' σ h Q sr hr p => ?_⟩
  refine sa d σ' σ h _ sr hr ((Po.then p).imp fun d1 ws h1 e1 hr1 p1 vs r1 => ?_)
  by_cases hl : lim ws.length = true
  · rw [if_pos hl] at p1
    exact ⟨by rw [← r1.length]; exact lim_ok hl, fun q np => newL hr1 r1 p1 q np⟩
  · rw [if_neg hl] at p1; exact p1.elim
theorem xe_lstH (h : XA Th X E es am) : XE Th X E (.List es pos) (eLstH am) := by
  obtain ⟨ta, pa, sa⟩ := h
  refine ⟨_, pe_lst pa, fun d σ' σ h Q sr hr p => ?_⟩
  refine sa d σ' σ h _ sr hr ((Po.then p).imp fun d1 ws h1 e1 hr1 p1 vs r1 => ?_)
  by_cases hl : lim ws.length = true
  · rw [if_pos hl] at p1
    exact ⟨by rw [← r1.length]; exact lim_ok hl, fun q np => newO hr1 (.lst r1) p1 q np⟩
  · rw [if_neg hl] at p1; exact p1.elim

/-! ### tests -/
def tVal (m : EM) : TM := tTst m
theorem xt_val (he : XE Th X E e me) (hw : ∀ whole, isTrue e X.env whole = (do let v ← whole; standAt e.pos; holding [v] (truthy v)) := by intro _; rfl) : XT Th X E e (tTst me) := by
  obtain ⟨t, p, s⟩ := he
  exact ⟨_, pt_val p hw, simTst s⟩
/-- a value's truth -/
def truM (w : W) (h : Hq) : Re Bool := match w with
  | .non => .ok false h
  | .bl b => .ok b h
  | .int i => .ok (i != 0) h
  | .str x => if lim x.length = true then .ok ((x.length : Int) != 0) h else .no
  | .tup xs => .ok (!xs.isEmpty) h
  | .lst xs => .ok (!xs.isEmpty) h
  | .scr xs => .ok (!xs.isEmpty) h
  | .ref n => match h[n]? with
    | some (.lst xs) => .ok (!xs.isEmpty) h
    | some (.dK kvs) => .ok (!kvs.isEmpty) h
    | _ => .no
  | _ => .no
def tTru (m : EM) : TM := fun σ h => (m σ h).bind truM
theorem VRs.isEmpty {G : Gm} {F : Hp} {ι : List Addr} {ws : List W} {vs : List V} (r : VRs G F ι ws vs) : ws.isEmpty = vs.isEmpty := by cases r <;> rfl
theorem KR.isEmpty {κ : Type} {G : Gm} {F : Hp} {ι : List Addr} {ws : List (κ × W)} {vs : List (κ × V)} (r : KR G F ι ws vs) : ws.isEmpty = vs.isEmpty := by cases r <;> rfl
theorem tru_sim {d : Wd} {w : W} {v : V} {h : Hq} {Q : Bool → Hp → Prop} (hr : HR (Cx.G Th X) d h) (r : VR (Cx.G Th X) d.F d.ι w v) (p : Po (Cx.G Th X) E d (truM w h) (QT Q)) : ∃ k, TruV X.K v d.H k ∧ Q k d.H := by
  cases r with
  | non => exact ⟨false, rfl, p.ok hr⟩
  | @bl b => exact ⟨b, rfl, p.ok hr⟩
  | @int i => exact ⟨_, rfl, p.ok hr⟩
  | @str x =>
    unfold truM at p
    by_cases hl : lim x.length = true
    · simp only [hl, if_true] at p
      exact ⟨_, ⟨lim_ok hl, rfl⟩, p.ok hr⟩
    · simp only [hl, if_false] at p; exact p.elim
  | ty => exact p.elim
  | @tup a ws vs s rs => exact ⟨_, .inr (.inl ⟨_, sqT_sub hr s, rfl⟩), by have := p.ok hr; unfold QT at this; rw [rs.isEmpty] at this; exact this⟩
  | @lst a ws vs s rs => exact ⟨_, .inl ⟨_, SqL.of (hr.sub _ _ s), rfl⟩, by have := p.ok hr; unfold QT at this; rw [rs.isEmpty] at this; exact this⟩
  | @scr a ws vs s rs => exact ⟨_, .inl ⟨_, sqL_sub hr s, rfl⟩, by have := p.ok hr; unfold QT at this; rw [rs.isEmpty] at this; exact this⟩
  | ins => exact p.elim
  | @ref n a e =>
    obtain ⟨o, u, h1, h2, h3⟩ := hr.mem e
    simp only [truM, h1] at p
    cases h3 with
    | lst rs => exact ⟨_, .inl ⟨_, SqL.of h2, rfl⟩, by have := p.ok hr; unfold QT at this; rw [rs.isEmpty] at this; exact this⟩
    | dK rs => exact ⟨_, .inr (.inr ⟨_, h2, rfl⟩), by have := p.ok hr; unfold QT at this; rw [rs.isEmpty] at this; exact this⟩
    | dT _ => exact p.elim
    | ins _ _ => exact p.elim
    | frz _ => exact p.elim
  | fn => exact p.elim
  | kd => exact p.elim
theorem xt_tru (he : XE Th X E e me) (hw : ∀ whole, isTrue e X.env whole = (do let v ← whole; standAt e.pos; holding [v] (truthy v)) := by intro _; rfl) : XT Th X E e (tTru me) := by
  obtain ⟨t, p, s⟩ := he
  refine ⟨_, pt_truth p hw, fun d σ' σ h Q sr hr p => ?_⟩
  exact s d σ' σ h _ sr hr ((Po.then p).imp fun d1 w h1 e1 hr1 p1 v r => tru_sim hr1 r p1)
def tAndM (t u : TM) : TM := fun σ h => (t σ h).bind fun c h1 => match c with
  | true => u σ h1
  | false => .ok false h1
def tOrM (t u : TM) : TM := fun σ h => (t σ h).bind fun c h1 => match c with
  | true => .ok true h1
  | false => u σ h1
def tNotM (t : TM) : TM := fun σ h => (t σ h).bind fun c h1 => .ok (!c) h1
theorem xw_pt (h : XW Th X E e mt) : XT Th X E e mt := let ⟨t, p, s⟩ := h; ⟨t, p.pt, s⟩
theorem xw_and1 (h : XT Th X E a mt) : XW Th X E (.BoolOp .And [a] pos) mt := let ⟨t, p, s⟩ := h; ⟨t, pw_and1 p, s⟩
theorem xw_or1 (h : XT Th X E a mt) : XW Th X E (.BoolOp .Or [a] pos) mt := let ⟨t, p, s⟩ := h; ⟨t, pw_or1 p, s⟩
theorem xw_and {rest : List Expr} (ha : XT Th X E a mt) (hb : XW Th X E (.BoolOp .And (b :: rest) pos) mu) : XW Th X E (.BoolOp .And (a :: b :: rest) pos) (tAndM mt mu) := by
  obtain ⟨t, p, s⟩ := ha
  obtain ⟨u, q, z⟩ := hb
  refine ⟨_, pw_and p q, fun d σ' σ h Q sr hr p => ?_⟩
  refine s d σ' σ h _ sr hr ((Po.then p).imp fun d1 c h1 e1 hr1 p1 => ?_)
  cases c with
  | true => unfold QT; dsimp only; rw [if_pos rfl]; exact z d1 σ' σ h1 Q (sr.mono e1) hr1 p1
  | false => unfold QT; dsimp only; rw [if_neg Bool.false_ne_true]; exact p1.ok hr1
theorem xw_or {rest : List Expr} (ha : XT Th X E a mt) (hb : XW Th X E (.BoolOp .Or (b :: rest) pos) mu) : XW Th X E (.BoolOp .Or (a :: b :: rest) pos) (tOrM mt mu) := by
  obtain ⟨t, p, s⟩ := ha
  obtain ⟨u, q, z⟩ := hb
  refine ⟨_, pw_or p q, fun d σ' σ h Q sr hr p => ?_⟩
  refine s d σ' σ h _ sr hr ((Po.then p).imp fun d1 c h1 e1 hr1 p1 => ?_)
  cases c with
  | true => unfold QT; dsimp only; rw [if_pos rfl]; exact p1.ok hr1
  | false => unfold QT; dsimp only; rw [if_neg Bool.false_ne_true]; exact z d1 σ' σ h1 Q (sr.mono e1) hr1 p1
theorem xt_not (ha : XT Th X E a mt) : XT Th X E (.UnaryOp .Not a pos) (tNotM mt) := by
  obtain ⟨t, p, s⟩ := ha
  refine ⟨_, pt_not p, fun d σ' σ h Q sr hr p => ?_⟩
  exact s d σ' σ h _ sr hr ((Po.then p).imp fun d1 c h1 e1 hr1 p1 => p1.ok hr1)
/-- not a, as a value, a a bool -/
def eNot (m : EM) : EM := fun σ h => (m σ h).bind fun w h1 => match w with
  | .bl b => .ok (.bl (!b)) h1
  | _ => .no
theorem xe_not (ha : XE Th X E a ma) : XE Th X E (.UnaryOp .Not a pos) (eNot ma) := by
  obtain ⟨t, p, s⟩ := ha
  refine ⟨_, pe_not p, fun d σ' σ h Q sr hr p => ?_⟩
  refine s d σ' σ h _ sr hr ((Po.then p).imp fun d1 w h1 e1 hr1 p1 v r => ?_)
  cases w <;> first
    | exact p1.elim
    | (cases r.bl_of; exact ⟨_, rfl, p1.ok hr1 _ .bl⟩)
/-- and, or as a value, all but the last bools -/
def eAnd (m n : EM) : EM := fun σ h => (m σ h).bind fun w h1 => match w with
  | .bl true => n σ h1
  | .bl false => .ok (.bl false) h1
  | _ => .no
def eOr (m n : EM) : EM := fun σ h => (m σ h).bind fun w h1 => match w with
  | .bl true => .ok (.bl true) h1
  | .bl false => n σ h1
  | _ => .no
def eIf (t : TM) (m n : EM) : EM := fun σ h => (t σ h).bind fun c h1 => match c with
  | true => m σ h1
  | false => n σ h1
theorem xe_if (hc : XT Th X E c mt) (ha : XE Th X E a ma) (hb : XE Th X E b mb) : XE Th X E (.IfExp c a b pos) (eIf mt ma mb) := by
  obtain ⟨t, p, s⟩ := hc
  obtain ⟨u, q, z⟩ := ha
  obtain ⟨u2, q2, z2⟩ := hb
  refine ⟨_, pe_ifExp p q q2, fun d σ' σ h Q sr hr p => ?_⟩
  refine s d σ' σ h _ sr hr ((Po.then p).imp fun d1 c h1 e1 hr1 p1 => ?_)
  cases c with
  | true => unfold QT; dsimp only; rw [if_pos rfl]; exact z d1 σ' σ h1 Q (sr.mono e1) hr1 p1
  | false => unfold QT; dsimp only; rw [if_neg Bool.false_ne_true]; exact z2 d1 σ' σ h1 Q (sr.mono e1) hr1 p1
end

/-! ### statements -/
section
variable {Th : Tabl} {X : Cx} {E : XK} {st : Stmt} {rest : List Stmt} {e : Expr} {me : EM} {mt : TM} {ms mr : SM} {pos : Pos}
def sNil : SM := fun σ h => .ok (.nx σ) h
def sSeq (m r : SM) : SM := fun σ h => (m σ h).bind fun f h1 => match f with
  | .nx σ1 => r σ1 h1
  | .rt w => .ok (.rt w) h1
  | .bk σ1 => .ok (.bk σ1) h1
  | .ct σ1 => .ok (.ct σ1) h1
theorem xs_nil : XSs Th X E [] sNil := ⟨_, pss_nil, fun d σ' σ h D sr hr p => p.ok hr σ sr⟩
theorem simSeq {G : Gm} {t u : TS} (h1 : SimS G E t ms) (h2 : SimS G E u mr) : SimS G E (tSeq t u) (sSeq ms mr) := by
  intro d σ' σ h D sr hr p
  refine h1 d σ' σ h _ sr hr ((Po.then p).imp fun d1 f h1 e1 hr1 p1 => ?_)
  cases f with
  | nx σ1 => exact fun σ2 sr2 => h2 d1 σ1 σ2 h1 D sr2 hr1 p1
  | rt w => exact p1.ok hr1
  | bk σ1 => exact p1.ok hr1
  | ct σ1 => exact p1.ok hr1
theorem xs_cons (h1 : XS Th X E st ms) (h2 : XSs Th X E rest mr) : XSs Th X E (st :: rest) (sSeq ms mr) := by
  obtain ⟨t, p, s⟩ := h1
  obtain ⟨u, q, z⟩ := h2
  exact ⟨_, pss_cons p q, simSeq s z⟩
theorem xs_one (h1 : XS Th X E st ms) : XSs Th X E [st] ms := let ⟨t, p, s⟩ := h1; ⟨t, pss_one p, s⟩
def sSet (i : Nat) (m : EM) : SM := fun σ h => (m σ h).bind fun w h1 => .ok (.nx (σ.set i (some w))) h1
theorem simSet {G : Gm} {t : TE} {i : Nat} (s : SimE G E t me) : SimS G E (tAsg t (gName i)) (sSet i me) := by
  intro d σ' σ h D sr hr p
  refine s d σ' σ h _ sr hr ((Po.then p).imp fun d1 w h1 e1 hr1 p1 v r => ?_)
  exact p1.ok hr1 _ ((sr.mono e1).set i r)
theorem xs_set {i : Nat} {x : Str} {pos' : Pos} (hN : X.N.Nodup) (hi : X.N[i]? = some x) (hx : Loc X.env.scope x) (he : XE Th X E e me) (hs : swapsWith e (some (.Name x pos')) pos.line X.env = pure false := by rfl) (hf : X.fn x = true ∨ X.env.scope.names.lookup x = some .local := by first | exact .inl rfl | exact .inr rfl | assumption) :
    XS Th X E (.Assign [.Name x pos'] e pos) (sSet i me) := by
  obtain ⟨t, p, s⟩ := he
  exact ⟨_, ps_set hN hi hx p hs hf, simSet s⟩
def sExpr (m : EM) : SM := fun σ h => (m σ h).bind fun _ h1 => .ok (.nx σ) h1
theorem xs_expr (he : XE Th X E e me) (hs : swapsWith e none pos.line X.env = pure false := by rfl) : XS Th X E (.Expr e pos) (sExpr me) := by
  obtain ⟨t, p, s⟩ := he
  refine ⟨_, ps_expr p hs, fun d σ' σ h D sr hr p => ?_⟩
  exact s d σ' σ h _ sr hr ((Po.then p).imp fun d1 w h1 e1 hr1 p1 v r => p1.ok hr1 σ (sr.mono e1))
def sRet (m : EM) : SM := fun σ h => (m σ h).bind fun w h1 => .ok (.rt w) h1
theorem xs_ret (he : XE Th X E e me) : XS Th X E (.Return (some e) pos) (sRet me) := by
  obtain ⟨t, p, s⟩ := he
  refine ⟨_, ps_ret p, fun d σ' σ h D sr hr p => ?_⟩
  exact s d σ' σ h _ sr hr ((Po.then p).imp fun d1 w h1 e1 hr1 p1 v r => p1.ok hr1 v r)
def sRetN : SM := fun _ h => .ok (.rt .non) h
theorem xs_retN : XS Th X E (.Return none pos) sRetN := ⟨_, ps_retN, fun d σ' σ h D sr hr p => p.ok hr _ .non⟩
def sIf (t : TM) (m n : SM) : SM := fun σ h => (t σ h).bind fun c h1 => match c with
  | true => m σ h1
  | false => n σ h1
theorem xs_if {c : Expr} {a b : List Stmt} {ma mb : SM} (hc : XT Th X E c mt) (ha : XSs Th X E a ma) (hb : XSs Th X E b mb) : XS Th X E (.If c a b pos) (sIf mt ma mb) := by
  obtain ⟨t, p, s⟩ := hc
  obtain ⟨u, q, z⟩ := ha
  obtain ⟨u2, q2, z2⟩ := hb
  refine ⟨_, ps_if p q q2, fun d σ' σ h D sr hr p => ?_⟩
  refine s d σ' σ h _ sr hr ((Po.then p).imp fun d1 c h1 e1 hr1 p1 => ?_)
  cases c with
  | true => unfold QT; dsimp only; rw [if_pos rfl]; exact z d1 σ' σ h1 D (sr.mono e1) hr1 p1
  | false => unfold QT; dsimp only; rw [if_neg Bool.false_ne_true]; exact z2 d1 σ' σ h1 D (sr.mono e1) hr1 p1
def sPass : SM := sNil
def sBreak : SM := fun σ h => .ok (.bk σ) h
def sCont : SM := fun σ h => .ok (.ct σ) h
theorem xs_pass : XS Th X E (.Pass pos) sNil := ⟨_, ps_pass, fun d σ' σ h D sr hr p => p.ok hr σ sr⟩
theorem xs_break : XS Th X E (.Break pos) sBreak := ⟨_, ps_break, fun d σ' σ h D sr hr p => p.ok hr σ sr⟩
theorem xs_cont : XS Th X E (.Continue pos) sCont := ⟨_, ps_continue, fun d σ' σ h D sr hr p => p.ok hr σ sr⟩

/-! ### targets -/
abbrev GM := W → Sg → Hq → Re Sg
def SimG (G : Gm) (E : XK) (t : TG) (m : GM) : Prop := ∀ (d : Wd) (w : W) (v : V) (σ' : Sg) (σ : L2.St) (h : Hq) (Q : L2.St → Hp → Prop), VR G d.F d.ι w v → SR G d σ' σ → HR G d h → Po G E d (m w σ' h) (fun d1 σ1 _ => ∀ σ2, SR G d1 σ1 σ2 → Q σ2 d1.H) → t v σ d.H Q
structure XG (Th : Tabl) (X : Cx) (E : XK) (tg : Expr) (m : GM) : Prop where
  ex : ∃ t, PG X tg t ∧ SimG (Cx.G Th X) E t m
def gNm (i : Nat) : GM := fun w σ h => .ok (σ.set i (some w)) h
theorem xg_name {i : Nat} {x : Str} (hN : X.N.Nodup) (hi : X.N[i]? = some x) (hx : Loc X.env.scope x) (hf : X.fn x = true ∨ X.env.scope.names.lookup x = some .local := by first | exact .inl rfl | exact .inr rfl | assumption) : XG Th X E (.Name x pos) (gNm i) :=
  ⟨_, pg_name hN hi hx hf, fun d w v σ' σ h Q r sr hr p => p.ok hr _ (sr.set i r)⟩
abbrev GsM := List W → Sg → Hq → Re Sg
def SimGs (G : Gm) (E : XK) (t : TGs) (m : GsM) : Prop := ∀ (d : Wd) (w : List W) (v : List V) (σ' : Sg) (σ : L2.St) (h : Hq) (Q : L2.St → Hp → Prop), VRs G d.F d.ι w v → SR G d σ' σ → HR G d h → Po G E d (m w σ' h) (fun d1 σ1 _ => ∀ σ2, SR G d1 σ1 σ2 → Q σ2 d1.H) → t v σ d.H Q
structure XGs (Th : Tabl) (X : Cx) (E : XK) (tg : List Expr) (m : GsM) : Prop where
  ex : ∃ t, PGs X tg t ∧ SimGs (Cx.G Th X) E t m
def gsNil : GsM := fun ws σ h => match ws with
  | [] => .ok σ h
  | _ => .no
def gsCons (g : GM) (r : GsM) : GsM := fun ws σ h => match ws with
  | w :: ws => (g w σ h).bind fun σ1 h1 => r ws σ1 h1
  | [] => .no
theorem xgs_nil : XGs Th X E [] gsNil := by
  refine ⟨_, pgs_nil, fun d w v σ' σ h Q r sr hr p => ?_⟩
  cases r with
  | nil => exact ⟨rfl, p.ok hr σ sr⟩
  | cons _ _ => exact p.elim
theorem xgs_cons {es : List Expr} {g : GM} {r : GsM} (h1 : XG Th X E e g) (h2 : XGs Th X E es r) (hs : (assignEach (e :: es) X.env).map (·.2) = assign e X.env :: (assignEach es X.env).map (·.2) := by rfl) : XGs Th X E (e :: es) (gsCons g r) := by
  obtain ⟨t, p, s⟩ := h1
  obtain ⟨u, q, z⟩ := h2
  refine ⟨_, pgs_cons p q hs, fun d w v σ' σ h Q r sr hr p => ?_⟩
  cases r with
  | nil => exact p.elim
  | @cons w v ws vs r rr =>
    refine ⟨_, _, rfl, s d w v σ' σ h _ r sr hr ((Po.then p).imp fun d1 σ1 h1 e1 hr1 p1 σ2 sr2 => ?_)⟩
    exact z d1 ws vs σ1 σ2 h1 Q (rr.mono e1.F e1.ι) sr2 hr1 p1
def gTp (n : Nat) (r : GsM) : GM := fun w σ h => match w with
  | .tup ws => if ws.length = n then r ws σ h else .no
  | _ => .no
theorem xg_tup {es : List Expr} {k n : Nat} {r : GsM} (hc : X.calm = true) (h : XGs Th X E es r) (hn : (assignEach es X.env).length = n := by rfl) (hst : (assignEach es X.env).findIdx? (·.1) = none := by rfl) : XG Th X E (.Tuple es k pos) (gTp n r) := by
  obtain ⟨t, p, s⟩ := h
  refine ⟨_, pg_tup hc p hn hst, fun d w v σ' σ h Q r sr hr p => ?_⟩
  cases r with
  | @tup a ws vs q rs =>
    unfold gTp at p
    by_cases hl : ws.length = n
    · simp only [hl, if_true] at p
      exact ⟨a, vs, rfl, sqT_sub hr q, by rw [← rs.length]; exact hl, s d ws vs σ' σ h Q rs sr hr p⟩
    · simp only [hl, if_false] at p; exact p.elim
  | _ => exact p.elim
def sAsg (m : EM) (g : GM) : SM := fun σ h => (m σ h).bind fun w h1 => (g w σ h1).bind fun σ1 h2 => .ok (.nx σ1) h2
theorem xs_asg {tg : Expr} {g : GM} (he : XE Th X E e me) (hg : XG Th X E tg g) (hs : swapsWithSole [tg] e pos.line X.env = pure false := by rfl) (hw : swappedStores [tg] e X.env = pure none := by rfl)
    (h1 : (assignEach [tg] X.env).map (·.2) = [assign tg X.env] := by rfl) : XS Th X E (.Assign [tg] e pos) (sAsg me g) := by
  obtain ⟨t, p, s⟩ := he
  obtain ⟨u, q, z⟩ := hg
  refine ⟨_, ps_asg p q hs hw h1, fun d σ' σ h D sr hr p => ?_⟩
  refine s d σ' σ h _ sr hr ((Po.then p).imp fun d1 w h1 e1 hr1 p1 v r => ?_)
  refine z d1 w v σ' σ h1 _ r (sr.mono e1) hr1 ((Po.then p1).imp fun d2 σ1 h2 e2 hr2 p2 σ2 sr2 => ?_)
  exact p2.ok hr2 σ2 sr2
/-- a, b = e1, e2 -/
def sPar (i j : Nat) (m : AM) : SM := fun σ h => (m σ h).bind fun ws h1 => match ws with
  | [v, w] => .ok (.nx ((σ.set i (some v)).set j (some w))) h1
  | _ => .no
theorem xs_par {i j : Nat} {x y : Str} {a b : Expr} {am : AM} {px py pt : Pos} {kt k2 : Nat} {pt2 : Pos} (hc : X.calm = true) (hN : X.N.Nodup) (hi : X.N[i]? = some x) (hj : X.N[j]? = some y) (hij : i ≠ j)
    (hx : X.env.scope.names.lookup x = some .local) (hy : X.env.scope.names.lookup y = some .local) (ha : XA Th X E [a, b] am)
    (hw : swappedStores [.Tuple [.Name x px, .Name y py] kt pt] (.Tuple [a, b] k2 pt2) X.env = pure (some [x, y]))
    (hs : swapsWithSole [.Tuple [.Name x px, .Name y py] kt pt] (.Tuple [a, b] k2 pt2) pos.line X.env = pure false := by rfl) :
    XS Th X E (.Assign [.Tuple [.Name x px, .Name y py] kt pt] (.Tuple [a, b] k2 pt2) pos) (sPar i j am) := by
  obtain ⟨t, p, s⟩ := ha
  refine ⟨_, ps_par hc hN hi hj hij hx hy p hw hs, fun d σ' σ h D sr hr p => ?_⟩
  refine s d σ' σ h _ sr hr ((Po.then p).imp fun d1 ws h1 e1 hr1 p1 vs r => ?_)
  cases r with
  | nil => exact p1.elim
  | cons r1 r =>
    cases r with
    | nil => exact p1.elim
    | cons r2 r =>
      cases r with
      | nil => exact ⟨_, _, rfl, p1.ok hr1 _ (((sr.mono e1).set i r1).set j r2)⟩
      | cons _ _ => exact p1.elim
end

/-! ### what a def promises -/
abbrev FM := List W → Hq → Re W
def spM (G : Gm) (n : Nat) (m : FM) : Sp := fun vs H Q E => ∃ d h ws, H = d.H ∧ vs.length = n ∧ VRs G d.F d.ι ws vs ∧ HR G d h ∧ Po G E d (m ws h) (QE G Q)
/-- a def of the module that may be called by its name -/
structure Fn (Th : Tabl) (P : Program) (w : World) (K : PySem.W.Frag) (mg : Str → Option Value) (base : Heap) (k : Nat) (x : Str) (n : Nat) (m : FM) : Prop where
  ex : ∃ f fd ps, FnOk P w K mg base (L2.CX P w) k f fd ps (spM ⟨K, mg, Th, w⟩ n m) ∧ mg x = some (.ref f) ∧ PySem.W.keepIn K (.ref f) = true ∧ Binds K fd ps []
section
variable {Th : Tabl} {X : Cx} {E : XK} {e : Expr} {es : List Expr} {am : AM} {pos p : Pos} {x : Str} {k n : Nat} {m : FM}
def eCall (n : Nat) (m : FM) (am : AM) : EM := fun σ h => (am σ h).bind fun ws h1 => if ws.length = n then m ws h1 else .no
theorem xe_call (F : Fn Th X.prog X.w X.K X.mg X.base k x n m) (hr : Room k X.A) (tk : Tk X E) (hg : Gl X x) (ha : XA Th X E (e :: es) am) (hdb : (x == ("__debug__" : Str)) = false := by decide)
    (he : starEach (e :: es) X.env = (false, eval e X.env) :: starEach es X.env := by rfl) (hpl : (backTo pos (starEach es X.env)).any (·.1) = false := by rfl) : XE Th X E (.Call (.Name x p) (e :: es) [] pos) (eCall n m am) := by
  obtain ⟨f, fd, ps, F, hm, hk, hb⟩ := F
  obtain ⟨t, p, s⟩ := ha
  refine ⟨_, pe_callS (E := fun _ => E) F hr hg hm hk hb (fun σ => passAt tk σ) p hdb he hpl, fun d σ' σ h Q sr hr p => ?_⟩
  refine s d σ' σ h _ sr hr ((Po.then p).imp fun d1 ws h1 e1 hr1 p1 vs r => ?_)
  by_cases hl : ws.length = n
  · rw [if_pos hl] at p1
    exact ⟨d1, h1, ws, rfl, by rw [← r.length]; exact hl, r, hr1, p1⟩
  · rw [if_neg hl] at p1; exact p1.elim
def eCall0 (m : FM) : EM := fun _ h => (m [] h).quiet
theorem xe_call0 (F : Fn Th X.prog X.w X.K X.mg X.base k x 0 m) (hr : Room k X.A) (hg : Gl X x) (hdb : (x == ("__debug__" : Str)) = false := by decide) : XE Th X E (.Call (.Name x p) [] [] pos) (eCall0 m) := by
  obtain ⟨f, fd, ps, F, hm, hk, hb⟩ := F
  refine ⟨_, pe_call0 F hr hg hm hk hb .nil passL hdb, fun d σ' σ h Q sr hr p => ?_⟩
  exact ⟨d, h, [], rfl, rfl, .nil, hr, Po.quiet p⟩
/-- a def's body -/
def fBody (N n : Nat) (m : SM) : FM := fun ws h => if ws.length = n then (m (ws.map some ++ List.replicate (N - n) none) h).bind fun f h1 => match f with
  | .rt w => .ok w h1
  | .nx _ => .ok .non h1
  | _ => .no else .no
theorem sr_start {G : Gm} {d : Wd} {ws : List W} {vs : List V} {N : List Str} (r : VRs G d.F d.ι ws vs) : SR G d (ws.map some ++ List.replicate (N.length - ws.length) none) (L2.start N vs) := by
  refine ⟨by simp [L2.start, r.length], fun i w e => ?_⟩
  have hi : i < ws.length := by
    by_cases hi : i < ws.length
    · exact hi
    · rw [List.getElem?_append_right (by simp; omega)] at e
      obtain ⟨_, e'⟩ := List.getElem?_eq_some_iff.mp e
      simp at e'
  rw [List.getElem?_append_left (by simpa using hi)] at e
  rw [List.getElem?_map] at e
  cases q : ws[i]? with
  | none => rw [q] at e; cases e
  | some w' =>
    rw [q] at e
    have : w' = w := by simpa using e
    subst this
    obtain ⟨v, h1, h2⟩ := r.get q
    refine ⟨v, ?_, h2⟩
    unfold L2.start
    rw [List.getElem?_append_left (by rw [List.length_map, ← r.length]; exact hi), List.getElem?_map, h1]; rfl
end
section
variable {Th : Tabl} {P : Program} {w : World} {K : PySem.W.Frag} {mg : Str → Option Value} {base : Heap}
/-- THE RULE for a def -/
theorem fn_by {x qual : Str} {params : Arguments} {body : List Stmt} {scope : Scope} {f : Addr} {fd : FuncData} {N ps : List Str} {k : Nat} {m : SM} (F : FunD K x qual params body scope [] [] f fd) (S : FnScope N ps scope)
    (hbody : ∀ (cdv : Value) (A : Around) (outer : List Env) (s : Shared) (H : Hp) (E : XK), Room k (A.deeper (envOfC qual scope s.heap.objs.size f cdv)) → Tk (cxOf (L2.CX P w) P w K mg base N qual scope f cdv A outer s H E) E →
      XSs Th (cxOf (L2.CX P w) P w K mg base N qual scope f cdv A outer s H E) E body m) : FnOk P w K mg base (L2.CX P w) (k + 1) f fd ps (spM ⟨K, mg, Th, w⟩ ps.length (fBody N.length ps.length m)) := by
  refine F.ok S (fun vs H Q E h => ?_) (fun cdv A outer s H vs Q E hr h => ?_)
  · obtain ⟨d, h, ws, _, hl, _⟩ := h
    exact hl
  · obtain ⟨d, hq, ws, rfl, hl, r, hR, p⟩ := h
    obtain ⟨t, pt, st⟩ := hbody cdv A outer s d.H E hr (takes_of rfl rfl rfl rfl)
    refine ⟨t, pt, ?_⟩
    have hl' : ws.length = ps.length := by rw [r.length]; exact hl
    unfold fBody at p
    rw [if_pos hl'] at p
    have sr := sr_start (G := ⟨K, mg, Th, w⟩) (d := d) (N := N) r
    rw [hl'] at sr
    refine st d _ _ hq _ sr hR ((Po.then p).imp fun d1 f h1 e1 hr1 p1 => ?_)
    cases f with
    | nx σ1 => exact fun σ2 _ => p1.ok hr1 _ .non
    | rt w => exact p1.ok hr1
    | bk _ => exact p1.elim
    | ct _ => exact p1.elim
end
end Mo
end

section
set_option Elab.async false
set_option linter.all false
set_option autoImplicit false
set_option maxRecDepth 100000
set_option maxHeartbeats 1000000
namespace Mo
open PySem PySem.Spec PyProof.Rows L2

/-! ### data -/
def eqW : W → W → Bool
  | .non, .non => true
  | .bl a, .bl b => a == b
  | .bl a, .int b => (if a then 1 else 0) == b
  | .int a, .bl b => a == (if b then 1 else 0)
  | .int a, .int b => a == b
  | .str a, .str b => a == b
  | _, _ => false
def flatW : W → Bool
  | .non => true
  | .bl _ => true
  | .int _ => true
  | .str _ => true
  | _ => false
def keyW : W → Option Key
  | .int i => some (.inl i)
  | .str x => some (.inr x)
  | _ => none
section
variable {κ α : Type} [DecidableEq κ]
def kGet (kvs : List (κ × α)) (k : κ) : Option α := (kvs.find? fun kv => decide (kv.1 = k)).map (·.2)
def kPut (kvs : List (κ × α)) (k : κ) (v : α) : List (κ × α) :=
  if (kvs.any fun kv => decide (kv.1 = k)) = true then kvs.map (fun kv => if kv.1 = k then (kv.1, v) else kv) else kvs ++ [(k, v)]
def kDrop (kvs : List (κ × α)) (k : κ) : List (κ × α) := kvs.filter fun kv => decide (kv.1 ≠ k)
end
section
variable {κ : Type} [DecidableEq κ] {G : Gm} {F : Hp} {ι : List Addr}
theorem KR.length : ∀ {ws : List (κ × W)} {vs : List (κ × V)}, KR G F ι ws vs → ws.length = vs.length
  | _, _, .nil => rfl
  | _, _, .cons _ t => congrArg (· + 1) (KR.length t)
theorem KR.any {k : κ} : ∀ {ws : List (κ × W)} {vs : List (κ × V)}, KR G F ι ws vs → (ws.any fun kv => decide (kv.1 = k)) = (vs.any fun kv => decide (kv.1 = k))
  | _, _, .nil => rfl
  | _, _, .cons _ t => by rw [List.any_cons, List.any_cons, KR.any t]
theorem KR.get {k : κ} : ∀ {ws : List (κ × W)} {vs : List (κ × V)}, KR G F ι ws vs → (∀ w, kGet ws k = some w → ∃ v, valV vs k = some v ∧ VR G F ι w v) ∧ (kGet ws k = none → valV vs k = none)
  | _, _, .nil => ⟨fun w h => (nomatch h), fun _ => rfl⟩
  | (y, w) :: ws, (_, v) :: vs, .cons r t => by
    by_cases h : y = k
    · have e1 : kGet ((y, w) :: ws) k = some w := by simp [kGet, List.find?_cons, h]
      have e2 : valV ((y, v) :: vs) k = some v := valV_pos (p := (y, v)) h
      refine ⟨fun w' e => ?_, fun e => ?_⟩
      · rw [e1] at e; cases e; exact ⟨v, e2, r⟩
      · rw [e1] at e; cases e
    · have e1 : kGet ((y, w) :: ws) k = kGet ws k := by simp [kGet, List.find?_cons, h]
      have e2 : valV ((y, v) :: vs) k = valV vs k := valV_neg (p := (y, v)) h
      rw [e1, e2]; exact KR.get t
theorem KR.app : ∀ {ws : List (κ × W)} {vs : List (κ × V)} {us : List (κ × W)} {xs : List (κ × V)}, KR G F ι ws vs → KR G F ι us xs → KR G F ι (ws ++ us) (vs ++ xs)
  | _, _, _, _, .nil, q => q
  | _, _, _, _, .cons r t, q => .cons r (KR.app t q)
theorem KR.mapPut {k : κ} {w : W} {v : V} (r : VR G F ι w v) : ∀ {ws : List (κ × W)} {vs : List (κ × V)}, KR G F ι ws vs → KR G F ι (ws.map fun kv => if kv.1 = k then (kv.1, w) else kv) (vs.map fun kv => if kv.1 = k then (kv.1, v) else kv)
  | _, _, .nil => .nil
  | (y, _) :: _, (_, _) :: _, .cons q t => by
    rw [List.map_cons, List.map_cons]
    by_cases h : y = k
    · rw [if_pos h, if_pos h]; exact .cons r (KR.mapPut r t)
    · rw [if_neg h, if_neg h]; exact .cons q (KR.mapPut r t)
theorem KR.put {k : κ} {w : W} {v : V} {ws : List (κ × W)} {vs : List (κ × V)} (t : KR G F ι ws vs) (r : VR G F ι w v) : KR G F ι (kPut ws k w) (putK vs k v) := by
  unfold kPut putK
  rw [t.any]
  by_cases h : (vs.any fun kv => decide (kv.1 = k)) = true
  · rw [if_pos h, if_pos h]; exact t.mapPut r
  · rw [if_neg h, if_neg h]; exact t.app (.cons r .nil)
theorem KR.drop {k : κ} : ∀ {ws : List (κ × W)} {vs : List (κ × V)}, KR G F ι ws vs → KR G F ι (kDrop ws k) (dropK vs k)
  | _, _, .nil => .nil
  | (y, _) :: _, (_, _) :: _, .cons q t => by
    unfold kDrop dropK
    by_cases h : y = k
    · rw [List.filter_cons_of_neg (by simp [h]), List.filter_cons_of_neg (by simp [h])]; exact KR.drop t
    · rw [List.filter_cons_of_pos (by simp [h]), List.filter_cons_of_pos (by simp [h])]; exact .cons q (KR.drop t)
theorem VR.key {w : W} {v : V} {k : Key} (r : VR G F ι w v) (e : keyW w = some k) : v = kV k := by
  cases r <;> simp only [keyW, Option.some.injEq, reduceCtorEq] at e <;> subst e <;> rfl
theorem VR.kV (k : Key) : VR G F ι (match k with | .inl i => .int i | .inr x => .str x) (L2.kV k) := by
  cases k with
  | inl i => exact .int
  | inr x => exact .str
theorem VR.flat {w : W} {v : V} (r : VR G F ι w v) : flatW w = flatV v := by cases r <;> rfl
theorem VR.eq {a b : W} {x y : V} (r : VR G F ι a x) (q : VR G F ι b y) (f : flatW a = true) (g : flatW b = true) : eqW a b = eqV x y := by
  cases r <;> first
    | exact absurd (show false = true from f) Bool.false_ne_true
    | (cases q <;> first
        | exact absurd (show false = true from g) Bool.false_ne_true
        | rfl)
theorem VRs.flat : ∀ {ws : List W} {vs : List V}, VRs G F ι ws vs → ws.all flatW = vs.all flatV
  | _, _, .nil => rfl
  | _, _, .cons r t => by rw [List.all_cons, List.all_cons, r.flat, VRs.flat t]
def inW (x : W) (xs : List W) : Bool := xs.any fun y => eqW y x
theorem VRs.inV {a : W} {x : V} (q : VR G F ι a x) (g : flatW a = true) : ∀ {ws : List W} {vs : List V}, VRs G F ι ws vs → ws.all flatW = true → inW a ws = L2.inV x vs
  | _, _, .nil, _ => rfl
  | w :: ws, v :: vs, .cons r t, f => by
    have f' : flatW w = true ∧ ws.all flatW = true := by simpa using f
    have ih := VRs.inV q g t f'.2
    unfold inW L2.inV at ih ⊢
    rw [List.any_cons, List.any_cons, r.eq q f'.1 g, ih]
end
/-- data: none, bools, ints, texts, lists, tuples -/
def dat (h : Hq) : Nat → W → Option PyData
  | 0, _ => none
  | k + 1, w => match w with
    | .non => some .none
    | .bl b => some (.bool b)
    | .int i => some (.int i)
    | .str x => some (.str x)
    | .tup ws => (ws.mapM (dat h k)).map .tuple
    | .lst ws => (ws.mapM (dat h k)).map .list
    | .scr ws => (ws.mapM (dat h k)).map .list
    | .ref n => match h[n]? with
      | some (.lst ws) => (ws.mapM (dat h k)).map .list
      | _ => none
    | _ => none
theorem dat_dp {G : Gm} {d : Wd} {h : Hq} (hr : HR G d h) : ∀ (k : Nat) (w : W) (v : V) (x : PyData), VR G d.F d.ι w v → dat h k w = some x → Dp G.K d.H v x := by
  intro k
  induction k with
  | zero => intro w v x r e; cases e
  | succ k ih =>
    have all : ∀ (ws : List W) (vs : List V) (xs : List PyData), VRs G d.F d.ι ws vs → ws.mapM (dat h k) = some xs → DpAll G.K d.H vs xs := by
      intro ws
      induction ws with
      | nil =>
        intro vs xs r e
        cases r
        simp at e; subst e; exact .nil
      | cons w ws ihw =>
        intro vs xs r e
        cases r with
        | cons r t =>
          rw [List.mapM_cons] at e
          cases e1 : dat h k w with
          | none => rw [e1] at e; simp at e
          | some x =>
            cases e2 : ws.mapM (dat h k) with
            | none => rw [e1, e2] at e; simp at e
            | some ys =>
              rw [e1, e2] at e
              simp at e
              subst e
              exact .cons (ih w _ x r e1) (ihw _ ys t e2)
    intro w v x r e
    cases r with
    | non => simp only [dat, Option.some.injEq] at e; subst e; exact .non
    | bl => simp only [dat, Option.some.injEq] at e; subst e; exact .bl _
    | int => simp only [dat, Option.some.injEq] at e; subst e; exact .int _
    | str => simp only [dat, Option.some.injEq] at e; subst e; exact .str _
    | ty => cases e
    | @tup a ws vs s t =>
      simp only [dat, Option.map_eq_some_iff] at e
      obtain ⟨xs, e1, rfl⟩ := e
      exact .tup (sqT_sub hr s) (all ws vs xs t e1)
    | @lst a ws vs s t =>
      simp only [dat, Option.map_eq_some_iff] at e
      obtain ⟨xs, e1, rfl⟩ := e
      exact .lst (SqL.of (hr.sub _ _ s)) (all ws vs xs t e1)
    | @scr a ws vs s t =>
      simp only [dat, Option.map_eq_some_iff] at e
      obtain ⟨xs, e1, rfl⟩ := e
      exact .lst (sqL_sub hr s) (all ws vs xs t e1)
    | ins => cases e
    | @ref n a q =>
      obtain ⟨o, u, h1, h2, h3⟩ := hr.mem q
      simp only [dat, h1] at e
      cases h3 with
      | lst rs =>
        simp only [Option.map_eq_some_iff] at e
        obtain ⟨xs, e1, rfl⟩ := e
        exact .lst (SqL.of h2) (all _ _ xs rs e1)
      | _ => cases e
    | fn => cases e
    | kd => cases e
def datS (h : Hq) (w : W) : Option PyData := (dat h 8 w).bind fun x => if SeqAt.shaped x = true then some x else none
theorem datS_dp {G : Gm} {d : Wd} {h : Hq} (hr : HR G d h) {w : W} {v : V} {x : PyData} (r : VR G d.F d.ι w v) (e : datS h w = some x) : Dp G.K d.H v x ∧ SeqAt.shaped x = true := by
  unfold datS at e
  cases e1 : dat h 8 w with
  | none => rw [e1] at e; cases e
  | some y =>
    rw [e1] at e
    by_cases hs : SeqAt.shaped y = true
    · simp only [Option.bind_some, hs, if_true, Option.some.injEq] at e
      subst e
      exact ⟨dat_dp hr 8 w v y r e1, hs⟩
    · simp only [Option.bind_some, hs, if_false] at e; cases e

/-! ### operators -/
section
variable {Th : Tabl} {X : Cx} {E : XK} {a b c : Expr} {ma mb mc : EM} {pos : Pos}
def addW : OpM := fun x y h => match x, y with
  | .int i, .int j => .ok (.int (i + j)) h
  | .str i, .str j => if lim (i.length + j.length) = true then .ok (.str (i ++ j)) h else .no
  | .tup i, .tup j => if lim (i.length + j.length) = true then .ok (.tup (i ++ j)) h else .no
  | .lst i, .lst j => if lim (i.length + j.length) = true then .ok (.lst (i ++ j)) h else .no
  | _, _ => .no
/-- + of lists, a list of the little heap -/
def lsW (h : Hq) : W → Option (List W)
  | .lst xs => some xs
  | .ref n => match h[n]? with
    | some (.lst xs) => some xs
    | _ => none
  | _ => none
def addHW : OpM := fun x y h => match lsW h x, lsW h y with
  | some i, some j => if lim (i.length + j.length) = true then .ok (.ref h.length) (h ++ [.lst (i ++ j)]) else .no
  | _, _ => .no
/-- a new list that never changes, of any lists -/
def addLW : OpM := fun x y h => match lsW h x, lsW h y with
  | some i, some j => if lim (i.length + j.length) = true then .ok (.lst (i ++ j)) h else .no
  | _, _ => .no
theorem lsW_at {G : Gm} {d : Wd} {h : Hq} (hr : HR G d h) {w : W} {v : V} {ws : List W} (r : VR G d.F d.ι w v) (e : lsW h w = some ws) : ∃ a vs, v = .ref a ∧ d.H a = some (.lst vs) ∧ VRs G d.F d.ι ws vs := by
  cases r with
  | lst s t => simp only [lsW, Option.some.injEq] at e; subst e; exact ⟨_, _, rfl, hr.sub _ _ s, t⟩
  | @ref n a q =>
    obtain ⟨o, u, h1, h2, h3⟩ := hr.mem q
    simp only [lsW, h1] at e
    cases h3 with
    | lst rs => simp only [Option.some.injEq] at e; subst e; exact ⟨a, _, rfl, h2, rs⟩
    | _ => cases e
  | _ => cases e
theorem o_addI : XO Th X E (binaryOp .Add) (fun x y h => match x, y with | .int i, .int j => .ok (.int (i + j)) h | _, _ => .no) := by
  refine ⟨_, op_add, fun d a b x y h Q ra rb hr p => ?_⟩
  cases ra <;> first
    | exact p.elim
    | (cases rb <;> first
        | exact p.elim
        | exact ⟨_, _, rfl, rfl, p.ok hr _ .int⟩)
theorem o_addS : XO Th X E (binaryOp .Add) (fun x y h => match x, y with | .str i, .str j => if lim (i.length + j.length) = true then .ok (.str (i ++ j)) h else .no | _, _ => .no) := by
  refine ⟨_, op_add_str, fun d a b x y h Q ra rb hr p => ?_⟩
  cases ra <;> first
    | exact p.elim
    | (cases rb <;> first
        | exact p.elim
        | skip)
  rename_i i j
  by_cases hl : lim (i.length + j.length) = true
  · simp only [hl, if_true] at p
    exact ⟨_, _, rfl, rfl, lim_ok hl, p.ok hr _ .str⟩
  · simp only [hl, if_false] at p; exact p.elim
theorem o_addT : XO Th X E (binaryOp .Add) (fun x y h => match x, y with | .tup i, .tup j => if lim (i.length + j.length) = true then .ok (.tup (i ++ j)) h else .no | _, _ => .no) := by
  refine ⟨_, op_catA, fun d a b x y h Q ra rb hr p => ?_⟩
  cases ra <;> first
    | exact p.elim
    | skip
  rename_i p1 i xs s1 r1
  cases rb <;> first
    | exact p.elim
    | skip
  rename_i p2 j ys s2 r2
  by_cases hl : lim (i.length + j.length) = true
  · simp only [hl, if_true] at p
    refine ⟨_, _, _, _, rfl, rfl, sqT_sub hr s1, sqT_sub hr s2, by rw [← r1.length, ← r2.length]; exact lim_ok hl, fun e => ?_, fun _ e => ?_, fun _ _ q np => newT hr (r1.append r2) p q np⟩
    · subst e; cases r1
      exact p.ok hr _ (.tup s2 r2)
    · subst e; cases r2
      exact p.ok hr _ (.tup s1 (by simpa using r1))
  · simp only [hl, if_false] at p; exact p.elim
theorem o_addHW : XO Th X E (binaryOp .Add) addHW := by
  refine ⟨_, op_cat, fun d a b x y h Q ra rb hr p => ?_⟩
  unfold addHW at p
  cases e1 : lsW h a with
  | none => rw [e1] at p; exact p.elim
  | some i =>
    cases e2 : lsW h b with
    | none => rw [e1, e2] at p; exact p.elim
    | some j =>
      rw [e1, e2] at p
      obtain ⟨p1, xs, rfl, h1, r1⟩ := lsW_at hr ra e1
      obtain ⟨p2, ys, rfl, h2, r2⟩ := lsW_at hr rb e2
      by_cases hl : lim (i.length + j.length) = true
      · simp only [hl, if_true] at p
        exact ⟨_, _, _, _, rfl, rfl, h1, h2, by rw [← r1.length, ← r2.length]; exact lim_ok hl, fun q np => newO hr (.lst (r1.append r2)) p q np⟩
      · simp only [hl, if_false] at p; exact p.elim
theorem o_addLW : XO Th X E (binaryOp .Add) addLW := by
  refine ⟨_, op_cat, fun d a b x y h Q ra rb hr p => ?_⟩
  unfold addLW at p
  cases e1 : lsW h a with
  | none => rw [e1] at p; exact p.elim
  | some i =>
    cases e2 : lsW h b with
    | none => rw [e1, e2] at p; exact p.elim
    | some j =>
      rw [e1, e2] at p
      obtain ⟨p1, xs, rfl, h1, r1⟩ := lsW_at hr ra e1
      obtain ⟨p2, ys, rfl, h2, r2⟩ := lsW_at hr rb e2
      by_cases hl : lim (i.length + j.length) = true
      · simp only [hl, if_true] at p
        exact ⟨_, _, _, _, rfl, rfl, h1, h2, by rw [← r1.length, ← r2.length]; exact lim_ok hl, fun q np => newL hr (r1.append r2) p q np⟩
      · simp only [hl, if_false] at p; exact p.elim
theorem o_add : XO Th X E (binaryOp .Add) addW := by
  refine XO.or o_addI (XO.or o_addS (XO.or o_addT o_addLW (m := fun x y h => match x, y with | .tup i, .tup j => if lim (i.length + j.length) = true then .ok (.tup (i ++ j)) h else .no | .lst i, .lst j => if lim (i.length + j.length) = true then .ok (.lst (i ++ j)) h else .no | _, _ => .no) ?_)
    (m := fun x y h => match x, y with | .str i, .str j => if lim (i.length + j.length) = true then .ok (.str (i ++ j)) h else .no | .tup i, .tup j => if lim (i.length + j.length) = true then .ok (.tup (i ++ j)) h else .no | .lst i, .lst j => if lim (i.length + j.length) = true then .ok (.lst (i ++ j)) h else .no | _, _ => .no) ?_) ?_
  · intro a b h
    cases a <;> cases b <;> first | exact .inl rfl | exact .inr rfl
  · intro a b h
    cases a <;> cases b <;> first | exact .inl rfl | exact .inr rfl
  · intro a b h
    cases a <;> cases b <;> first | exact .inl rfl | exact .inr rfl
def intOp (c : Int → Int → Bool) (f : Int → Int → Int) : OpM := fun x y h => match x, y with
  | .int i, .int j => if c i j = true then .ok (.int (f i j)) h else .no
  | _, _ => .no
theorem o_int {f : Value → Value → Sem Value} {C : Int → Int → Prop} {g : Int → Int → Int} {c : Int → Int → Bool} (ho : OpR X f (rI C fun i j => .int (g i j))) (hc : ∀ i j, c i j = true → C i j) : XO Th X E f (intOp c g) := by
  refine ⟨_, ho, fun d a b x y h Q ra rb hr p => ?_⟩
  cases ra <;> first
    | exact p.elim
    | (cases rb <;> first
        | exact p.elim
        | skip)
  rename_i i j
  by_cases hl : c i j = true
  · simp only [intOp, hl, if_true] at p
    exact ⟨_, _, rfl, rfl, hc _ _ hl, p.ok hr _ .int⟩
  · simp only [intOp, hl, if_false] at p; exact p.elim
def subW : OpM := fun x y h => match x, y with
  | .int i, .int j => .ok (.int (i - j)) h
  | _, _ => .no
theorem o_sub : XO Th X E (binaryOp .Sub) subW := by
  refine ⟨_, op_sub, fun d a b x y h Q ra rb hr p => ?_⟩
  cases ra <;> first
    | exact p.elim
    | (cases rb <;> first
        | exact p.elim
        | exact ⟨_, _, rfl, rfl, p.ok hr _ .int⟩)
def mulW : OpM := intOp (fun i j => (decide (-(2 ^ 64) < i) && decide (i < 2 ^ 64)) || (decide (-(2 ^ 64) < j) && decide (j < 2 ^ 64))) fun i j => i * j
theorem o_mul : XO Th X E (binaryOp .Mult) mulW := o_int op_mul fun i j h => by simpa [CMul] using h
def fdivW : OpM := intOp (fun _ j => decide (j ≠ 0) && decide (j.natAbs < 1073741824)) fun i j => i.fdiv j
theorem o_fdiv : XO Th X E (binaryOp .FloorDiv) fdivW := o_int op_fdivN fun i j h => by simpa [CDivN] using h
def modW : OpM := intOp (fun _ j => decide (j ≠ 0)) fun i j => i.fmod j
theorem o_mod : XO Th X E (binaryOp .Mod) modW := o_int op_modN fun i j h => by simpa using h
def powW : OpM := intOp (fun i j => decide (0 ≤ j) && decide (j ≤ 1000000) && decide (i.natAbs < 2 ^ 64)) fun i j => i ^ j.toNat
theorem o_pow : XO Th X E (binaryOp .Pow) powW := o_int op_pow fun i j h => by
  simp only [Bool.and_eq_true, decide_eq_true_eq] at h
  exact ⟨h.1.1, h.1.2, h.2⟩
/-- -a of an int -/
def eNeg (m : EM) : EM := fun σ h => (m σ h).bind fun w h1 => match w with
  | .int i => .ok (.int (-i)) h1
  | _ => .no
theorem xe_neg (ha : XE Th X E a ma) : XE Th X E (.UnaryOp .USub a pos) (eNeg ma) := by
  obtain ⟨t, p, s⟩ := ha
  refine ⟨_, pe_un un_neg p, fun d σ' σ h Q sr hr p => ?_⟩
  refine s d σ' σ h _ sr hr ((Po.then p).imp fun d1 w h1 e1 hr1 p1 v r => ?_)
  cases w <;> first
    | exact p1.elim
    | (cases r.int_of; exact ⟨_, rfl, p1.ok hr1 _ .int⟩)
/-! comparisons -/
def cmpI (f : Int → Int → Bool) : OpM := fun x y h => match x, y with
  | .int i, .int j => .ok (.bl (f i j)) h
  | _, _ => .no
theorem o_cmpI {op : CmpOp} {f : Int → Int → Bool} (ho : OpR X (compareOp op) (rI0 fun i j => .bl (f i j))) : XO Th X E (compareOp op) (cmpI f) := by
  refine ⟨_, ho, fun d a b x y h Q ra rb hr p => ?_⟩
  cases ra <;> first
    | exact p.elim
    | (cases rb <;> first
        | exact p.elim
        | exact ⟨_, _, rfl, rfl, p.ok hr _ .bl⟩)
theorem o_lt : XO Th X E (compareOp .Lt) (cmpI fun i j => decide (i < j)) := o_cmpI op_lt
theorem o_le : XO Th X E (compareOp .LtE) (cmpI fun i j => decide (i ≤ j)) := o_cmpI op_le
theorem o_gt : XO Th X E (compareOp .Gt) (cmpI fun i j => decide (j < i)) := o_cmpI op_gt
theorem o_ge : XO Th X E (compareOp .GtE) (cmpI fun i j => decide (j ≤ i)) := o_cmpI op_ge
def ltS : OpM := fun x y h => match x, y with
  | .str i, .str j => .ok (.bl (decide (i.cps.toList < j.cps.toList))) h
  | _, _ => .no
theorem o_ltS : XO Th X E (compareOp .Lt) ltS := by
  refine ⟨_, op_lt_str, fun d a b x y h Q ra rb hr p => ?_⟩
  cases ra <;> first
    | exact p.elim
    | (cases rb <;> first
        | exact p.elim
        | exact ⟨_, _, rfl, rfl, p.ok hr _ .bl⟩)
/-- == : flat values by themselves, other data as data -/
def eqD (neg : Bool) : OpM := fun x y h => match datS h x, datS h y with
  | some a, some b => .ok (.bl (if neg then !PyData.eqv a b else PyData.eqv a b)) h
  | _, _ => .no
theorem o_eqD {k : Nat} (hr : Room k X.A) : XO Th X E (compareOp .Eq) (eqD false) := by
  refine ⟨_, op_eqD hr.units, fun d a b x y h Q ra rb hr p => ?_⟩
  unfold eqD at p
  cases e1 : datS h a with
  | none => rw [e1] at p; exact p.elim
  | some i =>
    cases e2 : datS h b with
    | none => rw [e1, e2] at p; exact p.elim
    | some j =>
      rw [e1, e2] at p
      obtain ⟨d1, s1⟩ := datS_dp hr ra e1
      obtain ⟨d2, s2⟩ := datS_dp hr rb e2
      exact ⟨i, j, d1, d2, s1, s2, p.ok hr _ .bl⟩
theorem o_neD {k : Nat} (hr : Room k X.A) : XO Th X E (compareOp .NotEq) (eqD true) := by
  refine ⟨_, op_neD hr.units, fun d a b x y h Q ra rb hr p => ?_⟩
  unfold eqD at p
  cases e1 : datS h a with
  | none => rw [e1] at p; exact p.elim
  | some i =>
    cases e2 : datS h b with
    | none => rw [e1, e2] at p; exact p.elim
    | some j =>
      rw [e1, e2] at p
      obtain ⟨d1, s1⟩ := datS_dp hr ra e1
      obtain ⟨d2, s2⟩ := datS_dp hr rb e2
      exact ⟨i, j, d1, d2, s1, s2, p.ok hr _ .bl⟩
/-- == of scalars -/
def scalW : W → W → Bool
  | .non, .non => true | .non, .int _ => true | .int _, .non => true | .non, .bl _ => true | .bl _, .non => true | .non, .str _ => true | .str _, .non => true
  | .int _, .int _ => true | .bl _, .bl _ => true | .str _, .str _ => true
  | .int _, .str _ => true | .str _, .int _ => true | .bl _, .str _ => true | .str _, .bl _ => true
  | _, _ => false
def eqS (neg : Bool) : OpM := fun x y h => if scalW x y = true then .ok (.bl (if neg then !eqW x y else eqW x y)) h else .no
theorem scal_eq {G : Gm} {F : Hp} {ι : List Addr} {a b : W} {x y : V} (r : VR G F ι a x) (q : VR G F ι b y) (s : scalW a b = true) : scal x y = true ∧ decide (x = y) = eqW a b := by
  cases r <;> cases q <;> first
    | exact absurd (show false = true from s) Bool.false_ne_true
    | exact ⟨rfl, dec_int⟩
    | exact ⟨rfl, dec_bl⟩
    | exact ⟨rfl, dec_str⟩
    | exact ⟨rfl, rfl⟩
    | exact ⟨rfl, by simp [eqW]⟩
theorem o_eqS : XO Th X E (compareOp .Eq) (eqS false) := by
  refine ⟨_, op_eq, fun d a b x y h Q ra rb hr p => ?_⟩
  unfold eqS at p
  by_cases s : scalW a b = true
  · rw [if_pos s] at p
    obtain ⟨s1, s2⟩ := scal_eq ra rb s
    exact ⟨s1, by rw [s2]; exact p.ok hr _ .bl⟩
  · rw [if_neg s] at p; exact p.elim
theorem o_neS : XO Th X E (compareOp .NotEq) (eqS true) := by
  refine ⟨_, op_ne, fun d a b x y h Q ra rb hr p => ?_⟩
  unfold eqS at p
  by_cases s : scalW a b = true
  · rw [if_pos s] at p
    obtain ⟨s1, s2⟩ := scal_eq ra rb s
    exact ⟨s1, by rw [s2]; exact p.ok hr _ .bl⟩
  · rw [if_neg s] at p; exact p.elim
def eqA (neg : Bool) : OpM := fun x y h => if scalW x y = true then eqS neg x y h else eqD neg x y h
theorem o_eq {k : Nat} (hr : Room k X.A) : XO Th X E (compareOp .Eq) (eqA false) := XO.or o_eqS (o_eqD hr) fun a b h => by
  unfold eqA; by_cases s : scalW a b = true
  · exact .inl (if_pos s)
  · exact .inr (if_neg s)
theorem o_ne {k : Nat} (hr : Room k X.A) : XO Th X E (compareOp .NotEq) (eqA true) := XO.or o_neS (o_neD hr) fun a b h => by
  unfold eqA; by_cases s : scalW a b = true
  · exact .inl (if_pos s)
  · exact .inr (if_neg s)
/-- is None, is not None -/
def nonW : W → Bool
  | .non => true
  | _ => false
def isN (neg : Bool) : OpM := fun x y h => match y with
  | .non => .ok (.bl (if neg then !nonW x else nonW x)) h
  | _ => .no
theorem VR.isnon {G : Gm} {F : Hp} {ι : List Addr} {a : W} {x : V} (r : VR G F ι a x) : decide (x = V.non) = nonW a := by cases r <;> simp [nonW]
theorem o_isN : XO Th X E (compareOp .Is) (isN false) := by
  refine ⟨_, op_isN, fun d a b x y h Q ra rb hr p => ?_⟩
  cases rb <;> first
    | exact p.elim
    | skip
  refine ⟨rfl, ?_⟩
  rw [ra.isnon]
  exact p.ok hr _ .bl
theorem o_notN : XO Th X E (compareOp .IsNot) (isN true) := by
  refine ⟨_, op_notN, fun d a b x y h Q ra rb hr p => ?_⟩
  cases rb <;> first
    | exact p.elim
    | skip
  refine ⟨rfl, ?_⟩
  rw [ra.isnon]
  exact p.ok hr _ .bl
/-- is of two bools -/
def isB (neg : Bool) : OpM := fun x y h => match x, y with
  | .bl a, .bl b => .ok (.bl (if neg then !decide (a = b) else decide (a = b))) h
  | _, _ => .no
theorem o_isB : XO Th X E (compareOp .Is) (isB false) := by
  refine ⟨_, op_is_bl, fun d a b x y h Q ra rb hr p => ?_⟩
  cases ra <;> first
    | exact p.elim
    | (cases rb <;> first
        | exact p.elim
        | exact ⟨_, _, rfl, rfl, p.ok hr _ .bl⟩)
theorem o_notB : XO Th X E (compareOp .IsNot) (isB true) := by
  refine ⟨_, op_isnot_bl, fun d a b x y h Q ra rb hr p => ?_⟩
  cases ra <;> first
    | exact p.elim
    | (cases rb <;> first
        | exact p.elim
        | exact ⟨_, _, rfl, rfl, p.ok hr _ .bl⟩)
/-- in, not in: a tuple, a list of flat things; a dict -/
def itemsW (h : Hq) : W → Option (List W)
  | .tup xs => some xs
  | .lst xs => some xs
  | .scr xs => some xs
  | .ref n => match h[n]? with
    | some (.lst xs) => some xs
    | _ => none
  | _ => none
theorem itemsW_at {G : Gm} {d : Wd} {h : Hq} (hr : HR G d h) {w : W} {v : V} {ws : List W} (r : VR G d.F d.ι w v) (e : itemsW h w = some ws) : ∃ a vs, v = .ref a ∧ (SqL G.K d.H a vs ∨ SqT G.K d.H a vs) ∧ VRs G d.F d.ι ws vs := by
  cases r with
  | tup s t => simp only [itemsW, Option.some.injEq] at e; subst e; exact ⟨_, _, rfl, .inr (sqT_sub hr s), t⟩
  | lst s t => simp only [itemsW, Option.some.injEq] at e; subst e; exact ⟨_, _, rfl, .inl (SqL.of (hr.sub _ _ s)), t⟩
  | scr s t => simp only [itemsW, Option.some.injEq] at e; subst e; exact ⟨_, _, rfl, .inl (sqL_sub hr s), t⟩
  | @ref n a q =>
    obtain ⟨o, u, h1, h2, h3⟩ := hr.mem q
    simp only [itemsW, h1] at e
    cases h3 with
    | lst rs => simp only [Option.some.injEq] at e; subst e; exact ⟨a, _, rfl, .inl (SqL.of h2), rs⟩
    | _ => cases e
  | _ => cases e
def inQ (neg : Bool) : OpM := fun x y h => match itemsW h y with
  | some ws => if (flatW x && ws.all flatW) = true then .ok (.bl (if neg then !inW x ws else inW x ws)) h else .no
  | none => .no
theorem o_inQ : XO Th X E (compareOp .In) (inQ false) := by
  refine ⟨_, op_in_seq, fun d a b x y h Q ra rb hr p => ?_⟩
  unfold inQ at p
  cases e : itemsW h b with
  | none => rw [e] at p; exact p.elim
  | some ws =>
    rw [e] at p
    obtain ⟨q, vs, rfl, s, t⟩ := itemsW_at hr rb e
    by_cases f : (flatW a && ws.all flatW) = true
    · simp only [f, if_true] at p
      have f' := Bool.and_eq_true_iff.mp f
      exact ⟨q, vs, rfl, s, by rw [← ra.flat]; exact f'.1, by rw [← t.flat]; exact f'.2, by rw [← t.inV ra f'.1 f'.2]; exact p.ok hr _ .bl⟩
    · simp only [f, if_false] at p; exact p.elim
theorem o_notInQ : XO Th X E (compareOp .NotIn) (inQ true) := by
  refine ⟨_, op_notIn_seq, fun d a b x y h Q ra rb hr p => ?_⟩
  unfold inQ at p
  cases e : itemsW h b with
  | none => rw [e] at p; exact p.elim
  | some ws =>
    rw [e] at p
    obtain ⟨q, vs, rfl, s, t⟩ := itemsW_at hr rb e
    by_cases f : (flatW a && ws.all flatW) = true
    · simp only [f, if_true] at p
      have f' := Bool.and_eq_true_iff.mp f
      exact ⟨q, vs, rfl, s, by rw [← ra.flat]; exact f'.1, by rw [← t.flat]; exact f'.2, by rw [← t.inV ra f'.1 f'.2]; exact p.ok hr _ .bl⟩
    · simp only [f, if_false] at p; exact p.elim
def dkW (h : Hq) : W → Option (List (Key × W))
  | .ref n => match h[n]? with
    | some (.dK kvs) => some kvs
    | _ => none
  | _ => none
theorem dkW_at {G : Gm} {d : Wd} {h : Hq} (hr : HR G d h) {w : W} {v : V} {ws : List (Key × W)} (r : VR G d.F d.ι w v) (e : dkW h w = some ws) : ∃ n a vs, w = .ref n ∧ d.ι[n]? = some a ∧ h[n]? = some (.dK ws) ∧ v = .ref a ∧ d.H a = some (.dK vs) ∧ KR G d.F d.ι ws vs := by
  cases r with
  | @ref n a q =>
    obtain ⟨o, u, h1, h2, h3⟩ := hr.mem q
    simp only [dkW, h1] at e
    cases h3 with
    | dK rs => simp only [Option.some.injEq] at e; subst e; exact ⟨n, a, _, rfl, q, h1, rfl, h2, rs⟩
    | _ => cases e
  | _ => cases e
def inDk (neg : Bool) : OpM := fun x y h => match dkW h y, keyW x with
  | some kvs, some k => .ok (.bl (if neg then !(kGet kvs k).isSome else (kGet kvs k).isSome)) h
  | _, _ => .no
theorem kget_some {κ : Type} [DecidableEq κ] {G : Gm} {F : Hp} {ι : List Addr} {ws : List (κ × W)} {vs : List (κ × V)} (t : KR G F ι ws vs) (k : κ) : (kGet ws k).isSome = (valV vs k).isSome := by
  cases e : kGet ws k with
  | none => rw [t.get.2 e]; rfl
  | some w => obtain ⟨v, e', _⟩ := t.get.1 w e; rw [e']; rfl
theorem opr_in {k : Nat} (hr : Room k X.A) : OpR X (compareOp .In) (fun y x H Q => ∃ a o, x = .ref a ∧ DGet H a y o ∧ Q (.bl o.isSome) H) := by
  intro pins s σ H y x v u Q I ry rx h
  obtain ⟨a, o, rfl, g, q⟩ := h
  obtain rfl : u = Value.ref a := rx
  exact d_in (hu_of hr) I g ry fun s3 I3 => ⟨.bl o.isSome, H, I3, rfl, q⟩
theorem opr_notIn {k : Nat} (hr : Room k X.A) : OpR X (compareOp .NotIn) (fun y x H Q => ∃ a o, x = .ref a ∧ DGet H a y o ∧ Q (.bl (!o.isSome)) H) := by
  intro pins s σ H y x v u Q I ry rx h
  obtain ⟨a, o, rfl, g, q⟩ := h
  obtain rfl : u = Value.ref a := rx
  exact d_notIn (hu_of hr) I g ry fun s3 I3 => ⟨.bl (!o.isSome), H, I3, rfl, q⟩
theorem o_inDk {k : Nat} (hr : Room k X.A) : XO Th X E (compareOp .In) (inDk false) := by
  refine ⟨_, opr_in hr, fun d a b x y h Q ra rb hr p => ?_⟩
  unfold inDk at p
  cases e : dkW h b with
  | none => rw [e] at p; exact p.elim
  | some kvs =>
    cases e2 : keyW a with
    | none => rw [e, e2] at p; exact p.elim
    | some k =>
      rw [e, e2] at p
      obtain ⟨n, q, vs, rfl, _, _, rfl, h2, t⟩ := dkW_at hr rb e
      obtain rfl := ra.key e2
      exact ⟨q, _, rfl, DGet.k h2, by rw [← kget_some t]; exact p.ok hr _ .bl⟩
theorem o_notInDk {k : Nat} (hr : Room k X.A) : XO Th X E (compareOp .NotIn) (inDk true) := by
  refine ⟨_, opr_notIn hr, fun d a b x y h Q ra rb hr p => ?_⟩
  unfold inDk at p
  cases e : dkW h b with
  | none => rw [e] at p; exact p.elim
  | some kvs =>
    cases e2 : keyW a with
    | none => rw [e, e2] at p; exact p.elim
    | some k =>
      rw [e, e2] at p
      obtain ⟨n, q, vs, rfl, _, _, rfl, h2, t⟩ := dkW_at hr rb e
      obtain rfl := ra.key e2
      exact ⟨q, _, rfl, DGet.k h2, by rw [← kget_some t]; exact p.ok hr _ .bl⟩
def inA (neg : Bool) : OpM := fun x y h => match dkW h y with
  | some _ => inDk neg x y h
  | none => inQ neg x y h
theorem o_in {k : Nat} (hr : Room k X.A) : XO Th X E (compareOp .In) (inA false) := XO.or (o_inDk hr) o_inQ fun a b h => by
  unfold inA; cases dkW h b with
  | some _ => exact .inl rfl
  | none => exact .inr rfl
theorem o_notIn {k : Nat} (hr : Room k X.A) : XO Th X E (compareOp .NotIn) (inA true) := XO.or (o_notInDk hr) o_notInQ fun a b h => by
  unfold inA; cases dkW h b with
  | some _ => exact .inl rfl
  | none => exact .inr rfl
/-- a op b op c -/
def eChain (f g : OpM) (ma mb mc : EM) : EM := fun σ h => (ma σ h).bind fun x h1 => (mb σ h1).bind fun y h2 => (f x y h2).bind fun z h3 => match z with
  | .bl true => (mc σ h3).bind fun u h4 => g y u h4
  | .bl false => .ok (.bl false) h3
  | _ => .no
end
end Mo
end

section
set_option Elab.async false
set_option linter.all false
set_option autoImplicit false
set_option maxRecDepth 100000
set_option maxHeartbeats 1000000
namespace Mo
open PySem PySem.Spec PyProof.Rows L2

/-! ### subscripts -/
section
variable {Th : Tabl} {X : Cx} {E : XK} {a b c e o i : Expr} {ma mb mc me mo mi : EM} {pos pos' tpos : Pos}
structure XI (Th : Tabl) (X : Cx) (E : XK) (m : OpM) : Prop where
  ex : ∃ r, IxR X r ∧ SimO (Cx.G Th X) E r m
theorem XI.or {m m1 m2 : OpM} (h1 : XI Th X E m1) (h2 : XI Th X E m2) (hm : ∀ a b h, m a b h = m1 a b h ∨ m a b h = m2 a b h) : XI Th X E m := by
  obtain ⟨r1, o1, s1⟩ := h1
  obtain ⟨r2, o2, s2⟩ := h2
  refine ⟨_, IxR.or o1 o2, fun d a b x y h Q ra rb hr p => ?_⟩
  rcases hm a b h with e | e
  · rw [e] at p; exact .inl (s1 d a b x y h Q ra rb hr p)
  · rw [e] at p; exact .inr (s2 d a b x y h Q ra rb hr p)
theorem xe_ix {m : OpM} (hm : XI Th X E m) (ha : XE Th X E a ma) (hb : XE Th X E b mb) (hs : PlainIx b) : XE Th X E (.Subscript a b pos) (eOp m ma mb) := by
  obtain ⟨r, ro, so⟩ := hm
  obtain ⟨ta, pa, sa⟩ := ha
  obtain ⟨tb, pb, sb⟩ := hb
  exact ⟨_, pe_ix ro pa pb hs, simOp so sa sb⟩
theorem VRs.atI {G : Gm} {F : Hp} {ι : List Addr} {ws : List W} {vs : List V} {i : Int} {w : W} (r : VRs G F ι ws vs) (e : L2.atI ws i = some w) : ∃ v, L2.atI vs i = some v ∧ VR G F ι w v := by
  unfold L2.atI at e ⊢
  rw [r.length] at e
  cases q : ixN vs.length i with
  | none => rw [q] at e; cases e
  | some j =>
    rw [q] at e
    obtain ⟨v, h1, h2⟩ := r.get (i := j) (w := w) e
    exact ⟨v, h1, h2⟩
def ixW : OpM := fun x y h => match itemsW h x, y with
  | some ws, .int i => match L2.atI ws i with
    | some w => .ok w h
    | none => .no
  | _, _ => .no
theorem i_seq : XI Th X E ixW := by
  refine ⟨_, ix_list.or ix_tup, fun d a b x y h Q ra rb hr p => ?_⟩
  unfold ixW at p
  cases e : itemsW h a with
  | none => rw [e] at p; exact p.elim
  | some ws =>
    rw [e] at p
    obtain ⟨q, vs, rfl, s, t⟩ := itemsW_at hr ra e
    cases rb <;> first
      | exact p.elim
      | skip
    rename_i j
    cases e2 : L2.atI ws j with
    | none => simp only [e2] at p; exact p.elim
    | some w =>
      simp only [e2] at p
      obtain ⟨v, h1, h2⟩ := t.atI e2
      rcases s with s | s
      · exact .inl ⟨q, vs, j, v, rfl, rfl, s, h1, p.ok hr v h2⟩
      · exact .inr ⟨q, vs, j, v, rfl, rfl, s, h1, p.ok hr v h2⟩
theorem ixr_dict {k : Nat} (hr : Room k X.A) : IxR X (fun x y H Q => ∃ a v, x = .ref a ∧ DGet H a y (some v) ∧ Q v H) := by
  intro value slice pins s σ H x y v u Q I rx ry h hs
  obtain ⟨a, z, rfl, g, q⟩ := h
  obtain rfl : v = Value.ref a := rx
  exact tail_any (dict_typeIs I g) slot_dict_getitem.lookup (d_getItem (hu_of hr) I g ry fun w' s3 I3 rw' => ⟨z, H, I3, rw', q⟩) hs
def ixD : OpM := fun x y h => match dkW h x, keyW y with
  | some kvs, some k => match kGet kvs k with
    | some w => .ok w h
    | none => .no
  | _, _ => .no
theorem i_dict {k : Nat} (hr : Room k X.A) : XI Th X E ixD := by
  refine ⟨_, ixr_dict hr, fun d a b x y h Q ra rb hr p => ?_⟩
  unfold ixD at p
  cases e : dkW h a with
  | none => rw [e] at p; exact p.elim
  | some kvs =>
    cases e2 : keyW b with
    | none => rw [e, e2] at p; exact p.elim
    | some k =>
      rw [e, e2] at p
      obtain ⟨n, q, vs, rfl, _, _, rfl, h2, t⟩ := dkW_at hr ra e
      obtain rfl := rb.key e2
      cases e3 : kGet kvs k with
      | none => simp only [e3] at p; exact p.elim
      | some w =>
        simp only [e3] at p
        obtain ⟨v, h3, h4⟩ := t.get.1 w e3
        exact ⟨q, v, rfl, by rw [← h3]; exact DGet.k h2, p.ok hr v h4⟩
def ixA : OpM := fun x y h => match dkW h x with
  | some _ => ixD x y h
  | none => ixW x y h
theorem i_any {k : Nat} (hr : Room k X.A) : XI Th X E ixA := XI.or (i_dict hr) i_seq fun a b h => by
  unfold ixA; cases dkW h a with
  | some _ => exact .inl rfl
  | none => exact .inr rfl

/-! ### slices -/
abbrev PM := Sg → Hq → Re (Option Int)
structure XP (Th : Tabl) (X : Cx) (E : XK) (e : Option Expr) (m : PM) : Prop where
  ex : ∃ t, PO X e t ∧ ∀ (d : Wd) (σ' : Sg) (σ : L2.St) (h : Hq) (Q : Option Int → Hp → Prop), SR (Cx.G Th X) d σ' σ → HR (Cx.G Th X) d h → Po (Cx.G Th X) E d (m σ' h) (fun d1 k _ => Q k d1.H) → t σ d.H Q
def pNo : PM := fun _ h => .ok none h
def pSo (m : EM) : PM := fun σ h => (m σ h).bind fun w h1 => match w with
  | .int i => .ok (some i) h1
  | _ => .no
theorem xp_no : XP Th X E none pNo := ⟨_, po_none, fun d σ' σ h Q sr hr p => p.ok hr⟩
theorem xp_so (he : XE Th X E e me) : XP Th X E (some e) (pSo me) := by
  obtain ⟨t, p, s⟩ := he
  refine ⟨_, po_some p, fun d σ' σ h Q sr hr p => ?_⟩
  refine s d σ' σ h _ sr hr ((Po.then p).imp fun d1 w h1 e1 hr1 p1 v r => ?_)
  cases w <;> first
    | exact p1.elim
    | (cases r.int_of; exact ⟨_, rfl, p1.ok hr1⟩)
abbrev SlM := W → Option Int → Option Int → Hq → Re W
structure XSl (Th : Tabl) (X : Cx) (E : XK) (m : SlM) : Prop where
  ex : ∃ r, SlR X r ∧ ∀ (d : Wd) (w : W) (v : V) (lo hi : Option Int) (h : Hq) (Q : VK), VR (Cx.G Th X) d.F d.ι w v → HR (Cx.G Th X) d h → Po (Cx.G Th X) E d (m w lo hi h) (QE (Cx.G Th X) Q) → r v lo hi d.H Q
def eSl (f : SlM) (m : EM) (l u : PM) : EM := fun σ h => (m σ h).bind fun w h1 => (l σ h1).bind fun lo h2 => (u σ h2).bind fun hi h3 => f w lo hi h3
theorem xe_sl {f : SlM} {lo hi : Option Expr} {pl pu : PM} {p2 : Pos} (hf : XSl Th X E f) (he : XE Th X E e me) (hl : XP Th X E lo pl) (hu : XP Th X E hi pu) : XE Th X E (.Subscript e (.Slice lo hi none p2) pos) (eSl f me pl pu) := by
  obtain ⟨r, ro, so⟩ := hf
  obtain ⟨t, p, s⟩ := he
  obtain ⟨tl, pl, sl⟩ := hl
  obtain ⟨tu, pu, su⟩ := hu
  refine ⟨_, pe_slice ro p pl pu, fun d σ' σ h Q sr hr p => ?_⟩
  refine s d σ' σ h _ sr hr ((Po.then p).imp fun d1 w h1 e1 hr1 p1 v r => ?_)
  refine sl d1 σ' σ h1 _ (sr.mono e1) hr1 ((Po.then p1).imp fun d2 lo h2 e2 hr2 p2 => ?_)
  refine su d2 σ' σ h2 _ ((sr.mono e1).mono e2) hr2 ((Po.then p2).imp fun d3 hi h3 e3 hr3 p3 => ?_)
  exact so d3 w v lo hi h3 Q (r.mono (fun p o z => e3.F p o (e2.F p o z)) (e2.ι.trans e3.ι)) hr3 p3
def cutW (xs : List W) (lo hi : Option Int) : List W := (xs.drop (HT.sIx xs.length 0 lo)).take (HT.sIx xs.length xs.length hi - HT.sIx xs.length 0 lo)
theorem VRs.cut {G : Gm} {F : Hp} {ι : List Addr} {ws : List W} {vs : List V} (r : VRs G F ι ws vs) (lo hi : Option Int) : VRs G F ι (cutW ws lo hi) (cutV vs lo hi) := by
  unfold cutW cutV
  rw [r.length]
  exact (r.drop _).take _
def slT : SlM := fun w lo hi h => match w with
  | .tup ws => .ok (.tup (cutW ws lo hi)) h
  | _ => .no
theorem sl_T : XSl Th X E slT := by
  refine ⟨_, sl_tupA, fun d w v lo hi h Q r hr p => ?_⟩
  cases r <;> first
    | exact p.elim
    | skip
  rename_i q ws vs s t
  refine ⟨q, vs, rfl, sqT_sub hr s, fun z => ?_, fun _ p1 np => newT hr (t.cut lo hi) p p1 np⟩
  refine p.ok hr _ (.tup s ?_)
  have e : cutW ws lo hi = ws := by
    unfold cutW
    rw [t.length, z.1, z.2, List.drop_zero, Nat.sub_zero, ← t.length, List.take_length]
  rw [e]; exact t
/-- a list's slice: a list that never changes, or one of the little heap -/
def slL : SlM := fun w lo hi h => match w with
  | .lst ws => .ok (.lst (cutW ws lo hi)) h
  | .scr ws => .ok (.lst (cutW ws lo hi)) h
  | .ref n => match h[n]? with
    | some (.lst ws) => .ok (.lst (cutW ws lo hi)) h
    | _ => .no
  | _ => .no
def slH : SlM := fun w lo hi h => match w with
  | .lst ws => .ok (.ref h.length) (h ++ [.lst (cutW ws lo hi)])
  | .scr ws => .ok (.ref h.length) (h ++ [.lst (cutW ws lo hi)])
  | .ref n => match h[n]? with
    | some (.lst ws) => .ok (.ref h.length) (h ++ [.lst (cutW ws lo hi)])
    | _ => .no
  | _ => .no
theorem sl_L : XSl Th X E slL := by
  refine ⟨_, sl_list, fun d w v lo hi h Q r hr p => ?_⟩
  cases r <;> first
    | exact p.elim
    | skip
  · rename_i q ws vs s t
    exact ⟨q, vs, rfl, SqL.of (hr.sub _ _ s), fun p1 np => newL hr (t.cut lo hi) p p1 np⟩
  · rename_i q ws vs s t
    exact ⟨q, vs, rfl, sqL_sub hr s, fun p1 np => newL hr (t.cut lo hi) p p1 np⟩
  · rename_i n q z
    obtain ⟨o, u, h1, h2, h3⟩ := hr.mem z
    simp only [slL, h1] at p
    cases h3 with
    | lst t => exact ⟨q, _, rfl, SqL.of h2, fun p1 np => newL hr (t.cut lo hi) p p1 np⟩
    | _ => exact p.elim
theorem sl_H : XSl Th X E slH := by
  refine ⟨_, sl_list, fun d w v lo hi h Q r hr p => ?_⟩
  cases r <;> first
    | exact p.elim
    | skip
  · rename_i q ws vs s t
    exact ⟨q, vs, rfl, SqL.of (hr.sub _ _ s), fun p1 np => newO hr (.lst (t.cut lo hi)) p p1 np⟩
  · rename_i q ws vs s t
    exact ⟨q, vs, rfl, sqL_sub hr s, fun p1 np => newO hr (.lst (t.cut lo hi)) p p1 np⟩
  · rename_i n q z
    obtain ⟨o, u, h1, h2, h3⟩ := hr.mem z
    simp only [slH, h1] at p
    cases h3 with
    | lst t => exact ⟨q, _, rfl, SqL.of h2, fun p1 np => newO hr (.lst (t.cut lo hi)) p p1 np⟩
    | _ => exact p.elim

/-! ### stores -/
abbrev StM := W → W → W → Hq → Re Unit
structure XSt (Th : Tabl) (X : Cx) (E : XK) (m : StM) : Prop where
  ex : ∃ t, PSet X t ∧ ∀ (d : Wd) (o i v : W) (x y z : V) (h : Hq) (Q : Hp → Prop), VR (Cx.G Th X) d.F d.ι o x → VR (Cx.G Th X) d.F d.ι i y → VR (Cx.G Th X) d.F d.ι v z → HR (Cx.G Th X) d h → Po (Cx.G Th X) E d (m o i v h) (fun d1 _ _ => Q d1.H) → t x y z d.H Q
def gSb (f : StM) (mo mi : EM) : GM := fun w σ h => (mo σ h).bind fun o h1 => (mi σ h1).bind fun i h2 => (f o i w h2).bind fun _ h3 => .ok σ h3
theorem xg_sub {f : StM} (hf : XSt Th X E f) (ho : XE Th X E o mo) (hi : XE Th X E i mi)
    (ha : ∀ v, assign (.Subscript o i pos) X.env v = (do
      let ov ← holding [v] (eval o X.env)
      let iv ← holding [v, ov] (eval i X.env)
      standAt pos
      holding [v, ov, iv] (setItem ov iv v)
      release [v, ov, iv] []) := by intro _; rfl) : XG Th X E (.Subscript o i pos) (gSb f mo mi) := by
  obtain ⟨r, ro, so⟩ := hf
  obtain ⟨t, p, s⟩ := ho
  obtain ⟨u, q, z⟩ := hi
  refine ⟨_, pg_sub p q ro ha, fun d w v σ' σ h Q r sr hr p => ?_⟩
  refine s d σ' σ h _ sr hr ((Po.then p).imp fun d1 ow h1 e1 hr1 p1 ov r1 => ?_)
  refine z d1 σ' σ h1 _ (sr.mono e1) hr1 ((Po.then p1).imp fun d2 iw h2 e2 hr2 p2 iv r2 => ?_)
  refine so d2 ow iw w ov iv v h2 _ (r1.mono e2.F e2.ι) r2 (r.mono (e1.trans e2).F (e1.trans e2).ι) hr2 ((Po.then p2).imp fun d3 _ h3 e3 hr3 p3 => ?_)
  exact p3.ok hr3 σ (((sr.mono e1).mono e2).mono e3)
def stL : StM := fun o i v h => match o, i with
  | .ref n, .int k => match h[n]? with
    | some (.lst ws) => match ixN ws.length k with
      | some j => .ok () (h.set n (.lst (ws.set j v)))
      | none => .no
    | _ => .no
  | _, _ => .no
theorem st_list : XSt Th X E stL := by
  refine ⟨_, set_list, fun d o i v x y z h Q ro ri rv hr p => ?_⟩
  cases ro <;> first
    | exact p.elim
    | skip
  rename_i n q e
  cases ri <;> first
    | exact p.elim
    | skip
  rename_i k
  obtain ⟨ob, u, h1, h2, h3⟩ := hr.mem e
  simp only [stL, h1] at p
  cases h3 <;> first
    | exact p.elim
    | skip
  rename_i ws vs t
  cases e2 : ixN ws.length k with
  | none => simp only [e2] at p; exact p.elim
  | some j =>
    simp only [e2] at p
    refine ⟨q, vs, k, j, rfl, rfl, h2, by rw [← t.length]; exact e2, ?_⟩
    obtain ⟨x1, x2⟩ := hr.put (o := .lst (vs.set j z)) (o' := .lst (ws.set j v)) e h2 (fun _ _ w => by cases w) (.lst (VRs.set rv j t))
    exact p _ x1 x2
def stD : StM := fun o i v h => match o, keyW i with
  | .ref n, some k => match h[n]? with
    | some (.dK kvs) => if lim kvs.length = true then .ok () (h.set n (.dK (kPut kvs k v))) else .no
    | _ => .no
  | _, _ => .no
theorem st_dict {k : Nat} (hr : Room k X.A) : XSt Th X E stD := by
  refine ⟨_, set_dict (hu_of hr), fun d o i v x y z h Q ro ri rv hr p => ?_⟩
  cases ro <;> first
    | exact p.elim
    | skip
  rename_i n q e
  unfold stD at p
  cases ek : keyW i with
  | none => simp only [ek] at p; exact p.elim
  | some k =>
    obtain rfl := ri.key ek
    obtain ⟨ob, u, h1, h2, h3⟩ := hr.mem e
    simp only [ek, h1] at p
    cases h3 <;> first
      | exact p.elim
      | skip
    rename_i ws vs t
    by_cases hl : lim ws.length = true
    · simp only [hl, if_true] at p
      refine ⟨q, _, rfl, DPut.k h2 (by rw [← t.length]; exact lim_lt hl), ?_⟩
      obtain ⟨x1, x2⟩ := hr.put (o := .dK (putK vs k z)) (o' := .dK (kPut ws k v)) e h2 (fun _ _ w => by cases w) (.dK (t.put rv))
      exact p _ x1 x2
    · simp only [hl, if_false] at p; exact p.elim
def stA : StM := fun o i v h => match dkW h o with
  | some _ => stD o i v h
  | none => stL o i v h
theorem st_any {k : Nat} (hr : Room k X.A) : XSt Th X E stA := by
  obtain ⟨r1, o1, s1⟩ := st_dict (X := X) (E := E) hr
  obtain ⟨r2, o2, s2⟩ := st_list (X := X) (E := E)
  refine ⟨fun o i v H Q => r1 o i v H Q ∨ r2 o i v H Q, fun pins s σ H o i v ov iv u Q I ro ri rv q => ?_, fun d o i v x y z h Q ro ri rv hr p => ?_⟩
  · rcases q with q | q
    · exact o1 pins s σ H o i v ov iv u Q I ro ri rv q
    · exact o2 pins s σ H o i v ov iv u Q I ro ri rv q
  · unfold stA at p
    cases e : dkW h o with
    | some _ => rw [e] at p; exact .inl (s1 d o i v x y z h Q ro ri rv hr p)
    | none => rw [e] at p; exact .inr (s2 d o i v x y z h Q ro ri rv hr p)
/-- o[i] = e of a dict where the statement may swap -/
def sPutD (me mo mi : EM) : SM := fun σ h => (me σ h).bind fun w h1 => (mo σ h1).bind fun o h2 => (mi σ h2).bind fun i h3 => (stD o i w h3).bind fun _ h4 => .ok (.nx σ) h4

/-! ### attributes -/
/-- the classes cs know no f of their own -/
structure FlOk (K : PySem.W.Frag) (mg : Str → Option Value) (f : Str) (cs : List Str) : Prop where
  all : ∀ c ∈ cs, ∀ C, mg c = some (.ref C) → Cls K C ∧ NoAttr K C f
def insW (h : Hq) : W → Option (Str × List (Str × W))
  | .ins c fs => some (c, fs)
  | .ref n => match h[n]? with
    | some (.ins c fs) => some (c, fs)
    | _ => none
  | _ => none
theorem insW_at {G : Gm} {d : Wd} {h : Hq} (hr : HR G d h) {w : W} {v : V} {c : Str} {fs : List (Str × W)} (r : VR G d.F d.ι w v) (e : insW h w = some (c, fs)) : ∃ a C dx gs, v = .ref a ∧ d.H a = some (.ins C dx gs) ∧ G.mg c = some (.ref C) ∧ FRs G d.F d.ι fs gs := by
  cases r with
  | ins s m t => simp only [insW, Option.some.injEq, Prod.mk.injEq] at e; obtain ⟨rfl, rfl⟩ := e; exact ⟨_, _, _, _, rfl, hr.sub _ _ s, m, t⟩
  | @ref n a q =>
    obtain ⟨o, u, h1, h2, h3⟩ := hr.mem q
    simp only [insW, h1] at e
    cases h3 with
    | ins m t => simp only [Option.some.injEq, Prod.mk.injEq] at e; obtain ⟨rfl, rfl⟩ := e; exact ⟨a, _, _, _, rfl, h2, m, t⟩
    | _ => cases e
  | _ => cases e
def eFld (cs : List Str) (f : Str) (m : EM) : EM := fun σ h => (m σ h).bind fun w h1 => match insW h1 w with
  | some (c, fs) => if c ∈ cs then match fs.lookup f with
    | some v => .ok v h1
    | none => .no
    else .no
  | none => .no
theorem xe_fld {cs : List Str} {f : Str} (F : FlOk X.K X.mg f cs) (he : XE Th X E e me) (hb : attributeBase e f X.env (eval e X.env) = eval e X.env) : XE Th X E (.Attribute e f pos) (eFld cs f me) := by
  obtain ⟨t, p, s⟩ := he
  refine ⟨_, pe_fld p hb, fun d σ' σ h Q sr hr p => ?_⟩
  refine s d σ' σ h _ sr hr ((Po.then p).imp fun d1 w h1 e1 hr1 p1 v r => ?_)
  cases e : insW h1 w with
  | none => rw [e] at p1; exact p1.elim
  | some q =>
    obtain ⟨c, fs⟩ := q
    rw [e] at p1
    obtain ⟨a, C, dx, gs, rfl, h2, m, t⟩ := insW_at hr1 r e
    by_cases hc : c ∈ cs
    · simp only [hc, if_true] at p1
      cases el : fs.lookup f with
      | none => simp only [el] at p1; exact p1.elim
      | some w' =>
        simp only [el] at p1
        obtain ⟨v', l1, r1⟩ := t.look.1 w' el
        obtain ⟨k1, k2⟩ := F.all c hc C m
        exact ⟨a, C, dx, gs, v', rfl, h2, k1, k2, l1, p1.ok hr1 v' r1⟩
    · simp only [hc, if_false] at p1; exact p1.elim
def putFW (f : Str) (v : W) : List (Str × W) → List (Str × W)
  | [] => [(f, v)]
  | (g, x) :: r => if g = f then (g, v) :: r else (g, x) :: putFW f v r
theorem FRs.put {G : Gm} {F : Hp} {ι : List Addr} {f : Str} {w : W} {v : V} (q : VR G F ι w v) : ∀ {fs : List (Str × W)} {gs : List (Str × V)}, FRs G F ι fs gs → FRs G F ι (putFW f w fs) (putF f v gs)
  | _, _, .nil => .cons q .nil
  | (g, _) :: _, (_, _) :: _, .cons r t => by
    unfold putFW putF
    by_cases h : g = f
    · rw [if_pos h, if_pos h]; exact .cons q t
    · rw [if_neg h, if_neg h]; exact .cons r (FRs.put q t)
def stF (cs : List Str) (f : Str) (w : W) : W → Hq → Re Unit := fun o h => match o with
  | .ref n => match h[n]? with
    | some (.ins c fs) => if c ∈ cs ∧ fs.length < 100 then .ok () (h.set n (.ins c (putFW f w fs))) else .no
    | _ => .no
  | _ => .no
def sFldM (cs : List Str) (f : Str) (mo me : EM) : SM := fun σ h => (me σ h).bind fun w h1 => (mo σ h1).bind fun o h2 => (stF cs f w o h2).bind fun _ h3 => .ok (.nx σ) h3
theorem stF_sim {cs : List Str} {f : Str} {d : Wd} {o w : W} {x z : V} {h : Hq} {Q : Hp → Prop} (F : FlOk X.K X.mg f cs) (ro : VR (Cx.G Th X) d.F d.ι o x) (rw' : VR (Cx.G Th X) d.F d.ι w z) (hr : HR (Cx.G Th X) d h)
    (p : Po (Cx.G Th X) E d (stF cs f w o h) (fun d1 _ _ => Q d1.H)) : ∃ a C dx gs, x = .ref a ∧ d.H a = some (.ins C dx gs) ∧ Cls X.K C ∧ NoAttr X.K C f ∧ gs.length < 1000 ∧ Q (upd d.H a (.ins C dx (putF f z gs))) ∧ ∃ c ∈ cs, X.mg c = some (.ref C) := by
  cases ro <;> first
    | exact p.elim
    | skip
  rename_i n q e
  obtain ⟨ob, u, h1, h2, h3⟩ := hr.mem e
  simp only [stF, h1] at p
  cases h3 <;> first
    | exact p.elim
    | skip
  rename_i C dx c fs gs m t
  by_cases hc : c ∈ cs ∧ fs.length < 100
  · simp only [hc, and_self, if_true] at p
    obtain ⟨k1, k2⟩ := F.all c hc.1 C m
    refine ⟨q, C, dx, gs, rfl, h2, k1, k2, by rw [← t.length]; have := hc.2; omega, ?_, c, hc.1, m⟩
    obtain ⟨x1, x2⟩ := hr.put (o := .ins C dx (putF f z gs)) (o' := .ins c (putFW f w fs)) e h2 (fun _ _ w => by cases w) (.ins m (t.put rw'))
    exact p _ x1 x2
  · simp only [hc, if_false] at p; exact p.elim
theorem xs_fld {cs : List Str} {f : Str} (F : FlOk X.K X.mg f cs) (ho : XE Th X E o mo) (he : XE Th X E e me) (hs : swapsWith e (some (.Attribute o f pos')) pos.line X.env = pure false := by rfl) : XS Th X E (.Assign [.Attribute o f pos'] e pos) (sFldM cs f mo me) := by
  obtain ⟨t, p, s⟩ := he
  obtain ⟨u, q, z⟩ := ho
  refine ⟨_, ps_fld q p hs, fun d σ' σ h D sr hr p => ?_⟩
  refine s d σ' σ h _ sr hr ((Po.then p).imp fun d1 w h1 e1 hr1 p1 v r => ?_)
  refine z d1 σ' σ h1 _ (sr.mono e1) hr1 ((Po.then p1).imp fun d2 ow h2 e2 hr2 p2 ov r2 => ?_)
  obtain ⟨a, C, dx, gs, e3, e4, e5, e6, e7, e8, _⟩ := stF_sim (Q := fun H => D.nx σ H) F r2 (r.mono e2.F e2.ι) hr2 ((Po.then p2).imp fun d3 _ h3 e3 hr3 p3 => p3.ok hr3 σ (((sr.mono e1).mono e2).mono e3))
  exact ⟨a, C, dx, gs, e3, e4, e5, e6, e7, e8⟩
def sFldAugM (cs : List Str) (f : Str) (g : OpM) (mo me : EM) : SM := fun σ h => (mo σ h).bind fun o h1 => match insW h1 o with
  | some (c, fs) => if c ∈ cs then match fs.lookup f with
    | some v => (me σ h1).bind fun w h2 => (g v w h2).bind fun z h3 => (stF [c] f z o h3).bind fun _ h4 => .ok (.nx σ) h4
    | none => .no
    else .no
  | none => .no
theorem xs_fldaug {cs : List Str} {f : Str} {op : Operator} {g : OpM} (F : FlOk X.K X.mg f cs) (hg : XO Th X E (inplaceOp op) g) (ho : XE Th X E o mo) (he : XE Th X E e me) : XS Th X E (.AugAssign (.Attribute o f tpos) op e pos) (sFldAugM cs f g mo me) := by
  obtain ⟨r0, ro, so⟩ := hg
  obtain ⟨t, p, s⟩ := he
  obtain ⟨u, q, z⟩ := ho
  refine ⟨_, ps_fldaug q p (rd := r0) ro, fun d σ' σ h D sr hr p => ?_⟩
  refine z d σ' σ h _ sr hr ((Po.then p).imp fun d1 ow h1 e1 hr1 p1 ov r1 => ?_)
  cases e : insW h1 ow with
  | none => rw [e] at p1; exact p1.elim
  | some q =>
    obtain ⟨c, fs⟩ := q
    rw [e] at p1
    obtain ⟨a, C, dx, gs, rfl, h2, m, t⟩ := insW_at hr1 r1 e
    by_cases hc : c ∈ cs
    · simp only [hc, if_true] at p1
      cases el : fs.lookup f with
      | none => simp only [el] at p1; exact p1.elim
      | some w' =>
        simp only [el] at p1
        obtain ⟨v', l1, r2⟩ := t.look.1 w' el
        obtain ⟨k1, k2⟩ := F.all c hc C m
        refine ⟨a, C, dx, gs, v', rfl, h2, k1, k2, l1, ?_⟩
        refine s d1 σ' σ h1 _ (sr.mono e1) hr1 ((Po.then p1).imp fun d2 w h2 e2 hr2 p2 v r3 => ?_)
        refine so d2 w' w v' v h2 _ (r2.mono e2.F e2.ι) r3 hr2 ((Po.then p2).imp fun d3 zw h3 e3 hr3 p3 zv r4 => ?_)
        have F' : FlOk X.K X.mg f [c] := ⟨fun c' hc' C hC => by
          obtain rfl : c' = c := by simpa using hc'
          exact F.all c' hc C hC⟩
        obtain ⟨a', C', dx', gs', ea, h5, _, _, hl, q, c', hc', hm'⟩ := stF_sim (Q := fun H => D.nx σ H) F' (r1.mono (e2.trans e3).F (e2.trans e3).ι) r4 hr3 ((Po.then p3).imp fun d4 _ h4 e4 hr4 p4 => p4.ok hr4 σ ((((sr.mono e1).mono e2).mono e3).mono e4))
        cases ea
        obtain rfl : c' = c := by simpa using hc'
        have m' : X.mg c' = some (.ref C) := m
        rw [m'] at hm'
        cases hm'
        exact ⟨dx', gs', h5, hl, q⟩
    · simp only [hc, if_false] at p1; exact p1.elim
end
end Mo
end

section
set_option Elab.async false
set_option linter.all false
set_option autoImplicit false
set_option maxRecDepth 100000
set_option maxHeartbeats 1000000
namespace Mo
open PySem PySem.Spec PyProof.Rows L2

/-! ### calls of built-ins -/
abbrev CM := List W → Hq → Re W
structure XC (Th : Tabl) (X : Cx) (E : XK) (f : Value) (m : CM) : Prop where
  ex : ∃ r, CallR X f r ∧ ∀ (d : Wd) (ws : List W) (vs : List V) (h : Hq) (Q : VK), VRs (Cx.G Th X) d.F d.ι ws vs → HR (Cx.G Th X) d h → Po (Cx.G Th X) E d (m ws h) (QE (Cx.G Th X) Q) → r vs d.H Q
section
variable {Th : Tabl} {X : Cx} {E : XK} {a b c e o i : Expr} {es : List Expr} {am : AM} {ma mb mc me mo mi : EM} {pos pos' tpos p apos cpos : Pos} {x : Str}
def eCB (m : CM) (am : AM) : EM := fun σ h => (am σ h).bind fun ws h1 => m ws h1
theorem xe_callB {id : String} {m : CM} (hc : XC Th X E (.builtin id) m) (hg : Gl X x) (hm : X.mg x = none) (hv : bootBuiltins x = some (.builtin id)) (ha : XA Th X E (e :: es) am) (hn : x ≠ "__name__" := by decide) (hdb : (x == ("__debug__" : Str)) = false := by decide)
    (he : starEach (e :: es) X.env = (false, eval e X.env) :: starEach es X.env := by rfl) (hpl : (backTo pos (starEach es X.env)).any (·.1) = false := by rfl) : XE Th X E (.Call (.Name x p) (e :: es) [] pos) (eCB m am) := by
  obtain ⟨r, ro, so⟩ := hc
  obtain ⟨t, p, s⟩ := ha
  refine ⟨_, pe_callB ro hg hm hv p hn hdb he hpl, fun d σ' σ h Q sr hr p => ?_⟩
  exact s d σ' σ h _ sr hr ((Po.then p).imp fun d1 ws h1 e1 hr1 p1 vs r => so d1 ws vs h1 Q r hr1 p1)
theorem xe_callTy {T : String} {m : CM} (hc : XC Th X E (.type T) m) (hg : Gl X x) (hm : X.mg x = none) (hv : bootBuiltins x = some (.type T)) (ha : XA Th X E (e :: es) am) (hn : x ≠ "__name__" := by decide) (hdb : (x == ("__debug__" : Str)) = false := by decide)
    (he : starEach (e :: es) X.env = (false, eval e X.env) :: starEach es X.env := by rfl) (hpl : (backTo pos (starEach es X.env)).any (·.1) = false := by rfl) : XE Th X E (.Call (.Name x p) (e :: es) [] pos) (eCB m am) := by
  obtain ⟨r, ro, so⟩ := hc
  obtain ⟨t, p, s⟩ := ha
  refine ⟨_, pe_callTy ro hg hm hv p hn hdb he hpl, fun d σ' σ h Q sr hr p => ?_⟩
  exact s d σ' σ h _ sr hr ((Po.then p).imp fun d1 ws h1 e1 hr1 p1 vs r => so d1 ws vs h1 Q r hr1 p1)
theorem VRs.one {G : Gm} {F : Hp} {ι : List Addr} {w : W} {vs : List V} (r : VRs G F ι [w] vs) : ∃ v, vs = [v] ∧ VR G F ι w v := by
  cases r with
  | cons r t => cases t; exact ⟨_, rfl, r⟩
theorem VRs.two {G : Gm} {F : Hp} {ι : List Addr} {w u : W} {vs : List V} (r : VRs G F ι [w, u] vs) : ∃ v z, vs = [v, z] ∧ VR G F ι w v ∧ VR G F ι u z := by
  cases r with
  | cons r t =>
    obtain ⟨z, rfl, q⟩ := t.one
    exact ⟨_, z, rfl, r, q⟩
/-- len -/
def lenW (h : Hq) (w : W) : Option Nat := match w with
  | .str s => if lim s.length = true then some s.length else none
  | .ref n => match h[n]? with
    | some (.lst ws) => some ws.length
    | some (.dK kvs) => some kvs.length
    | _ => none
  | w => (itemsW h w).map List.length
def cLen : CM := fun ws h => match ws with
  | [w] => match lenW h w with
    | some n => .ok (.int (n : Nat)) h
    | none => .no
  | _ => .no
theorem callr_lenD : CallR X (.builtin "len") (fun xs H Q => ∃ a kvs, xs = [.ref a] ∧ H a = some (.dK kvs) ∧ Q (.int kvs.length) H) := by
  intro pins s σ H xs us Q I r h
  obtain ⟨a, kvs, rfl, e, q⟩ := h
  obtain rfl := Vals.ref1 r
  exact d_len I (.inl e) fun t s' I' => ⟨.int kvs.length, H, I', ⟨t, rfl⟩, q⟩
theorem c_len : XC Th X E (.builtin "len") cLen := by
  refine ⟨_, CallR.or callr_lenD call_len, fun d ws vs h Q r hr p => ?_⟩
  unfold cLen at p
  split at p
  · rename_i w
    obtain ⟨v, rfl, q⟩ := r.one
    cases q with
    | str =>
      rename_i s
      unfold lenW at p
      by_cases hl : lim s.length = true
      · simp only [hl, if_true] at p
        exact .inr ⟨_, _, rfl, ⟨lim_ok hl, rfl⟩, p.ok hr _ .int⟩
      · simp only [hl, if_false] at p; exact p.elim
    | tup s t =>
      simp only [lenW, itemsW, Option.map_some] at p
      exact .inr ⟨_, _, rfl, .inr ⟨_, sqT_sub hr s, rfl⟩, by rw [← t.length]; exact p.ok hr _ .int⟩
    | lst s t =>
      simp only [lenW, itemsW, Option.map_some] at p
      exact .inr ⟨_, _, rfl, .inl ⟨_, SqL.of (hr.sub _ _ s), rfl⟩, by rw [← t.length]; exact p.ok hr _ .int⟩
    | scr s t =>
      simp only [lenW, itemsW, Option.map_some] at p
      exact .inr ⟨_, _, rfl, .inl ⟨_, sqL_sub hr s, rfl⟩, by rw [← t.length]; exact p.ok hr _ .int⟩
    | ref e =>
      obtain ⟨o, u, h1, h2, h3⟩ := hr.mem e
      simp only [lenW, h1] at p
      cases h3 with
      | lst t => exact .inr ⟨_, _, rfl, .inl ⟨_, SqL.of h2, rfl⟩, by rw [← t.length]; exact p.ok hr _ .int⟩
      | dK t => exact .inl ⟨_, _, rfl, h2, by rw [← t.length]; exact p.ok hr _ .int⟩
      | _ => exact p.elim
    | _ => exact p.elim
  · exact p.elim
/-- int -/
def cInt : CM := fun ws h => match ws with
  | [.int i] => .ok (.int i) h
  | [.bl b] => .ok (.int (if b then 1 else 0)) h
  | _ => .no
theorem c_int : XC Th X E (.type "int") cInt := by
  refine ⟨_, call_int1, fun d ws vs h Q r hr p => ?_⟩
  unfold cInt at p
  split at p
  · obtain ⟨v, rfl, q⟩ := r.one
    obtain rfl := q.int_of
    exact .inl ⟨_, rfl, p.ok hr _ .int⟩
  · obtain ⟨v, rfl, q⟩ := r.one
    obtain rfl := q.bl_of
    exact .inr ⟨_, rfl, p.ok hr _ .int⟩
  · exact p.elim
/-- tuple(list), tuple(tuple) -/
def cTuple : CM := fun ws h => match ws with
  | [w] => match itemsW h w with
    | some xs => .ok (.tup xs) h
    | none => .no
  | _ => .no
theorem c_tuple : XC Th X E (.type "tuple") cTuple := by
  refine ⟨_, call_tuple_of, fun d ws vs h Q r hr p => ?_⟩
  unfold cTuple at p
  split at p
  · rename_i w
    obtain ⟨v, rfl, q⟩ := r.one
    cases e : itemsW h w with
    | none => rw [e] at p; exact p.elim
    | some xs =>
      rw [e] at p
      cases q with
      | tup s t =>
        simp only [itemsW, Option.some.injEq] at e
        subst e
        exact ⟨_, _, rfl, .inr ⟨sqT_sub hr s, p.ok hr _ (.tup s t)⟩⟩
      | lst s t =>
        simp only [itemsW, Option.some.injEq] at e
        subst e
        exact ⟨_, _, rfl, .inl ⟨SqL.of (hr.sub _ _ s), fun l np => newT hr t p l np⟩⟩
      | scr s t =>
        simp only [itemsW, Option.some.injEq] at e
        subst e
        exact ⟨_, _, rfl, .inl ⟨sqL_sub hr s, fun l np => newT hr t p l np⟩⟩
      | ref z =>
        obtain ⟨o, u, h1, h2, h3⟩ := hr.mem z
        simp only [itemsW, h1] at e
        cases h3 with
        | lst t =>
          simp only [Option.some.injEq] at e
          subst e
          exact ⟨_, _, rfl, .inl ⟨SqL.of h2, fun l np => newT hr t p l np⟩⟩
        | _ => cases e
      | _ => cases e
  · exact p.elim
def keyWV : Key → W
  | .inl i => .int i
  | .inr x => .str x
/-- list(list), list(tuple), list(dict): one that never changes, or one of the little heap -/
def listW (h : Hq) (w : W) : Option (List W) := match dkW h w with
  | some kvs => some (kvs.map fun kv => keyWV kv.1)
  | none => itemsW h w
def cList : CM := fun ws h => match ws with
  | [w] => match listW h w with
    | some xs => .ok (.lst xs) h
    | none => .no
  | _ => .no
def cListH : CM := fun ws h => match ws with
  | [w] => match listW h w with
    | some xs => .ok (.ref h.length) (h ++ [.lst xs])
    | none => .no
  | _ => .no
theorem KR.keys {G : Gm} {F : Hp} {ι : List Addr} : ∀ {ws : List (Key × W)} {vs : List (Key × V)}, KR G F ι ws vs → VRs G F ι (ws.map fun kv => keyWV kv.1) (vs.map fun kv => kV kv.1)
  | _, _, .nil => .nil
  | (k, _) :: _, _, .cons _ t => by
    rw [List.map_cons, List.map_cons]
    refine .cons ?_ (KR.keys t)
    cases k with
    | inl i => exact .int
    | inr x => exact .str
theorem listW_sim {d : Wd} {h : Hq} {w : W} {v : V} {xs : List W} {Z : Addr → List V → Prop} (hr : HR (Cx.G Th X) d h) (r : VR (Cx.G Th X) d.F d.ι w v) (e : listW h w = some xs) (k : ∀ vs, VRs (Cx.G Th X) d.F d.ι xs vs → ∀ q, d.H q = none → Z q vs) :
    (∃ a kvs, [v] = [.ref a] ∧ Rd d.H a (.dK kvs) ∧ ∀ p, d.H p = none → Z p (kvs.map fun kv => kV kv.1)) ∨ (∃ p ys, [v] = [.ref p] ∧ (SqL X.K d.H p ys ∨ SqT X.K d.H p ys) ∧ ∀ l, d.H l = none → Z l ys) := by
  unfold listW at e
  cases e1 : dkW h w with
  | some kvs =>
    rw [e1] at e
    simp only [Option.some.injEq] at e
    subst e
    obtain ⟨n, a, vs, rfl, _, _, rfl, h2, t⟩ := dkW_at hr r e1
    exact .inl ⟨a, vs, rfl, .inl h2, fun p np => k _ t.keys p np⟩
  | none =>
    rw [e1] at e
    obtain ⟨q, vs, rfl, s, t⟩ := itemsW_at hr r e
    exact .inr ⟨q, vs, rfl, s, fun l np => k vs t l np⟩
theorem c_list (hc : X.calm = true) : XC Th X E (.type "list") cList := by
  refine ⟨_, CallR.or (call_listD hc) call_list_of, fun d ws vs h Q r hr p => ?_⟩
  unfold cList at p
  split at p
  · rename_i w
    obtain ⟨v, rfl, q⟩ := r.one
    cases e : listW h w with
    | none => rw [e] at p; exact p.elim
    | some xs =>
      rw [e] at p
      exact listW_sim (Z := fun q vs => Q (.ref q) (upd d.H q (.lst vs))) hr q e fun vs t q np => newL hr t p q np
  · exact p.elim
theorem c_listH (hc : X.calm = true) : XC Th X E (.type "list") cListH := by
  refine ⟨_, CallR.or (call_listD hc) call_list_of, fun d ws vs h Q r hr p => ?_⟩
  unfold cListH at p
  split at p
  · rename_i w
    obtain ⟨v, rfl, q⟩ := r.one
    cases e : listW h w with
    | none => rw [e] at p; exact p.elim
    | some xs =>
      rw [e] at p
      exact listW_sim (Z := fun q vs => Q (.ref q) (upd d.H q (.lst vs))) hr q e fun vs t q np => newO hr (.lst t) p q np
  · exact p.elim
/-- dict(d) -/
def cDict : CM := fun ws h => match ws with
  | [w] => match dkW h w with
    | some kvs => .ok (.ref h.length) (h ++ [.dK kvs])
    | none => .no
  | _ => .no
theorem c_dict : XC Th X E (.type "dict") cDict := by
  refine ⟨_, call_dictD, fun d ws vs h Q r hr p => ?_⟩
  unfold cDict at p
  split at p
  · rename_i w
    obtain ⟨v, rfl, q⟩ := r.one
    cases e : dkW h w with
    | none => rw [e] at p; exact p.elim
    | some kvs =>
      rw [e] at p
      obtain ⟨n, a, vs, rfl, _, _, rfl, h2, t⟩ := dkW_at hr q e
      exact ⟨a, vs, rfl, .inl h2, fun q np => newO hr (.dK t) p q np⟩
  · exact p.elim
/-- all, any of a list of bools -/
def blsW : List W → Option (List Bool)
  | [] => some []
  | .bl b :: r => (blsW r).map (b :: ·)
  | _ => none
theorem blsW_at {G : Gm} {F : Hp} {ι : List Addr} : ∀ {ws : List W} {vs : List V} {bs : List Bool}, VRs G F ι ws vs → blsW ws = some bs → vs = bs.map V.bl
  | _, _, _, .nil, e => by simp only [blsW, Option.some.injEq] at e; subst e; rfl
  | w :: ws, v :: vs, bs, .cons r t, e => by
    cases r <;> first
      | (cases e; done)
      | skip
    simp only [blsW, Option.map_eq_some_iff] at e
    obtain ⟨cs, e1, rfl⟩ := e
    rw [blsW_at t e1]; rfl
def blistW (h : Hq) : W → Option (List W)
  | .lst xs => some xs
  | .ref n => match h[n]? with
    | some (.lst xs) => some xs
    | _ => none
  | _ => none
def cAll : CM := fun ws h => match ws with
  | [w] => match (lsW h w).bind blsW with
    | some bs => .ok (.bl (bs.all id)) h
    | none => .no
  | _ => .no
def cAny : CM := fun ws h => match ws with
  | [w] => match (lsW h w).bind blsW with
    | some bs => .ok (.bl (bs.any id)) h
    | none => .no
  | _ => .no
theorem c_all (hc : X.calm = true) : XC Th X E (.builtin "all") cAll := by
  refine ⟨_, cr_all hc, fun d ws vs h Q r hr p => ?_⟩
  unfold cAll at p
  split at p
  · rename_i w
    obtain ⟨v, rfl, q⟩ := r.one
    cases e : lsW h w with
    | none => rw [e] at p; exact p.elim
    | some xs =>
      cases e2 : blsW xs with
      | none => simp only [e, e2, Option.bind_some] at p; exact p.elim
      | some bs =>
        simp only [e, e2, Option.bind_some] at p
        obtain ⟨a, vs, rfl, h2, t⟩ := lsW_at hr q e
        rw [blsW_at t e2] at h2
        exact ⟨a, bs, rfl, SqL.of h2, p.ok hr _ .bl⟩
  · exact p.elim
theorem c_any (hc : X.calm = true) : XC Th X E (.builtin "any") cAny := by
  refine ⟨_, cr_any hc, fun d ws vs h Q r hr p => ?_⟩
  unfold cAny at p
  split at p
  · rename_i w
    obtain ⟨v, rfl, q⟩ := r.one
    cases e : lsW h w with
    | none => rw [e] at p; exact p.elim
    | some xs =>
      cases e2 : blsW xs with
      | none => simp only [e, e2, Option.bind_some] at p; exact p.elim
      | some bs =>
        simp only [e, e2, Option.bind_some] at p
        obtain ⟨a, vs, rfl, h2, t⟩ := lsW_at hr q e
        rw [blsW_at t e2] at h2
        exact ⟨a, bs, rfl, SqL.of h2, p.ok hr _ .bl⟩
  · exact p.elim
/-- isinstance of a built-in type, or one of a written tuple of them -/
def tyW (h : Hq) : W → Option String
  | .non => some "NoneType"
  | .bl _ => some "bool"
  | .int _ => some "int"
  | .str _ => some "str"
  | .tup _ => some "tuple"
  | .lst _ => some "list"
  | .scr _ => some "list"
  | .ref n => match h[n]? with
    | some (.lst _) => some "list"
    | some (.dK _) => some "dict"
    | _ => none
  | _ => none
/-- the answers that are known -/
def isaB (a b : String) : Option Bool :=
  if ["NoneType", "bool", "int", "str", "tuple", "list", "dict"].contains a && ["bool", "int", "str", "tuple", "list", "dict"].contains b then some (a == b || (a == "bool" && b == "int")) else none
theorem isaB_ok {K : PySem.W.Frag} {a b : String} {r : Bool} (h : isaB a b = some r) : PySem.W.kitOne K (.type a) (.type b) = some r := by
  refine kit_ty ?_
  unfold isaB at h
  split at h
  · rename_i hc
    simp only [Bool.and_eq_true, List.contains_eq_mem, List.mem_cons, List.not_mem_nil, or_false, decide_eq_true_eq] at hc
    obtain ⟨ha, hb⟩ := hc
    rcases ha with rfl | rfl | rfl | rfl | rfl | rfl | rfl <;> rcases hb with rfl | rfl | rfl | rfl | rfl | rfl <;>
      (simp only [Option.some.injEq] at h; subst h; decide +kernel)
  · cases h
theorem sqT_ty {K : PySem.W.Frag} {H : Hp} {a : Addr} {vs : List V} (s : SqT K H a vs) : TyX K H (.ref a) (.type "tuple") := by
  rcases s with (s | ⟨o, s⟩) | ⟨o, its, n, h1, h2, _⟩
  · exact .base (.tup s)
  · exact .fTuple s
  · exact .kTuple h1 h2
theorem sqL_ty {K : PySem.W.Frag} {H : Hp} {a : Addr} {vs : List V} (s : SqL K H a vs) : TyX K H (.ref a) (.type "list") := by
  rcases s with (s | ⟨o, s⟩) | ⟨o, its, n, h1, h2, _⟩
  · exact .base (.lst s)
  · exact .base (.frz s)
  · exact .kList h1 h2
theorem tyW_at {G : Gm} {d : Wd} {h : Hq} (hr : HR G d h) {w : W} {v : V} {T : String} (r : VR G d.F d.ι w v) (e : tyW h w = some T) : TyX G.K d.H v (.type T) := by
  cases r with
  | non => cases e; exact .base .non
  | bl => cases e; exact .base (.bl _)
  | int => cases e; exact .base (.int _)
  | str => cases e; exact .base (.str _)
  | tup s t => cases e; exact sqT_ty (sqT_sub hr s)
  | lst s t => cases e; exact .base (.lst (hr.sub _ _ s))
  | scr s t => cases e; exact sqL_ty (sqL_sub hr s)
  | ref z =>
    obtain ⟨o, u, h1, h2, h3⟩ := hr.mem z
    simp only [tyW, h1] at e
    cases h3 with
    | lst t => cases e; exact .base (.lst h2)
    | dK t => cases e; exact .base (.dK h2)
    | _ => cases e
  | _ => cases e
def cIsa : CM := fun ws h => match ws with
  | [w, .ty b] => match (tyW h w).bind fun a => isaB a b with
    | some r => .ok (.bl r) h
    | none => .no
  | _ => .no
theorem c_isa : XC Th X E (.builtin "isinstance") cIsa := by
  refine ⟨_, call_isi, fun d ws vs h Q r hr p => ?_⟩
  unfold cIsa at p
  split at p
  · rename_i w b
    obtain ⟨v, z, rfl, q1, q2⟩ := r.two
    cases q2
    cases e : tyW h w with
    | none => simp only [e, Option.bind_none] at p; exact p.elim
    | some a =>
      cases e2 : isaB a b with
      | none => simp only [e, e2, Option.bind_some] at p; exact p.elim
      | some k =>
        simp only [e, e2, Option.bind_some] at p
        exact ⟨v, .ty b, .type a, .type b, k, rfl, .ty b, tyW_at hr q1 e, isaB_ok e2, p.ok hr _ .bl⟩
  · exact p.elim
def isaL (a : String) : List String → Option Bool
  | [] => some false
  | b :: r => match isaB a b with
    | some true => some true
    | some false => isaL a r
    | none => none
theorem isaL_ok {K : PySem.W.Frag} {a : String} : ∀ {bs : List String} {r : Bool}, isaL a bs = some r → PySem.W.kitAny K (.type a) (bs.map Value.type) = some r
  | [], r, e => by
    simp only [isaL, Option.some.injEq] at e
    subst e
    exact kitAny_nil
  | b :: bs, r, e => by
    simp only [isaL] at e
    cases e1 : isaB a b with
    | none => rw [e1] at e; cases e
    | some x =>
      rw [e1] at e
      cases x with
      | true =>
        simp only [Option.some.injEq] at e
        subst e
        exact kitAny_cons (isaB_ok e1) (fun z => by cases z) (fun _ => rfl)
      | false => exact kitAny_cons (isaB_ok e1) (fun _ => isaL_ok e) (fun z => by cases z)
theorem pair_ty : ∀ bs : List String, Paired ClsV (bs.map V.ty) (bs.map Value.type)
  | [] => .nil
  | b :: bs => .cons (.ty b) (pair_ty bs)
/-- isinstance(e, (T, ..)) -/
def eIsaT (bs : List String) (m : EM) : EM := fun σ h => (m σ h).bind fun w h1 => match (tyW h1 w).bind fun a => isaL a bs with
  | some r => .ok (.bl r) h1
  | none => .no
/-- the written built-in types -/
structure XTys (X : Cx) (es : List Expr) (bs : List String) : Prop where
  ex : ∃ t, PA X es t ∧ ∀ σ H Q, Q (bs.map V.ty) H → t σ H Q
theorem xtys_nil : XTys X [] [] := ⟨_, pa_nil, fun _ _ _ q => q⟩
theorem xtys_cons {x : Str} {b : String} {bs : List String} {p : Pos} (hg : Gl X x) (hm : X.mg x = none) (hv : bootBuiltins x = some (.type b)) (ht : XTys X es bs) (hn : x ≠ "__name__" := by decide) (hd : (x == ("__debug__" : Str)) = false := by decide)
    (hs : starEach (.Name x p :: es) X.env = (false, eval (.Name x p) X.env) :: starEach es X.env := by rfl) : XTys X (.Name x p :: es) (b :: bs) := by
  obtain ⟨t, p, s⟩ := ht
  exact ⟨_, pa_cons (pe_bltn (v := .ty b) hg hm hv rfl hn hd) p hs, fun σ H Q q => s σ H _ q⟩
theorem xe_isaT {bs : List String} {k1 : Nat} {pt : Pos} (hg : Gl X "isinstance") (hm : X.mg "isinstance" = none) (he : XE Th X E e me) (ht : XTys X es bs) (hz : bs.length ≤ 10 := by decide)
    (h1 : starEach [e, .Tuple es k1 pt] X.env = (false, eval e X.env) :: starEach [.Tuple es k1 pt] X.env := by rfl) (h2 : starEach [.Tuple es k1 pt] X.env = (false, eval (.Tuple es k1 pt) X.env) :: starEach [] X.env := by rfl)
    (hpl : (backTo pos (starEach [.Tuple es k1 pt] X.env)).any (·.1) = false := by rfl) : XE Th X E (.Call (.Name "isinstance" p) [e, .Tuple es k1 pt] [] pos) (eIsaT bs me) := by
  obtain ⟨t, p, s⟩ := he
  obtain ⟨u, q, z⟩ := ht
  refine ⟨_, pe_callB call_isiT hg hm (by decide +kernel) (pa_cons p (pa_cons (pe_tup q) pa_nil h2) h1) (by decide) (by decide) h1 hpl, fun d σ' σ h Q sr hr p => ?_⟩
  refine s d σ' σ h _ sr hr ((Po.then p).imp fun d1 w h1 e1 hr1 p1 v r => ?_)
  refine z σ d1.H _ ⟨by rw [sizeLine_eq, List.length_map]; omega, fun a np => ?_⟩
  cases e : tyW h1 w with
  | none => simp only [e, Option.bind_none] at p1; exact p1.elim
  | some T =>
    cases e2 : isaL T bs with
    | none => simp only [e, e2, Option.bind_some] at p1; exact p1.elim
    | some k =>
      simp only [e, e2, Option.bind_some] at p1
      have x1 := ext_addF (.tup (bs.map V.ty)) np (hr1.fnone np)
      have x2 := hr1.addF (.tup (bs.map V.ty)) np
      refine ⟨v, a, bs.map V.ty, .type T, bs.map Value.type, k, rfl, upd_same, ?_, tyW_at x2 (r.mono x1.F x1.ι) e, isaL_ok e2, p1 _ x1 x2 _ .bl⟩
      exact pair_ty bs
/-- a built-in type as a value -/
theorem xe_bty {x : Str} {b : String} (hg : Gl X x) (hm : X.mg x = none) (hv : bootBuiltins x = some (.type b)) (hn : x ≠ "__name__" := by decide) (hd : (x == ("__debug__" : Str)) = false := by decide) : XE Th X E (.Name x pos) (eC (.ty b)) :=
  ⟨_, pe_bltn (v := .ty b) hg hm hv rfl hn hd, simC fun _ _ => .ty⟩

/-! ### methods of built-ins -/
abbrev MM := W → List W → Hq → Re W
structure XM (Th : Tabl) (X : Cx) (E : XK) (id : String) (m : MM) : Prop where
  ex : ∃ r, MtR X id r ∧ ∀ (d : Wd) (w : W) (ws : List W) (v : V) (vs : List V) (h : Hq) (Q : VK), VR (Cx.G Th X) d.F d.ι w v → VRs (Cx.G Th X) d.F d.ι ws vs → HR (Cx.G Th X) d h → Po (Cx.G Th X) E d (m w ws h) (QE (Cx.G Th X) Q) → r v vs d.H Q
/-- the receiver is of the type -/
def rcvW (T : String) (h : Hq) : W → Bool
  | .str _ => T == "str"
  | .int _ => T == "int"
  | .lst _ => T == "list"
  | .scr _ => T == "list"
  | .ref n => match h[n]? with
    | some (.lst _) => T == "list"
    | some (.dK _) => T == "dict"
    | _ => false
  | _ => false
theorem rcvW_at {G : Gm} {d : Wd} {h : Hq} {T : String} (hr : HR G d h) {w : W} {v : V} (r : VR G d.F d.ι w v) (e : rcvW T h w = true) : tyV G.K T v d.H := by
  cases r with
  | str => exact beq_iff_eq.mp e
  | int => exact beq_iff_eq.mp e
  | lst s t => exact .inl ⟨beq_iff_eq.mp e, _, SqL.of (hr.sub _ _ s)⟩
  | scr s t => exact .inl ⟨beq_iff_eq.mp e, _, sqL_sub hr s⟩
  | ref z =>
    obtain ⟨o, u, h1, h2, h3⟩ := hr.mem z
    simp only [rcvW, h1] at e
    cases h3 with
    | lst t => exact .inl ⟨beq_iff_eq.mp e, _, SqL.of h2⟩
    | dK t => exact .inr (.inr (.inl ⟨beq_iff_eq.mp e, .inl ⟨_, h2⟩⟩))
    | _ => cases e
  | _ => cases e
def eBM (T : String) (m : MM) (mo : EM) (am : AM) : EM := fun σ h => (mo σ h).bind fun w h1 => if rcvW T h1 w = true then (am σ h1).bind fun ws h2 => m w ws h2 else .no
theorem xe_bm {T id : String} {name : Str} {m : MM} (pa : PlainAttrs T) (slot : Slot T name id) (hty : typeOf (.builtin id) = pure (.type "method_descriptor")) (hm : XM Th X E id m) (ho : XE Th X E o mo) (ha : XA Th X E (e :: es) am)
    (hbase : attributeBase o name X.env (eval o X.env) = eval o X.env := by rfl)
    (hfew : ((backTo cpos (starEach (e :: es) X.env)).all (fun x => !x.1) && (backToKw cpos (keywordEach [] X.env)).all (fun x => x.1.isSome)
      && decide ((e :: es).length + ([] : List Keyword).length + (if ([] : List Keyword).isEmpty then 0 else 1) < 30)) = true := by rfl)
    (hline : (apos.endLine == cpos.line) = true := by rfl) (hs : starEach (e :: es) X.env = (false, eval e X.env) :: starEach es X.env := by rfl) (hplain : (backTo cpos (starEach es X.env)).any (·.1) = false := by rfl) :
    XE Th X E (.Call (.Attribute o name apos) (e :: es) [] cpos) (eBM T m mo am) := by
  obtain ⟨r, ro, so⟩ := hm
  obtain ⟨t, p, s⟩ := ho
  obtain ⟨u, q, z⟩ := ha
  refine ⟨_, pe_bm pa slot hty ro p q hbase hfew hline hs hplain, fun d σ' σ h Q sr hr p => ?_⟩
  refine s d σ' σ h _ sr hr ((Po.then p).imp fun d1 w h1 e1 hr1 p1 v r => ?_)
  by_cases hT : rcvW T h1 w = true
  · rw [if_pos hT] at p1
    refine ⟨rcvW_at hr1 r hT, ?_⟩
    exact z d1 σ' σ h1 _ (sr.mono e1) hr1 ((Po.then p1).imp fun d2 ws h2 e2 hr2 p2 vs rs => so d2 w ws v vs h2 Q (r.mono e2.F e2.ι) rs hr2 p2)
  · rw [if_neg hT] at p1; exact p1.elim
theorem xe_bm0 {T id : String} {name : Str} {m : MM} (pa : PlainAttrs T) (slot : Slot T name id) (hty : typeOf (.builtin id) = pure (.type "method_descriptor")) (hm : XM Th X E id m) (ho : XE Th X E o mo)
    (hbase : attributeBase o name X.env (eval o X.env) = eval o X.env := by rfl) (hline : (apos.endLine == cpos.line) = true := by rfl) : XE Th X E (.Call (.Attribute o name apos) [] [] cpos) (eBM T m mo aNil) := by
  obtain ⟨r, ro, so⟩ := hm
  obtain ⟨t, p, s⟩ := ho
  refine ⟨_, pe_bm0 pa slot hty ro p hbase hline, fun d σ' σ h Q sr hr p => ?_⟩
  refine s d σ' σ h _ sr hr ((Po.then p).imp fun d1 w h1 e1 hr1 p1 v r => ?_)
  by_cases hT : rcvW T h1 w = true
  · rw [if_pos hT] at p1
    exact ⟨rcvW_at hr1 r hT, so d1 w [] v [] h1 Q r .nil hr1 p1⟩
  · rw [if_neg hT] at p1; exact p1.elim
/-- l.append(x) -/
def mAppend : MM := fun w ws h => match w, ws with
  | .ref n, [y] => match h[n]? with
    | some (.lst xs) => if lim xs.length = true then .ok .non (h.set n (.lst (xs ++ [y]))) else .no
    | _ => .no
  | _, _ => .no
theorem m_append : XM Th X E "list.append" mAppend := by
  refine ⟨_, mt_append, fun d w ws v vs h Q r rs hr p => ?_⟩
  cases r <;> first
    | exact p.elim
    | skip
  rename_i n q e
  cases rs with
  | nil => exact p.elim
  | cons r1 rs =>
    cases rs with
    | cons _ _ => exact p.elim
    | nil =>
      obtain ⟨o, u, h1, h2, h3⟩ := hr.mem e
      simp only [mAppend, h1] at p
      cases h3 <;> first
        | exact p.elim
        | skip
      rename_i xs ys t
      by_cases hl : lim xs.length = true
      · simp only [hl, if_true] at p
        refine ⟨q, ys, _, rfl, rfl, h2, by rw [← t.length]; exact lim_lt hl, ?_⟩
        obtain ⟨x1, x2⟩ := hr.put e h2 (fun _ _ w => by cases w) (.lst (t.append (.cons r1 .nil)))
        exact p _ x1 x2 _ .non
      · simp only [hl, if_false] at p; exact p.elim
theorem ext_tup (l : Addr) (items : Array Value) (n : Nat) (b : Addr) (items2 : Array Value) (n2 : Nat) (dd : Option Addr) (sl : Array (Option Value)) (hs0 : ¬(!items.isEmpty && Builtin.List.listTooLong (items.size + items2.size)) = true) (hs1 : items.size ≤ sizeLine) (hs2 : items.size + items2.size ≤ sizeLine + 1) :
    Meets (Builtin.«list.extend» ⟨[.ref l, .ref b], []⟩) (fun _ R s => s.heap.get? l = some { cls := .type "list", dict := none, data := .seq items n, slots := #[] } ∧ s.heap.get? b = some { cls := .type "tuple", dict := dd, data := .seq items2 n2, slots := sl } ∧ R (.ok (.ret Value.none)) { s with heap := s.heap.update l (Obj.mapSeq fun x => x ++ items2), toks := s.toks }) :=
  .of_wp fun prog w A R s h => by
    obtain ⟨hp, g, d, tk, os⟩ := s; obtain ⟨hl, hb, h⟩ := h; have f1 := PySem.AutoSeq1.idx_int; have f2 := PySem.AutoSeq1.sub_tuple_tuple; have f3 := PySem.AutoSeq1.sub_list_list; have f4 := PySem.AutoSeq1.sub_tuple_list; have f5 := PySem.AutoSeq1.sub_list_tuple;
    have hz' : (items ++ items2).size ≤ sizeLine + 1 := by rw [Array.size_append]; exact hs2
    wp_walk using (wpAny_updateSeq hl rfl (hz := hs1) (_hz' := hz')), PySem.AutoSeq1.wpAny_loadPart' hl, PySem.AutoSeq1.wpAny_loadPart' hb; exact ⟨_, rfl, h⟩
def rExtendT (K : PySem.W.Frag) : V → List V → Hp → VK → Prop := fun x vs H Q => ∃ l b xs zs, x = .ref l ∧ vs = [.ref b] ∧ H l = some (.lst xs) ∧ SqT K H b zs ∧ xs.length + zs.length ≤ sizeLine ∧ Q .non (upd H l (.lst (xs ++ zs)))
theorem mt_extendT : MtR X "list.extend" (rExtendT X.K) := by
  intro pins s σ H x vs v us Q I rx rv h
  obtain ⟨l, b, xs, zs, rfl, rfl, hH, hB, hz, q⟩ := h
  cases rx
  obtain ⟨u, rfl, ru⟩ := rv.one
  cases ru
  obtain ⟨z, its, n, r, hl, e⟩ := I.lstM hH
  obtain ⟨its2, r2, ⟨⟨cl, dd, dt, sl⟩, e2, hc, n2, hd⟩, z2⟩ := I.tuple hB
  simp only at hc hd
  subst hc hd
  have hl2 := r2.length
  have hsz : its.toArray.size + its2.toArray.size ≤ sizeLine := by rw [List.size_toArray, List.size_toArray]; omega
  have hlong : ¬ (!its.toArray.isEmpty && Builtin.List.listTooLong (its.toArray.size + its2.toArray.size)) = true := by
    rw [notLongL hsz, Bool.and_false]
    exact Bool.false_ne_true
  refine call_meets F.slot_list_extend ⟨_, e, rfl⟩ F.entry_list_extend (F.args_list_extend_2 _ _)
    (ext_tup l its.toArray n b its2.toArray n2 dd sl hlong (by rw [List.size_toArray]; omega) (by omega)) ⟨e, e2, ?_⟩
  refine ⟨.non, _, I.lset (its' := its ++ its2) hH e (by simp) (r.append r2) ?_, rfl, q⟩
  rw [List.length_append]
  omega
/-- l.extend(list or tuple) -/
def mExtend : MM := fun w ws h => match w, ws with
  | .ref n, [y] => match h[n]? with
    | some (.lst xs) => match y with
      | .tup zs => if lim (xs.length + zs.length) = true then .ok .non (h.set n (.lst (xs ++ zs))) else .no
      | y => match lsW h y with
        | some zs => if lim (xs.length + zs.length) = true then .ok .non (h.set n (.lst (xs ++ zs))) else .no
        | none => .no
    | _ => .no
  | _, _ => .no
theorem m_extend : XM Th X E "list.extend" mExtend := by
  refine ⟨_, MtR.or mt_extendT mt_extend, fun d w ws v vs h Q r rs hr p => ?_⟩
  cases r <;> first
    | exact p.elim
    | skip
  rename_i n q e
  cases rs with
  | nil => exact p.elim
  | cons r1 rs =>
    cases rs with
    | cons _ _ => exact p.elim
    | nil =>
      obtain ⟨o, u, h1, h2, h3⟩ := hr.mem e
      simp only [mExtend, h1] at p
      cases h3 <;> first
        | exact p.elim
        | skip
      rename_i xs ys t
      have lst : ∀ (y : W) (v1 : V), VR (Cx.G Th X) d.F d.ι y v1 → Po (Cx.G Th X) E d (match lsW h y with
        | some zs => if lim (xs.length + zs.length) = true then .ok .non (h.set n (.lst (xs ++ zs))) else .no
        | none => .no) (QE (Cx.G Th X) Q) → rExtend (.ref q) [v1] d.H Q := by
        intro y v1 r1 p
        cases e2 : lsW h y with
        | none => rw [e2] at p; exact p.elim
        | some zs =>
          rw [e2] at p
          obtain ⟨b, us, rfl, g2, t2⟩ := lsW_at hr r1 e2
          by_cases hl : lim (xs.length + zs.length) = true
          · simp only [hl, if_true] at p
            refine ⟨q, b, ys, us, rfl, rfl, h2, g2, by rw [← t.length, ← t2.length]; exact lim_ok hl, ?_⟩
            obtain ⟨x1, x2⟩ := hr.put e h2 (fun _ _ w => by cases w) (.lst (t.append t2))
            exact p _ x1 x2 _ .non
          · simp only [hl, if_false] at p; exact p.elim
      cases r1 with
      | tup s t2 =>
        rename_i b zs us
        by_cases hl : lim (xs.length + zs.length) = true
        · simp only [hl, if_true] at p
          refine .inl ⟨q, b, ys, us, rfl, rfl, h2, sqT_sub hr s, by rw [← t.length, ← t2.length]; exact lim_ok hl, ?_⟩
          obtain ⟨x1, x2⟩ := hr.put e h2 (fun _ _ w => by cases w) (.lst (t.append t2))
          exact p _ x1 x2 _ .non
        · simp only [hl, if_false] at p; exact p.elim
      | non => exact .inr (lst _ _ .non p)
      | bl => exact .inr (lst _ _ .bl p)
      | int => exact .inr (lst _ _ .int p)
      | str => exact .inr (lst _ _ .str p)
      | ty => exact .inr (lst _ _ .ty p)
      | lst s t2 => exact .inr (lst _ _ (.lst s t2) p)
      | scr s t2 => exact .inr (lst _ _ (.scr s t2) p)
      | ins s m t2 => exact .inr (lst _ _ (.ins s m t2) p)
      | ref s => exact .inr (lst _ _ (.ref s) p)
      | fn s => exact .inr (lst _ _ (.fn s) p)
      | kd s1 s2 s3 s4 => exact .inr (lst _ _ (.kd s1 s2 s3 s4) p)
end

/-! ### own methods, records -/
section
variable {Th : Tabl} {X : Cx} {E : XK} {e o : Expr} {es : List Expr} {am : AM} {mo : EM} {pos p apos : Pos} {x mn : Str} {k n : Nat} {m : FM}
/-- a method of the class c: n arguments beside the receiver -/
structure Mt (Th : Tabl) (P : Program) (w : World) (K : PySem.W.Frag) (mg : Str → Option Value) (base : Heap) (k : Nat) (c mn : Str) (n : Nat) (m : FM) : Prop where
  ex : ∃ C f fd ps, FnOk P w K mg base (L2.CX P w) k f fd ps (spM ⟨K, mg, Th, w⟩ (n + 1) m) ∧ mg c = some (.ref C) ∧ Cls K C ∧ Meth K C mn f ∧ Binds K fd ps []
def eMeth (c mn : Str) (n : Nat) (m : FM) (mo : EM) (am : AM) : EM := fun σ h => (mo σ h).bind fun w h1 => match insW h1 w with
  | some (c', fs) => if c' = c ∧ fs.lookup mn = none then (am σ h1).bind fun ws h2 => if ws.length = n then (m (w :: ws) h2).quiet else .no else .no
  | none => .no
theorem xe_meth {c : Str} {pl : Sem Bool} (F : Mt Th X.prog X.w X.K X.mg X.base k c mn n m) (hr : Room k X.A) (ho : XE Th X E o mo) (ha : XA Th X E (e :: es) am)
    (hst : starEach (e :: es) X.env = (false, eval e X.env) :: starEach es X.env := by rfl) (hpl : (backTo pos (starEach es X.env)).any (·.1) = false := by rfl)
    (ht : eval (.Call (.Attribute o mn apos) (e :: es) [] pos) X.env = (do
      let ov ← eval o X.env
      standAt apos.atName
      let (f, first) ← holding [ov] (getMethod ov mn pl)
      callWith pos f first (backTo pos (starEach (e :: es) X.env)) (backToKw pos (keywordEach [] X.env))) := by rfl) : XE Th X E (.Call (.Attribute o mn apos) (e :: es) [] pos) (eMeth c mn n m mo am) := by
  obtain ⟨C, f, fd, ps, F, hm, cl, me, hb⟩ := F
  obtain ⟨t, p, s⟩ := ho
  obtain ⟨u, q, z⟩ := ha
  refine ⟨_, pe_meth p cl me F hr hb .nil passL q hst hpl ht, fun d σ' σ h Q sr hr p => ?_⟩
  refine s d σ' σ h _ sr hr ((Po.then p).imp fun d1 w h1 e1 hr1 p1 v r => ?_)
  cases e : insW h1 w with
  | none => rw [e] at p1; exact p1.elim
  | some q =>
    obtain ⟨c', fs⟩ := q
    rw [e] at p1
    by_cases hc : c' = c ∧ fs.lookup mn = none
    · simp only [hc, and_self, if_true] at p1
      obtain ⟨a, C', dx, gs, rfl, h2, m', t⟩ := insW_at hr1 r e
      obtain ⟨rfl, hn⟩ := hc
      have m'' : X.mg c' = some (.ref C') := m'
      rw [hm] at m''
      cases m''
      refine ⟨a, dx, gs, rfl, h2, t.look.2 hn, ?_⟩
      refine z d1 σ' σ h1 _ (sr.mono e1) hr1 ((Po.then p1).imp fun d2 ws h2 e2 hr2 p2 vs rs => ?_)
      by_cases hl : ws.length = n
      · rw [if_pos hl] at p2
        exact ⟨d2, h2, w :: ws, rfl, by simp [← rs.length, hl], .cons (r.mono e2.F e2.ι) (by simpa using rs), hr2, Po.quiet p2⟩
      · rw [if_neg hl] at p2; exact p2.elim
    · simp only [hc, if_false] at p1; exact p1.elim
def eMeth0 (c mn : Str) (m : FM) (mo : EM) : EM := fun σ h => (mo σ h).bind fun w h1 => match insW h1 w with
  | some (c', fs) => if c' = c ∧ fs.lookup mn = none then (m [w] h1).quiet else .no
  | none => .no
theorem xe_meth0 {c : Str} {pl : Sem Bool} (F : Mt Th X.prog X.w X.K X.mg X.base k c mn 0 m) (hr : Room k X.A) (ho : XE Th X E o mo)
    (ht : eval (.Call (.Attribute o mn apos) [] [] pos) X.env = (do
      let ov ← eval o X.env
      standAt apos.atName
      let (f, first) ← holding [ov] (getMethod ov mn pl)
      callWith pos f first (backTo pos (starEach [] X.env)) (backToKw pos (keywordEach [] X.env))) := by rfl) : XE Th X E (.Call (.Attribute o mn apos) [] [] pos) (eMeth0 c mn m mo) := by
  obtain ⟨C, f, fd, ps, F, hm, cl, me, hb⟩ := F
  obtain ⟨t, p, s⟩ := ho
  refine ⟨_, pe_meth0 p cl me F hr hb .nil passL ht, fun d σ' σ h Q sr hr p => ?_⟩
  refine s d σ' σ h _ sr hr ((Po.then p).imp fun d1 w h1 e1 hr1 p1 v r => ?_)
  cases e : insW h1 w with
  | none => rw [e] at p1; exact p1.elim
  | some q =>
    obtain ⟨c', fs⟩ := q
    rw [e] at p1
    by_cases hc : c' = c ∧ fs.lookup mn = none
    · simp only [hc, and_self, if_true] at p1
      obtain ⟨a, C', dx, gs, rfl, h2, m', t⟩ := insW_at hr1 r e
      obtain ⟨rfl, hn⟩ := hc
      have m'' : X.mg c' = some (.ref C') := m'
      rw [hm] at m''
      cases m''
      refine ⟨a, dx, gs, rfl, h2, t.look.2 hn, ?_⟩
      exact ⟨d1, h1, [w], rfl, rfl, .cons r .nil, hr1, Po.quiet p1⟩
    · simp only [hc, if_false] at p1; exact p1.elim
/-- an __init__ that stores its parameters one by one -/
def spRec (mg : Str → Option Value) (c : Str) (ns : List Str) : Sp := fun vs H Q _ => ∃ (x C dx : Addr) (us : List V), vs = .ref x :: us ∧ us.length = ns.length ∧ mg c = some (.ref C) ∧ H x = some (.ins C dx []) ∧ Q .non (upd H x (.ins C dx (ns.zip us)))
structure Rc (P : Program) (w : World) (K : PySem.W.Frag) (mg : Str → Option Value) (base : Heap) (k : Nat) (c : Str) (ns : List Str) : Prop where
  ex : ∃ C f fd ps, FnOk P w K mg base (L2.CX P w) k f fd ps (spRec mg c ns) ∧ mg c = some (.ref C) ∧ Mk K C f ∧ Binds K fd ps []
theorem frs_zip {G : Gm} {F : Hp} {ι : List Addr} : ∀ (ns : List Str) {ws : List W} {vs : List V}, VRs G F ι ws vs → FRs G F ι (ns.zip ws) (ns.zip vs)
  | [], _, _, _ => .nil
  | _ :: _, _, _, .nil => .nil
  | _ :: ns, _, _, .cons r t => .cons r (frs_zip ns t)
/-- a new record that never changes; one of the little heap -/
def eRec (c : Str) (ns : List Str) (am : AM) : EM := fun σ h => (am σ h).bind fun ws h1 => if ws.length = ns.length then .ok (.ins c (ns.zip ws)) h1 else .no
def eRecH (c : Str) (ns : List Str) (am : AM) : EM := fun σ h => (am σ h).bind fun ws h1 => if ws.length = ns.length then .ok (.ref h1.length) (h1 ++ [.ins c (ns.zip ws)]) else .no
theorem xe_rec {c : Str} {ns : List Str} (R : Rc X.prog X.w X.K X.mg X.base k c ns) (hr : Room (k + 1) X.A) (hg : Gl X c) (ha : XA Th X E (e :: es) am) (hdb : (c == ("__debug__" : Str)) = false := by decide)
    (he : starEach (e :: es) X.env = (false, eval e X.env) :: starEach es X.env := by rfl) (hpl : (backTo pos (starEach es X.env)).any (·.1) = false := by rfl) : XE Th X E (.Call (.Name c p) (e :: es) [] pos) (eRec c ns am) := by
  obtain ⟨C, f, fd, ps, F, hm, M, hb⟩ := R
  obtain ⟨t, p, s⟩ := ha
  refine ⟨_, pe_make M F hr hg hm hb .nil passL p hdb he hpl, fun d σ' σ h Q sr hr p => ?_⟩
  refine s d σ' σ h _ sr hr ((Po.then p).imp fun d1 ws h1 e1 hr1 p1 vs r => ?_)
  by_cases hl : ws.length = ns.length
  · rw [if_pos hl] at p1
    intro x dx nx ndx ne
    refine ⟨x, C, dx, vs, by simp, by rw [← r.length]; exact hl, hm, upd_same, rfl, ?_⟩
    have n1 : (upd d1.H dx (.own x)) x = none := by rw [upd_ne (Ne.symm ne)]; exact nx
    have g : d1.H dx = none := ndx
    have x0 : Ext d1 ⟨d1.F, d1.ι, upd d1.H dx (.own x)⟩ := ⟨List.prefix_refl _, fun _ _ z => z, fun q u z _ n => ⟨by show upd d1.H dx (.own x) q = some u; rw [upd_ne (ne_of_none z g)]; exact z, n, fun f => f⟩,
      fun q u z w => by show upd d1.H dx (.own x) q = _; rw [upd_ne (ne_of_none w g)]; exact w⟩
    have h0 : HR (Cx.G Th X) ⟨d1.F, d1.ι, upd d1.H dx (.own x)⟩ h1 := ⟨tabs_upd hr1.tabs g, hr1.ftab, hr1.len, hr1.nd, fun q u z => by show upd d1.H dx (.own x) q = some u; rw [upd_ne (ne_of_none (hr1.sub q u z) g)]; exact hr1.sub q u z, hr1.off,
      fun n a o z w => let ⟨u, y1, y2⟩ := hr1.obj n a o z w; ⟨u, by show upd d1.H dx (.own x) a = some u; rw [upd_ne (ne_of_none y1 g)]; exact y1, y2⟩⟩
    have x1 := ext_addF (d := ⟨d1.F, d1.ι, upd d1.H dx (.own x)⟩) (.ins C dx (ns.zip vs)) n1 (h0.fnone n1)
    have h2 := h0.addF (.ins C dx (ns.zip vs)) n1
    have q := p1 _ (x0.trans x1) h2 (.ref x) (.ins (C := C) (dx := dx) (gs := ns.zip vs) upd_same hm (frs_zip ns (r.mono (x0.trans x1).F (x0.trans x1).ι)))
    rw [upd_upd]
    exact q
  · rw [if_neg hl] at p1; exact p1.elim
theorem xe_recH {c : Str} {ns : List Str} (R : Rc X.prog X.w X.K X.mg X.base k c ns) (hr : Room (k + 1) X.A) (hg : Gl X c) (ha : XA Th X E (e :: es) am) (hdb : (c == ("__debug__" : Str)) = false := by decide)
    (he : starEach (e :: es) X.env = (false, eval e X.env) :: starEach es X.env := by rfl) (hpl : (backTo pos (starEach es X.env)).any (·.1) = false := by rfl) : XE Th X E (.Call (.Name c p) (e :: es) [] pos) (eRecH c ns am) := by
  obtain ⟨C, f, fd, ps, F, hm, M, hb⟩ := R
  obtain ⟨t, p, s⟩ := ha
  refine ⟨_, pe_make M F hr hg hm hb .nil passL p hdb he hpl, fun d σ' σ h Q sr hr p => ?_⟩
  refine s d σ' σ h _ sr hr ((Po.then p).imp fun d1 ws h1 e1 hr1 p1 vs r => ?_)
  by_cases hl : ws.length = ns.length
  · rw [if_pos hl] at p1
    intro x dx nx ndx ne
    refine ⟨x, C, dx, vs, by simp, by rw [← r.length]; exact hl, hm, upd_same, rfl, ?_⟩
    have n1 : (upd d1.H dx (.own x)) x = none := by rw [upd_ne (Ne.symm ne)]; exact nx
    have g : d1.H dx = none := ndx
    have x0 : Ext d1 ⟨d1.F, d1.ι, upd d1.H dx (.own x)⟩ := ⟨List.prefix_refl _, fun _ _ z => z, fun q u z _ n => ⟨by show upd d1.H dx (.own x) q = some u; rw [upd_ne (ne_of_none z g)]; exact z, n, fun f => f⟩,
      fun q u z w => by show upd d1.H dx (.own x) q = _; rw [upd_ne (ne_of_none w g)]; exact w⟩
    have h0 : HR (Cx.G Th X) ⟨d1.F, d1.ι, upd d1.H dx (.own x)⟩ h1 := ⟨tabs_upd hr1.tabs g, hr1.ftab, hr1.len, hr1.nd, fun q u z => by show upd d1.H dx (.own x) q = some u; rw [upd_ne (ne_of_none (hr1.sub q u z) g)]; exact hr1.sub q u z, hr1.off,
      fun n a o z w => let ⟨u, y1, y2⟩ := hr1.obj n a o z w; ⟨u, by show upd d1.H dx (.own x) a = some u; rw [upd_ne (ne_of_none y1 g)]; exact y1, y2⟩⟩
    have q := newO (d := ⟨d1.F, d1.ι, upd d1.H dx (.own x)⟩) (o' := .ins c (ns.zip ws)) (o := .ins C dx (ns.zip vs)) h0 (.ins hm (frs_zip ns r)) (Po.mono p1 x0) x n1
    rw [upd_upd]
    exact q
  · rw [if_neg hl] at p1; exact p1.elim
end
end Mo
end

section
set_option Elab.async false
set_option linter.all false
set_option autoImplicit false
set_option maxRecDepth 100000
set_option maxHeartbeats 1000000
namespace Mo
open PySem PySem.Spec PyProof.Rows L2

/-! ### what is walked -/
abbrev Cur := Hq → Option (List W)
abbrev IM := Sg → Hq → Re Cur
def ItR (G : Gm) (d0 : Wd) (J : It) (cur : Cur) : Prop := ∀ (d : Wd) (h : Hq) (ws : List W), Ext d0 d → HR G d h → cur h = some ws → ∀ i : Nat,
  (i < ws.length → J.go i d.H ∧ ∀ x H', J.yld i d.H x H' → ∃ d' w, H' = d'.H ∧ Ext d d' ∧ HR G d' h ∧ ws[i]? = some w ∧ VR G d'.F d'.ι w x) ∧ (ws.length ≤ i → J.stop i d.H)
structure XIt (Th : Tabl) (X : Cx) (E : XK) (tg iter : Expr) (m : IM) : Prop where
  ex : ∃ wi, PI X tg iter wi ∧ ∀ (d : Wd) (σ' : Sg) (σ : L2.St) (h : Hq) (R : It → Hp → Prop), SR (Cx.G Th X) d σ' σ → HR (Cx.G Th X) d h → Po (Cx.G Th X) E d (m σ' h) (fun d1 cur _ => ∀ J, ItR (Cx.G Th X) d1 J cur → R J d1.H) → wi σ d.H R
def loopM (cur : Cur) (g : GM) (body : SM) : Nat → Nat → Sg → Hq → Re Fl
  | 0, _, _, _ => .no
  | k + 1, i, σ, h => match cur h with
    | none => .no
    | some ws => match ws[i]? with
      | none => .ok (.nx σ) h
      | some w => (g w σ h).bind fun σ1 h1 => (body σ1 h1).bind fun f h2 => match f with
        | .nx σ2 => loopM cur g body k (i + 1) σ2 h2
        | .ct σ2 => loopM cur g body k (i + 1) σ2 h2
        | .bk σ2 => .ok (.nx σ2) h2
        | .rt w => .ok (.rt w) h2
def sFor (it : IM) (g : GM) (body : SM) : SM := fun σ h => (it σ h).bind fun cur h1 => match cur h1 with
  | some ws => loopM cur g body (ws.length + 1) 0 σ h1
  | none => .no
section
variable {Th : Tabl} {X : Cx} {E : XK} {tg iter e e2 : Expr} {body : List Stmt} {it : IM} {g : GM} {mb : SM} {me me2 : EM} {mt : TM} {am : AM} {pos p : Pos}
theorem xs_for (hp : PassesOwn (model X.prog X.w) X.A X.env X.xe) (hc : X.calm = true) (hi : XIt Th X E tg iter it) (hg : XG Th X E tg g) (hb : XSs Th X E body mb) (hs : ∀ x, foldedSetIterable iter X.env x = pure x := by intro _; rfl) : XS Th X E (.For tg iter body [] pos) (sFor it g mb) := by
  obtain ⟨wi, pi, si⟩ := hi
  obtain ⟨tg, pg, sg⟩ := hg
  obtain ⟨tb, pb, sb⟩ := hb
  refine ⟨_, ps_for hp hc pi pg pb hs, fun d σ' σ h D sr hr p => ?_⟩
  refine si d σ' σ h _ sr hr ((Po.then p).imp fun d1 cur h1 e1 hr1 p1 J hJ => ?_)
  cases ec : cur h1 with
  | none => rw [ec] at p1; exact p1.elim
  | some ws0 =>
    rw [ec] at p1
    refine ⟨fun i m σ H => ∃ d2 σ2' h2, H = d2.H ∧ Ext d1 d2 ∧ HR (Cx.G Th X) d2 h2 ∧ SR (Cx.G Th X) d2 σ2' σ ∧ Po (Cx.G Th X) E d2 (loopM cur g mb m i σ2' h2) (QS (Cx.G Th X) D), ⟨_, d1, σ', h1, rfl, Ext.refl _, hr1, sr.mono e1, p1⟩, ?_⟩
    rintro i m σ2 H ⟨d2, σ2', h2, rfl, x2, hr2, sr2, p2⟩
    cases m with
    | zero => exact p2.elim
    | succ m =>
      unfold loopM at p2
      cases e3 : cur h2 with
      | none => rw [e3] at p2; exact p2.elim
      | some ws =>
        simp only [e3] at p2
        obtain ⟨hgo, hstop⟩ := hJ d2 h2 ws x2 hr2 e3 i
        cases e4 : ws[i]? with
        | none =>
          simp only [e4] at p2
          exact .inl ⟨hstop (List.getElem?_eq_none_iff.mp e4), p2.ok hr2 _ sr2⟩
        | some w =>
          simp only [e4] at p2
          obtain ⟨go, yl⟩ := hgo (List.getElem?_eq_some_iff.mp e4).1
          refine .inr ⟨go, fun σ' H' => ∃ d3 σ3' h3, H' = d3.H ∧ Ext d1 d3 ∧ HR (Cx.G Th X) d3 h3 ∧ SR (Cx.G Th X) d3 σ3' σ' ∧ Po (Cx.G Th X) E d3 (loopM cur g mb m (i + 1) σ3' h3) (QS (Cx.G Th X) D), fun σ' H' q => ⟨m, Nat.lt_succ_self m, q⟩, fun x H' y => ?_⟩
          obtain ⟨d3, w', rfl, x3, hr3, ew, r3⟩ := yl x H' y
          rw [e4] at ew
          cases ew
          refine sg d3 w x σ2' σ2 h2 _ r3 (sr2.mono x3) hr3 ((Po.then (p2.mono x3)).imp fun d4 σ4' h4 x4 hr4 p4 σ4 sr4 => ?_)
          refine sb d4 σ4' σ4 h4 _ sr4 hr4 ((Po.then p4).imp fun d5 f h5 x5 hr5 p5 => ?_)
          have xx := ((x2.trans x3).trans x4).trans x5
          cases f with
          | nx σ5 => exact fun σ6 sr6 => ⟨d5, σ5, h5, rfl, xx, hr5, sr6, p5⟩
          | ct σ5 => exact fun σ6 sr6 => ⟨d5, σ5, h5, rfl, xx, hr5, sr6, p5⟩
          | bk σ5 => exact fun σ6 sr6 => p5.ok hr5 _ sr6
          | rt w => exact p5.ok hr5

/-! sources -/
def fixed (ws : List W) : Cur := fun _ => some ws
/-- a tuple -/
def iTp (m : EM) : IM := fun σ h => (m σ h).bind fun w h1 => match w with
  | .tup ws => .ok (fixed ws) h1
  | _ => .no
theorem getV {G : Gm} {F : Hp} {ι : List Addr} {ws : List W} {vs : List V} (t : VRs G F ι ws vs) {i : Nat} (hi : i < ws.length) : ∃ w v, ws[i]? = some w ∧ vs[i]? = some v ∧ VR G F ι w v := by
  obtain ⟨v, h1, h2⟩ := t.get (i := i) (w := ws[i]) (by simp [hi])
  exact ⟨_, v, by simp [hi], h1, h2⟩
theorem itr_tup {G : Gm} {d0 : Wd} {a : Addr} {ws : List W} {vs : List V} (s : SqT G.K d0.F a vs) (t : VRs G d0.F d0.ι ws vs) : ItR G d0 (Itt G.K a) (fixed ws) := by
  intro d h ws' x hr e i
  cases e
  have s2 := sqT_sub hr (sqT_mono x.F s)
  have t2 := t.mono x.F x.ι
  refine ⟨fun hi => ?_, fun hi => ⟨vs, s2, by rw [← t.length]; exact hi⟩⟩
  obtain ⟨w, v, h1, h2, h3⟩ := getV t2 hi
  refine ⟨⟨vs, v, s2, h2⟩, fun y H' q => ?_⟩
  obtain ⟨rfl, q⟩ := q
  have := q vs s2
  rw [h2] at this
  cases this
  exact ⟨d, w, rfl, Ext.refl _, hr, h1, h3⟩
theorem xi_tup (he : XE Th X E e me) : XIt Th X E tg e (iTp me) := by
  obtain ⟨t, p, s⟩ := he
  refine ⟨_, pi_tup p, fun d σ' σ h R sr hr p => ?_⟩
  refine s d σ' σ h _ sr hr ((Po.then p).imp fun d1 w h1 e1 hr1 p1 v r => ?_)
  cases r <;> first
    | exact p1.elim
    | skip
  rename_i a ws vs q t
  exact ⟨a, rfl, ⟨vs, sqT_sub hr1 q⟩, p1.ok hr1 _ (itr_tup q t)⟩
/-- a list -/
def cell (n : Nat) : Cur := fun h => match h[n]? with
  | some (.lst ws) => some ws
  | _ => none
def iLs (m : EM) : IM := fun σ h => (m σ h).bind fun w h1 => match w with
  | .lst ws => .ok (fixed ws) h1
  | .scr ws => .ok (fixed ws) h1
  | .ref n => match h1[n]? with
    | some (.lst _) => .ok (cell n) h1
    | _ => .no
  | _ => .no
theorem itr_lst {G : Gm} {d0 : Wd} {a : Addr} {ws : List W} {vs : List V} (s : SqL G.K d0.F a vs) (t : VRs G d0.F d0.ι ws vs) : ItR G d0 (Itl G.K a) (fixed ws) := by
  intro d h ws' x hr e i
  cases e
  have s2 := sqL_sub hr (sqL_mono x.F s)
  have t2 := t.mono x.F x.ι
  refine ⟨fun hi => ?_, fun hi => ⟨vs, s2, by rw [← t.length]; exact hi⟩⟩
  obtain ⟨w, v, h1, h2, h3⟩ := getV t2 hi
  refine ⟨⟨vs, v, s2, h2⟩, fun y H' q => ?_⟩
  obtain ⟨rfl, q⟩ := q
  have := q vs s2
  rw [h2] at this
  cases this
  exact ⟨d, w, rfl, Ext.refl _, hr, h1, h3⟩
theorem cell_at {G : Gm} {d0 d : Wd} {a : Addr} {n : Nat} {h : Hq} {ws : List W} (hn : d0.ι[n]? = some a) (x : Ext d0 d) (hr : HR G d h) (e : cell n h = some ws) : ∃ vs, d.H a = some (.lst vs) ∧ VRs G d.F d.ι ws vs := by
  obtain ⟨o, u, h1, h2, h3⟩ := hr.mem (pre_get x.ι hn)
  simp only [cell, h1] at e
  cases h3 with
  | lst t => simp only [Option.some.injEq] at e; subst e; exact ⟨_, h2, t⟩
  | _ => cases e
theorem lst_one {d : Wd} {a : Addr} {K : PySem.W.Frag} {vs us : List V} (h : d.H a = some (.lst vs)) (nf : ∀ o : Obj, ∀ u, d.H a ≠ some (.frz o u)) (q : Rd d.H a (.lst us)) : us = vs := by
  rcases q with q | ⟨o, q⟩
  · rw [h] at q; cases q; rfl
  · exact absurd q (nf _ _)
theorem itr_cell {G : Gm} {d0 : Wd} {a : Addr} {n : Nat} (hn : d0.ι[n]? = some a) : ItR G d0 (Itl G.K a) (cell n) := by
  intro d h ws x hr e i
  obtain ⟨vs, h2, t⟩ := cell_at hn x hr e
  refine ⟨fun hi => ?_, fun hi => ⟨vs, SqL.of h2, by rw [← t.length]; exact hi⟩⟩
  obtain ⟨w, v, g1, g2, g3⟩ := getV t hi
  refine ⟨⟨vs, v, SqL.of h2, g2⟩, fun y H' q => ?_⟩
  obtain ⟨rfl, q⟩ := q
  have := q vs (SqL.of h2)
  rw [g2] at this
  cases this
  exact ⟨d, w, rfl, Ext.refl _, hr, g1, g3⟩
theorem xi_list (he : XE Th X E e me) : XIt Th X E tg e (iLs me) := by
  obtain ⟨t, p, s⟩ := he
  refine ⟨_, pi_list p, fun d σ' σ h R sr hr p => ?_⟩
  refine s d σ' σ h _ sr hr ((Po.then p).imp fun d1 w h1 e1 hr1 p1 v r => ?_)
  cases r <;> first
    | exact p1.elim
    | skip
  · rename_i a ws vs q t
    exact ⟨a, rfl, ⟨vs, SqL.of (hr1.sub _ _ q)⟩, p1.ok hr1 _ (itr_lst (SqL.of q) t)⟩
  · rename_i a ws vs q t
    exact ⟨a, rfl, ⟨vs, sqL_sub hr1 q⟩, p1.ok hr1 _ (itr_lst q t)⟩
  · rename_i n a q
    obtain ⟨o, u, g1, g2, g3⟩ := hr1.mem q
    simp only [g1] at p1
    cases g3 <;> first
      | exact p1.elim
      | skip
    exact ⟨a, rfl, ⟨_, SqL.of g2⟩, p1.ok hr1 _ (itr_cell q)⟩
/-- range(n) -/
def iRg1 (m : AM) : IM := fun σ h => (m σ h).bind fun ws h1 => match ws with
  | [.int n] => if decide (-(2 ^ 62) ≤ n) && decide (n < 2 ^ 62) then .ok (fixed ((List.range n.toNat).map fun i => W.int (i : Nat))) h1 else .no
  | _ => .no
theorem xi_range1 (hg : Gl X "range") (hm : X.mg "range" = none) (ha : XA Th X E [e] am) (hs : starEach [e] X.env = [(false, eval e X.env)] := by rfl) : XIt Th X E tg (.Call (.Name "range" p) [e] [] pos) (iRg1 am) := by
  obtain ⟨t, p, s⟩ := ha
  refine ⟨_, pi_range1 hg hm p hs, fun d σ' σ h R sr hr p => ?_⟩
  refine s d σ' σ h _ sr hr ((Po.then p).imp fun d1 ws h1 e1 hr1 p1 vs r => ?_)
  split at p1
  · rename_i n
    obtain ⟨v, rfl, q⟩ := r.one
    obtain rfl := q.int_of
    by_cases hl : (decide (-(2 ^ 62) ≤ n) && decide (n < 2 ^ 62)) = true
    · rw [if_pos hl] at p1
      have hl' := Bool.and_eq_true_iff.mp hl
      refine ⟨n, rfl, of_decide_eq_true hl'.1, of_decide_eq_true hl'.2, p1.ok hr1 _ fun d h ws' x hr e i => ?_⟩
      cases e
      refine ⟨fun hi => ?_, fun hi => by simpa [Itr] using hi⟩
      have hi' : i < n.toNat := by simpa using hi
      refine ⟨hi', fun y H' q => ?_⟩
      obtain ⟨rfl, rfl⟩ := q
      refine ⟨d, .int (i : Nat), rfl, Ext.refl _, hr, by simp [hi'], ?_⟩
      rw [Int.zero_add]; exact .int
    · rw [if_neg hl] at p1; exact p1.elim
  · exact p1.elim
/-- zip of two tuples, of two lists -/
def zipW (xs ys : List W) : List W := (xs.zip ys).map fun q => W.tup [q.1, q.2]
def iZp (m : AM) : IM := fun σ h => (m σ h).bind fun ws h1 => match ws with
  | [.tup xs, .tup ys] => .ok (fixed (zipW xs ys)) h1
  | [.lst xs, .lst ys] => .ok (fixed (zipW xs ys)) h1
  | _ => .no
theorem zip_at {G : Gm} {d : Wd} {xs ys : List W} {us vs : List V} (t1 : VRs G d.F d.ι xs us) (t2 : VRs G d.F d.ι ys vs) {i : Nat} (hi : i < (zipW xs ys).length) :
    ∃ w1 w2 v1 v2, (zipW xs ys)[i]? = some (.tup [w1, w2]) ∧ us[i]? = some v1 ∧ vs[i]? = some v2 ∧ VR G d.F d.ι w1 v1 ∧ VR G d.F d.ι w2 v2 := by
  have hi' : i < xs.length ∧ i < ys.length := by
    simp only [zipW, List.length_map, List.length_zip] at hi
    omega
  obtain ⟨w1, v1, a1, b1, c1⟩ := getV t1 hi'.1
  obtain ⟨w2, v2, a2, b2, c2⟩ := getV t2 hi'.2
  refine ⟨w1, w2, v1, v2, ?_, b1, b2, c1, c2⟩
  have : (xs.zip ys)[i]? = some (w1, w2) := by rw [List.getElem?_zip_eq_some]; exact ⟨a1, a2⟩
  unfold zipW
  rw [List.getElem?_map, this]; rfl
theorem pair_new {G : Gm} {d : Wd} {h : Hq} {w1 w2 : W} {v1 v2 : V} {T : Addr} (hr : HR G d h) (c1 : VR G d.F d.ι w1 v1) (c2 : VR G d.F d.ι w2 v2) (np : d.H T = none) : Ext d (d.addF T (.tup [v1, v2])) ∧ HR G (d.addF T (.tup [v1, v2])) h ∧ VR G (d.addF T (.tup [v1, v2])).F d.ι (.tup [w1, w2]) (.ref T) := by
  have x := ext_addF (.tup [v1, v2]) np (hr.fnone np)
  exact ⟨x, hr.addF _ np, .tup (SqT.of upd_same) (.cons (c1.mono x.F x.ι) (.cons (c2.mono x.F x.ι) .nil))⟩
theorem xi_zip {elts : List Expr} {kk : Nat} {tpos : Pos} (hg : Gl X "zip") (hm : X.mg "zip" = none) (ha : XA Th X E [e, e2] am) (hs : starEach [e, e2] X.env = (false, eval e X.env) :: starEach [e2] X.env := by rfl) (hpl : (backTo pos (starEach [e2] X.env)).any (·.1) = false := by rfl) :
    XIt Th X E (.Tuple elts kk tpos) (.Call (.Name "zip" p) [e, e2] [] pos) (iZp am) := by
  obtain ⟨t, p, s⟩ := ha
  refine ⟨_, RZ.pi_zipA hg hm p hs hpl, fun d σ' σ h R sr hr p => ?_⟩
  refine s d σ' σ h _ sr hr ((Po.then p).imp fun d1 ws h1 e1 hr1 p1 vs r => ?_)
  split at p1
  · rename_i xs ys
    obtain ⟨v, z, rfl, q1, q2⟩ := r.two
    cases q1
    rename_i a us s1 t1
    cases q2
    rename_i b vs s2 t2
    refine ⟨a, b, us, vs, rfl, .inr ⟨sqT_sub hr1 s1, sqT_sub hr1 s2, p1.ok hr1 _ fun d h ws' x hr e i => ?_⟩⟩
    cases e
    have g1 := sqT_sub hr (sqT_mono x.F s1)
    have g2 := sqT_sub hr (sqT_mono x.F s2)
    refine ⟨fun hi => ?_, fun hi => ⟨us, vs, g1, g2, ?_⟩⟩
    · obtain ⟨w1, w2, v1, v2, k1, k2, k3, k4, k5⟩ := zip_at (t1.mono x.F x.ι) (t2.mono x.F x.ι) hi
      refine ⟨⟨us, vs, v1, v2, g1, g2, k2, k3⟩, fun y H' q => ?_⟩
      obtain ⟨T, x', y', rfl, np, rfl, z1, z2⟩ := q
      have e1 := z1 us g1
      have e2 := z2 vs g2
      rw [k2] at e1
      rw [k3] at e2
      cases e1; cases e2
      obtain ⟨n1, n2, n3⟩ := pair_new hr k4 k5 np
      exact ⟨_, _, rfl, n1, n2, k1, n3⟩
    · simp only [zipW, List.length_map, List.length_zip] at hi
      have l1 := t1.length
      have l2 := t2.length
      omega
  · rename_i xs ys
    obtain ⟨v, z, rfl, q1, q2⟩ := r.two
    cases q1
    rename_i a us s1 t1
    cases q2
    rename_i b vs s2 t2
    refine ⟨a, b, us, vs, rfl, .inl ⟨SqL.of (hr1.sub _ _ s1), SqL.of (hr1.sub _ _ s2), p1.ok hr1 _ fun d h ws' x hr e i => ?_⟩⟩
    cases e
    have g1 : SqL X.K d.H a us := SqL.of (hr.sub _ _ (x.F _ _ s1))
    have g2 : SqL X.K d.H b vs := SqL.of (hr.sub _ _ (x.F _ _ s2))
    refine ⟨fun hi => ?_, fun hi => ⟨us, vs, g1, g2, ?_⟩⟩
    · obtain ⟨w1, w2, v1, v2, k1, k2, k3, k4, k5⟩ := zip_at (t1.mono x.F x.ι) (t2.mono x.F x.ι) hi
      refine ⟨⟨us, vs, v1, v2, g1, g2, k2, k3⟩, fun y H' q => ?_⟩
      obtain ⟨T, x', y', rfl, np, rfl, z1, z2⟩ := q
      have e1 := z1 us g1
      have e2 := z2 vs g2
      rw [k2] at e1
      rw [k3] at e2
      cases e1; cases e2
      obtain ⟨n1, n2, n3⟩ := pair_new hr k4 k5 np
      exact ⟨_, _, rfl, n1, n2, k1, n3⟩
    · simp only [zipW, List.length_map, List.length_zip] at hi
      have l1 := t1.length
      have l2 := t2.length
      omega
  · exact p1.elim

/-! ### while -/
def whileM (t : TM) (body : SM) : Nat → Sg → Hq → Re Fl
  | 0, _, _ => .no
  | k + 1, σ, h => (t σ h).bind fun c h1 => match c with
    | false => .ok (.nx σ) h1
    | true => (body σ h1).bind fun f h2 => match f with
      | .nx σ2 => whileM t body k σ2 h2
      | .ct σ2 => whileM t body k σ2 h2
      | .bk σ2 => .ok (.nx σ2) h2
      | .rt w => .ok (.rt w) h2
theorem xs_while (n : Nat) (hp : PassesOwn (model X.prog X.w) X.A X.env X.xe) (hc : XT Th X E e mt) (hb : XSs Th X E body mb) : XS Th X E (.While e body [] pos) (whileM mt mb n) := by
  obtain ⟨t, pt, st⟩ := hc
  obtain ⟨tb, pb, sb⟩ := hb
  refine ⟨_, ps_while hp pt pb, fun d σ' σ h D sr hr p => ?_⟩
  refine ⟨fun m σ H => ∃ d2 σ2' h2, H = d2.H ∧ HR (Cx.G Th X) d2 h2 ∧ SR (Cx.G Th X) d2 σ2' σ ∧ Po (Cx.G Th X) E d2 (whileM mt mb m σ2' h2) (QS (Cx.G Th X) D), ⟨_, d, σ', h, rfl, hr, sr, p⟩, ?_⟩
  rintro m σ2 H ⟨d2, σ2', h2, rfl, hr2, sr2, p2⟩
  cases m with
  | zero => exact p2.elim
  | succ m =>
    unfold whileM at p2
    refine st d2 σ2' σ2 h2 _ sr2 hr2 ((Po.then p2).imp fun d3 c h3 x3 hr3 p3 => ?_)
    unfold QT
    cases c with
    | false => dsimp only; rw [if_neg Bool.false_ne_true]; exact p3.ok hr3 _ (sr2.mono x3)
    | true =>
      dsimp only; rw [if_pos rfl]
      refine ⟨fun σ' H' => ∃ d3 σ3' h3, H' = d3.H ∧ HR (Cx.G Th X) d3 h3 ∧ SR (Cx.G Th X) d3 σ3' σ' ∧ Po (Cx.G Th X) E d3 (whileM mt mb m σ3' h3) (QS (Cx.G Th X) D), fun σ' H' q => ⟨m, Nat.lt_succ_self m, q⟩, ?_⟩
      refine sb d3 σ2' σ2 h3 _ (sr2.mono x3) hr3 ((Po.then p3).imp fun d5 f h5 x5 hr5 p5 => ?_)
      cases f with
      | nx σ5 => exact fun σ6 sr6 => ⟨d5, σ5, h5, rfl, hr5, sr6, p5⟩
      | ct σ5 => exact fun σ6 sr6 => ⟨d5, σ5, h5, rfl, hr5, sr6, p5⟩
      | bk σ5 => exact fun σ6 sr6 => p5.ok hr5 _ sr6
      | rt w => exact p5.ok hr5
end

/-! ### comprehensions -/
/-- a target that stores in vs alone -/
def SimGw (G : Gm) (vs : List Nat) (t : TG) (m : GM) : Prop := ∀ (d : Wd) (w : W) (v : V) (σ' : Sg) (σ : L2.St) (h : Hq) (Q : L2.St → Hp → Prop), VR G d.F d.ι w v → SR G d σ' σ → HR G d h → Po G E0 d (m w σ' h) (fun d1 σ1 _ => ∀ σ2, SR G d1 σ1 σ2 → wipe σ2 vs = wipe σ vs → Q σ2 d1.H) → t v σ d.H Q
structure XGw (Th : Tabl) (X : Cx) (vs : List Nat) (tg : Expr) (m : GM) : Prop where
  ex : ∃ t, PG X tg t ∧ SimGw (Cx.G Th X) vs t m
def SimGsw (G : Gm) (vs : List Nat) (t : TGs) (m : GsM) : Prop := ∀ (d : Wd) (w : List W) (v : List V) (σ' : Sg) (σ : L2.St) (h : Hq) (Q : L2.St → Hp → Prop), VRs G d.F d.ι w v → SR G d σ' σ → HR G d h → Po G E0 d (m w σ' h) (fun d1 σ1 _ => ∀ σ2, SR G d1 σ1 σ2 → wipe σ2 vs = wipe σ vs → Q σ2 d1.H) → t v σ d.H Q
structure XGsw (Th : Tabl) (X : Cx) (vs : List Nat) (tg : List Expr) (m : GsM) : Prop where
  ex : ∃ t, PGs X tg t ∧ SimGsw (Cx.G Th X) vs t m
theorem wipe_set {i : Nat} {x : Option V} : ∀ {vs : List Nat} (σ : L2.St), i ∈ vs → wipe (σ.set i x) vs = wipe σ vs
  | [], _, h => by simp at h
  | v :: vs, σ, h => by
    unfold wipe
    by_cases hi : i ∈ vs
    · rw [wipe_set σ hi]
    · have hv : i = v := by
        rcases List.mem_cons.mp h with h | h
        · exact h
        · exact absurd h hi
      subst hv
      have : ∀ (ws : List Nat), i ∉ ws → wipe (σ.set i x) ws = (wipe σ ws).set i x := by
        intro ws
        induction ws with
        | nil => intro _; rfl
        | cons w ws ih =>
          intro hn
          unfold wipe
          rw [ih (fun z => hn (List.mem_cons_of_mem _ z))]
          exact List.set_comm _ _ (fun e => hn (by rw [e]; exact List.mem_cons_self))
      rw [this vs hi, List.set_set]
section
variable {Th : Tabl} {X : Cx} {e tg : Expr} {es : List Expr} {vs : List Nat} {pos : Pos}
theorem xgw_name {i : Nat} {x : Str} (hN : X.N.Nodup) (hi : X.N[i]? = some x) (hx : Loc X.env.scope x) (hv : i ∈ vs) (hf : X.fn x = true ∨ X.env.scope.names.lookup x = some .local := by first | exact .inl rfl | exact .inr rfl | assumption) : XGw Th X vs (.Name x pos) (gNm i) :=
  ⟨_, pg_name hN hi hx hf, fun d w v σ' σ h Q r sr hr p => p.ok hr _ (sr.set i r) (wipe_set σ hv)⟩
theorem xgsw_nil : XGsw Th X vs [] gsNil := by
  refine ⟨_, pgs_nil, fun d w v σ' σ h Q r sr hr p => ?_⟩
  cases r with
  | nil => exact ⟨rfl, p.ok hr σ sr rfl⟩
  | cons _ _ => exact p.elim
theorem xgsw_cons {g : GM} {r : GsM} (h1 : XGw Th X vs e g) (h2 : XGsw Th X vs es r) (hs : (assignEach (e :: es) X.env).map (·.2) = assign e X.env :: (assignEach es X.env).map (·.2) := by rfl) : XGsw Th X vs (e :: es) (gsCons g r) := by
  obtain ⟨t, p, s⟩ := h1
  obtain ⟨u, q, z⟩ := h2
  refine ⟨_, pgs_cons p q hs, fun d w v σ' σ h Q r sr hr p => ?_⟩
  cases r with
  | nil => exact p.elim
  | @cons w v ws vs r rr =>
    refine ⟨_, _, rfl, s d w v σ' σ h _ r sr hr ((Po.then p).imp fun d1 σ1 h1 e1 hr1 p1 σ2 sr2 hw => ?_)⟩
    exact z d1 ws vs σ1 σ2 h1 Q (rr.mono e1.F e1.ι) sr2 hr1 (p1.imp fun d2 σ3 h3 e3 hr3 p3 σ4 sr4 hw2 => p3 σ4 sr4 (hw2.trans hw))
theorem xgw_tup {k n : Nat} {r : GsM} (hc : X.calm = true) (h : XGsw Th X vs es r) (hn : (assignEach es X.env).length = n := by rfl) (hst : (assignEach es X.env).findIdx? (·.1) = none := by rfl) : XGw Th X vs (.Tuple es k pos) (gTp n r) := by
  obtain ⟨t, p, s⟩ := h
  refine ⟨_, pg_tup hc p hn hst, fun d w v σ' σ h Q r sr hr p => ?_⟩
  cases r with
  | @tup a ws vs q rs =>
    unfold gTp at p
    by_cases hl : ws.length = n
    · simp only [hl, if_true] at p
      exact ⟨a, vs, rfl, sqT_sub hr q, by rw [← rs.length]; exact hl, s d ws vs σ' σ h Q rs sr hr p⟩
    · simp only [hl, if_false] at p; exact p.elim
  | _ => exact p.elim
end
def wipeW (σ : Sg) : List Nat → Sg
  | [] => σ
  | v :: vs => (wipeW σ vs).set v none
theorem SR.wipe {G : Gm} {d : Wd} {σ' : Sg} {σ : L2.St} (r : SR G d σ' σ) : ∀ vs : List Nat, SR G d (wipeW σ' vs) (L2.wipe σ vs)
  | [] => r
  | v :: vs => by
    have ih := SR.wipe r vs
    unfold wipeW L2.wipe
    refine ⟨by simp [ih.len], fun i w e => ?_⟩
    by_cases hv : i = v
    · subst hv
      by_cases hl : i < (wipeW σ' vs).length
      · rw [List.getElem?_set_self hl] at e; cases e
      · rw [List.getElem?_eq_none (by simpa using hl)] at e; cases e
    · rw [List.getElem?_set_ne (Ne.symm hv)] at e
      obtain ⟨v', h1, h2⟩ := ih.get i w e
      exact ⟨v', by rw [List.getElem?_set_ne (Ne.symm hv)]; exact h1, h2⟩
/-- the world with the object o at D shown -/
def Wd.vis (d : Wd) (D : Addr) (o : HO) : Wd := ⟨d.F, d.ι, upd d.H D o⟩
def Wd.hid (d : Wd) (D : Addr) : Wd := ⟨d.F, d.ι, fun p => if p = D then none else d.H p⟩
section
variable {G : Gm} {d d2 : Wd} {D : Addr} {o : HO} {h h2 : Hq}
theorem ext_vis (np : d.H D = none) : Ext d (d.vis D o) := by
  refine ⟨List.prefix_refl _, fun _ _ z => z, fun q u z _ n => ⟨?_, n, fun f => f⟩, fun q u z w => ?_⟩
  · show upd d.H D o q = some u
    rw [upd_ne (ne_of_none z np)]; exact z
  · show upd d.H D o q = _
    rw [upd_ne (ne_of_none w np)]; exact w
theorem HR.vis (r : HR G d h) (np : d.H D = none) : HR G (d.vis D o) h :=
  ⟨tabs_upd r.tabs np, r.ftab, r.len, r.nd, fun q u z => by show upd d.H D o q = some u; rw [upd_ne (ne_of_none (r.sub q u z) np)]; exact r.sub q u z, r.off,
    fun n a o' z w => let ⟨u, y1, y2⟩ := r.obj n a o' z w; ⟨u, by show upd d.H D o a = some u; rw [upd_ne (ne_of_none y1 np)]; exact y1, y2⟩⟩
theorem SR.vis {σ' : Sg} {σ : L2.St} (r : SR G d σ' σ) : SR G (d.vis D o) σ' σ := ⟨r.len, r.get⟩
theorem vis_hid (e : d2.H D = some o) : (d2.hid D).vis D o = d2 := by
  obtain ⟨F, ι, H⟩ := d2
  unfold Wd.hid Wd.vis
  congr 1
  funext q
  unfold upd
  by_cases hq : q = D
  · subst hq; simp only [if_true]; exact e.symm
  · simp only [hq, if_false]
theorem hid_none : (d2.hid D).H D = none := by show (if D = D then none else d2.H D) = none; rw [if_pos rfl]
theorem HR.hid (r : HR G d2 h2) (e : d2.H D = some o) (n1 : ∀ ps, o ≠ .tbl ps) (n2 : ∀ φ, o ≠ .ext φ) (nι : D ∉ d2.ι) (nF : d2.F D = none) : HR G (d2.hid D) h2 := by
  have ht : LamX.Tabs G.T (d2.hid D).H := fun q hq => by
    obtain ⟨ps, e', tr, am⟩ := r.tabs q hq
    refine ⟨ps, ?_, tr, fun pos cv hc => ?_⟩
    · show (if q.1 = D then none else d2.H q.1) = _
      rw [if_neg (fun z => by rw [z, e] at e'; exact n1 ps (Option.some.inj e'))]; exact e'
    · obtain ⟨c, e1, e2⟩ := am pos cv hc
      refine ⟨c, e1, ?_⟩
      show (if c = D then none else d2.H c) = _
      rw [if_neg (fun z => by rw [z, e] at e2; exact n2 _ (Option.some.inj e2))]; exact e2
  refine ⟨ht, r.ftab, r.len, r.nd, fun q u z => ?_, r.off, fun n a o' z w => ?_⟩
  · show (if q = D then none else d2.H q) = some u
    rw [if_neg (fun e => by rw [e] at z; have z' : d2.F D = some u := z; rw [nF] at z'; cases z')]; exact r.sub q u z
  · obtain ⟨u, y1, y2⟩ := r.obj n a o' z w
    refine ⟨u, ?_, y2⟩
    show (if a = D then none else d2.H a) = some u
    rw [if_neg (fun e => nι (by rw [← e]; exact List.mem_of_getElem? z))]; exact y1
theorem ext_hid (x : Ext (d.vis D o) d2) (np : d.H D = none) : Ext d (d2.hid D) := by
  have y := (ext_vis (o := o) np).trans x
  refine ⟨y.ι, y.F, fun q u z nt n => ?_, fun q u z w => ?_⟩
  · obtain ⟨k1, k2, k3⟩ := y.keep q u z nt n
    refine ⟨?_, k2, k3⟩
    show (if q = D then none else d2.H q) = some u
    rw [if_neg (ne_of_none z np)]; exact k1
  · show (if q = D then none else d2.H q) = _
    rw [if_neg (ne_of_none w np)]; exact y.frz q u z w
/-- from the hidden world to the shown one -/
theorem Po.vis {α : Type} {E : XK} {r : Re α} {Ψ : Wd → α → Hq → Prop} (p : Po G E d r.quiet Ψ) (hr : HR G d h) (np : d.H D = none) (n1 : ∀ ps, o ≠ .tbl ps := by intro _ z; cases z) (n2 : ∀ φ, o ≠ .ext φ := by intro _ z; cases z) :
    Po G E0 (d.vis D o) r (fun d2 a h2 => ∃ d3, d2 = d3.vis D o ∧ d3.H D = none ∧ Ext d d3 ∧ HR G d3 h2 ∧ Ψ d3 a h2) := by
  cases r with
  | ok a h' =>
    intro d2 x hr2
    have kp := x.keep D o upd_same n1 (hr.fresh np)
    have hF : d2.F D = none := kp.2.2 (hr.fnone np)
    have h3 := hr2.hid kp.1 n1 n2 kp.2.1 hF
    have x3 := ext_hid x np
    exact ⟨d2.hid D, (vis_hid kp.1).symm, hid_none, x3, h3, p _ x3 h3⟩
  | ex x h' => exact p.elim
  | no => exact p
end
def lcM (cur : Cur) (g : GM) (tt : TM) (e : EM) (σ : Sg) : Nat → Nat → List W → Hq → Re (List W)
  | 0, _, _, _ => .no
  | k + 1, i, acc, h => match cur h with
    | none => .no
    | some ws => match ws[i]? with
      | none => .ok acc h
      | some w => (g w σ h).quiet.bind fun σ1 h1 => (tt σ1 h1).quiet.bind fun b h2 => match b with
        | true => (e σ1 h2).quiet.bind fun y h3 => if lim acc.length = true then lcM cur g tt e σ k (i + 1) (acc ++ [y]) h3 else .no
        | false => lcM cur g tt e σ k (i + 1) acc h2
def lcA (it : IM) (vs : List Nat) (g : GM) (tt : TM) (e : EM) : AM := fun σ h => (it σ h).bind fun cur h1 => match cur h1 with
  | some ws => lcM cur g tt e (wipeW σ vs) (ws.length + 1) 0 [] h1
  | none => .no
def eLc (it : IM) (vs : List Nat) (g : GM) (tt : TM) (e : EM) : EM := fun σ h => (lcA it vs g tt e σ h).bind fun acc h1 => .ok (.lst acc) h1
def eLcH (it : IM) (vs : List Nat) (g : GM) (tt : TM) (e : EM) : EM := fun σ h => (lcA it vs g tt e σ h).bind fun acc h1 => .ok (.ref h1.length) (h1 ++ [.lst acc])
def tYs : TM := fun _ h => .ok true h
structure XTs (Th : Tabl) (X : Cx) (ifs : List Expr) (m : TM) : Prop where
  ex : ∃ t, PTs X ifs t ∧ SimT (Cx.G Th X) E0 t m
theorem xts_nil {Th : Tabl} {X : Cx} : XTs Th X [] tYs := ⟨_, pts_nil, fun d σ' σ h Q sr hr p => p.ok hr⟩
theorem xts_one {Th : Tabl} {X : Cx} {c : Expr} {m : TM} (h : XT Th X E0 c m) : XTs Th X [c] m := let ⟨t, p, s⟩ := h; ⟨t, pts_one p, s⟩
section
variable {Th : Tabl} {X : Cx} {E : XK} {elt tg iter : Expr} {ifs : List Expr} {scope : Scope} {own : List (Str × Nat)} {pos : Pos} {it : IM} {g : GM} {mt : TM} {me : EM}
/-- the reading of a comprehension -/
theorem lc_sim {G : Gm} {wi : TI} {tgx : TG} {tt : TT} {te : TE} {vs : List Nat} {d : Wd} {σ' : Sg} {σ : L2.St} {h : Hq} {Q : VK}
    (si : ∀ (d : Wd) (σ' : Sg) (σ : L2.St) (h : Hq) (R : It → Hp → Prop), SR G d σ' σ → HR G d h → Po G E d (it σ' h) (fun d1 cur _ => ∀ J, ItR G d1 J cur → R J d1.H) → wi σ d.H R)
    (sg : SimGw G vs tgx g) (st : SimT G E0 tt mt) (se : SimE G E0 te me) (sr : SR G d σ' σ) (hr : HR G d h)
    (p : Po G E d (lcA it vs g mt me σ' h) (fun d1 acc _ => ∀ (D : Addr) (accV : List V), d1.H D = none → VRs G d1.F d1.ι acc accV → Q (.ref D) (upd d1.H D (.lst accV)))) : tLc wi tgx tt te vs σ d.H Q := by
  refine si d σ' σ h _ sr hr ((Po.then p).imp fun d1 cur h1 e1 hr1 p1 J hJ => ?_)
  cases ec : cur h1 with
  | none => rw [ec] at p1; exact p1.elim
  | some ws0 =>
    rw [ec] at p1
    intro D np
    have srw := (sr.mono e1).wipe vs
    refine ⟨fun i m H => ∃ d2 h2 acc accV, H = upd d2.H D (.lst accV) ∧ d2.H D = none ∧ Ext d1 d2 ∧ HR G d2 h2 ∧ VRs G d2.F d2.ι acc accV ∧ Po G E d2 (lcM cur g mt me (wipeW σ' vs) m i acc h2) (fun d1 acc _ => ∀ (D : Addr) (accV : List V), d1.H D = none → VRs G d1.F d1.ι acc accV → Q (.ref D) (upd d1.H D (.lst accV))),
      ⟨_, d1, h1, [], [], rfl, np, Ext.refl _, hr1, .nil, p1⟩, ?_⟩
    rintro i m H ⟨d2, h2, acc, accV, rfl, np2, x2, hr2, ra, p2⟩
    cases m with
    | zero => exact p2.elim
    | succ m =>
      unfold lcM at p2
      cases e3 : cur h2 with
      | none => rw [e3] at p2; exact p2.elim
      | some ws =>
        simp only [e3] at p2
        have hv : HR G (d2.vis D (.lst accV)) h2 := hr2.vis np2
        obtain ⟨hgo, hstop⟩ := hJ (d2.vis D (.lst accV)) h2 ws (x2.trans (ext_vis np2)) hv e3 i
        cases e4 : ws[i]? with
        | none =>
          simp only [e4] at p2
          exact .inl ⟨hstop (List.getElem?_eq_none_iff.mp e4), p2.ok hr2 D accV np2 ra⟩
        | some w =>
          simp only [e4] at p2
          obtain ⟨go, yl⟩ := hgo (List.getElem?_eq_some_iff.mp e4).1
          refine .inr ⟨go, fun H' => ∃ d3 h3 acc accV, H' = upd d3.H D (.lst accV) ∧ d3.H D = none ∧ Ext d1 d3 ∧ HR G d3 h3 ∧ VRs G d3.F d3.ι acc accV ∧ Po G E d3 (lcM cur g mt me (wipeW σ' vs) m (i + 1) acc h3) (fun d1 acc _ => ∀ (D : Addr) (accV : List V), d1.H D = none → VRs G d1.F d1.ι acc accV → Q (.ref D) (upd d1.H D (.lst accV))),
            fun H' q => ⟨m, Nat.lt_succ_self m, q⟩, fun x H' y => ?_⟩
          obtain ⟨d3', w', rfl, x3', hr3', ew, r3⟩ := yl x H' y
          rw [e4] at ew
          cases ew
          -- the step's world, hidden
          have kp := x3'.keep D (.lst accV) upd_same (by intro _ z; cases z) (hr2.fresh np2)
          have nF3 : d3'.F D = none := kp.2.2 (hr2.fnone np2)
          have hr3 : HR G (d3'.hid D) h2 := hr3'.hid kp.1 (by intro _ z; cases z) (by intro _ z; cases z) kp.2.1 nF3
          have x3 : Ext d2 (d3'.hid D) := ext_hid x3' np2
          have e3v : d3' = (d3'.hid D).vis D (.lst accV) := (vis_hid kp.1).symm
          have r3h : VR G (d3'.hid D).F (d3'.hid D).ι w x := r3
          have np3 : (d3'.hid D).H D = none := hid_none
          generalize d3'.hid D = d3 at *
          subst e3v
          refine sg (d3.vis D (.lst accV)) w x (wipeW σ' vs) _ h2 _ r3h ((srw.mono x2).mono x3).vis (hr3.vis np3) ((Po.vis (Po.then (p2.mono x3)) hr3 np3).imp fun d4v σ4' h4 x4 hr4 q4 σ4 sr4 hw => ?_)
          obtain ⟨d4, rfl, np4, x4', hr4', p4⟩ := q4
          refine ⟨by rw [hw]; exact wipe_wipe σ vs, ?_⟩
          refine st (d4.vis D (.lst accV)) σ4' σ4 h4 _ sr4 hr4 ((Po.vis (Po.then p4) hr4' np4).imp fun d5v b h5 x5 hr5 q5 => ?_)
          obtain ⟨d5, rfl, np5, x5', hr5', p5⟩ := q5
          have xx := ((x2.trans x3).trans x4').trans x5'
          unfold QT
          cases b with
          | false =>
            dsimp only; rw [if_neg Bool.false_ne_true]
            exact ⟨d5, h5, acc, accV, rfl, np5, xx, hr5', ra.mono ((x3.trans x4').trans x5').F ((x3.trans x4').trans x5').ι, p5⟩
          | true =>
            dsimp only; rw [if_pos rfl]
            refine se (d5.vis D (.lst accV)) σ4' σ4 h5 _ (sr4.mono x5) hr5 ((Po.vis (Po.then p5) hr5' np5).imp fun d6v y h6 x6 hr6 q6 yv ry => ?_)
            obtain ⟨d6, rfl, np6, x6', hr6', p6⟩ := q6
            by_cases hl : lim acc.length = true
            · rw [if_pos hl] at p6
              have x36 := ((x3.trans x4').trans x5').trans x6'
              refine ⟨accV, upd_same, by rw [← ra.length]; exact lim_lt hl, d6, h6, acc ++ [y], accV ++ [yv], ?_, np6, xx.trans x6', hr6', (ra.mono x36.F x36.ι).append (.cons ry .nil), p6⟩
              show upd (upd d6.H D (.lst accV)) D (.lst (accV ++ [yv])) = upd d6.H D (.lst (accV ++ [yv]))
              rw [upd_upd]
            · rw [if_neg hl] at p6; exact p6.elim
where
  wipe_wipe (σ : L2.St) : ∀ vs : List Nat, L2.wipe (L2.wipe σ vs) vs = L2.wipe σ vs := by
    intro vs
    apply List.ext_getElem?
    intro j
    by_cases hj : j ∈ vs
    · have a : ∀ (τ : L2.St), j < τ.length → (L2.wipe τ vs)[j]? = some none := by
        intro τ hl
        cases e : (L2.wipe τ vs)[j]? with
        | none => rw [List.getElem?_eq_none_iff, wipe_length] at e; omega
        | some o =>
          cases o with
          | none => rfl
          | some v => exact absurd hj (wipe_some e).2
      by_cases hl : j < σ.length
      · rw [a σ hl, a _ (by rw [wipe_length]; exact hl)]
      · rw [List.getElem?_eq_none (by rw [wipe_length, wipe_length]; omega), List.getElem?_eq_none (by rw [wipe_length]; omega)]
    · have a : ∀ (ws : List Nat) (τ : L2.St), j ∉ ws → (L2.wipe τ ws)[j]? = τ[j]? := by
        intro ws
        induction ws with
        | nil => intro τ _; rfl
        | cons w ws ih =>
          intro τ hn
          unfold L2.wipe
          rw [List.getElem?_set_ne (fun e => hn (by rw [e]; exact List.mem_cons_self)), ih τ (fun z => hn (List.mem_cons_of_mem _ z))]
      rw [a vs _ hj]
/-- the weakest readings -/
def cE (G : Gm) (E : XK) (m : EM) : TE := fun σ H Q => ∃ d σ' h, H = d.H ∧ SR G d σ' σ ∧ HR G d h ∧ Po G E d (m σ' h) (QE G Q)
def cT (G : Gm) (E : XK) (m : TM) : TT := fun σ H Q => ∃ d σ' h, H = d.H ∧ SR G d σ' σ ∧ HR G d h ∧ Po G E d (m σ' h) (QT Q)
def cG (G : Gm) (vs : List Nat) (m : GM) : TG := fun v σ H Q => ∃ d w σ' h, H = d.H ∧ VR G d.F d.ι w v ∧ SR G d σ' σ ∧ HR G d h ∧ Po G E0 d (m w σ' h) (fun d1 σ1 _ => ∀ σ2, SR G d1 σ1 σ2 → wipe σ2 vs = wipe σ vs → Q σ2 d1.H)
theorem sim_cE (G : Gm) (E : XK) (m : EM) : SimE G E (cE G E m) m := fun d σ' σ h Q sr hr p => ⟨d, σ', h, rfl, sr, hr, p⟩
theorem sim_cT (G : Gm) (E : XK) (m : TM) : SimT G E (cT G E m) m := fun d σ' σ h Q sr hr p => ⟨d, σ', h, rfl, sr, hr, p⟩
theorem sim_cG (G : Gm) (vs : List Nat) (m : GM) : SimGw G vs (cG G vs m) m := fun d w v σ' σ h Q r sr hr p => ⟨d, w, σ', h, rfl, r, sr, hr, p⟩
theorem XE.can {Th : Tabl} {X : Cx} {E : XK} {e : Expr} {m : EM} (x : XE Th X E e m) : PE X e (cE (Cx.G Th X) E m) := by
  obtain ⟨t, p, s⟩ := x
  exact ⟨fun pins st σ H Q I ⟨d, σ', h, eH, sr, hr, po⟩ => p.run pins st σ H Q I (by subst eH; exact s d σ' σ h Q sr hr po)⟩
theorem XTs.can {Th : Tabl} {X : Cx} {e : List Expr} {m : TM} (x : XTs Th X e m) : PTs X e (cT (Cx.G Th X) E0 m) := by
  obtain ⟨t, p, s⟩ := x
  exact ⟨fun pins st σ H Q I ⟨d, σ', h, eH, sr, hr, po⟩ => p.run pins st σ H Q I (by subst eH; exact s d σ' σ h Q sr hr po)⟩
theorem XGw.can {Th : Tabl} {X : Cx} {vs : List Nat} {e : Expr} {m : GM} (x : XGw Th X vs e m) : PG X e (cG (Cx.G Th X) vs m) := by
  obtain ⟨t, p, s⟩ := x
  exact ⟨fun pins st σ H v u Q I ru ⟨d, w, σ', h, eH, rv, sr, hr, po⟩ => p.run pins st σ H v u Q I ru (by subst eH; exact s d w v σ' σ h Q rv sr hr po)⟩
theorem xe_lc (hc : X.calm = true) (hN : X.N.Nodup) (hi : XIt Th X E tg iter it) (ok : BlkOk X.N X.env.scope scope own)
    (hg : ∀ (s : Shared) (H : Hp) (C : Addr) (cl : List (Str × Addr)) (fp : List Addr), XGw Th (X.blk s H scope (compEnvC scope cl C X.env) fp) (own.map (·.2)) tg g)
    (ht : ∀ (s : Shared) (H : Hp) (C : Addr) (cl : List (Str × Addr)) (fp : List Addr), XTs Th (X.blk s H scope (compEnvC scope cl C X.env) fp) ifs mt)
    (he : ∀ (s : Shared) (H : Hp) (C : Addr) (cl : List (Str × Addr)) (fp : List Addr), XE Th (X.blk s H scope (compEnvC scope cl C X.env) fp) E0 elt me)
    (hs : ∀ x, foldedSetIterable iter X.env x = pure x := by intro _; rfl) : XE Th X E (.ListComp elt [⟨tg, iter, ifs, 0⟩] scope pos) (eLc it (own.map (·.2)) g mt me) := by
  obtain ⟨wi, pi, si⟩ := hi
  refine ⟨_, pe_lc (g := cG (Cx.G Th X) (own.map (·.2)) g) (tt := cT (Cx.G Th X) E0 mt) (te := cE (Cx.G Th X) E0 me) hc hN pi ok (fun s H C cl fp => (hg s H C cl fp).can) (fun s H C cl fp => (ht s H C cl fp).can) (fun s H C cl fp => (he s H C cl fp).can) hs, fun d σ' σ h Q sr hr p => ?_⟩
  exact lc_sim si (sim_cG _ _ _) (sim_cT _ _ _) (sim_cE _ _ _) sr hr ((Po.then p).imp fun d1 acc h1 e1 hr1 p1 D accV np r => newL hr1 r p1 D np)
theorem xe_lcH (hc : X.calm = true) (hN : X.N.Nodup) (hi : XIt Th X E tg iter it) (ok : BlkOk X.N X.env.scope scope own)
    (hg : ∀ (s : Shared) (H : Hp) (C : Addr) (cl : List (Str × Addr)) (fp : List Addr), XGw Th (X.blk s H scope (compEnvC scope cl C X.env) fp) (own.map (·.2)) tg g)
    (ht : ∀ (s : Shared) (H : Hp) (C : Addr) (cl : List (Str × Addr)) (fp : List Addr), XTs Th (X.blk s H scope (compEnvC scope cl C X.env) fp) ifs mt)
    (he : ∀ (s : Shared) (H : Hp) (C : Addr) (cl : List (Str × Addr)) (fp : List Addr), XE Th (X.blk s H scope (compEnvC scope cl C X.env) fp) E0 elt me)
    (hs : ∀ x, foldedSetIterable iter X.env x = pure x := by intro _; rfl) : XE Th X E (.ListComp elt [⟨tg, iter, ifs, 0⟩] scope pos) (eLcH it (own.map (·.2)) g mt me) := by
  obtain ⟨wi, pi, si⟩ := hi
  refine ⟨_, pe_lc (g := cG (Cx.G Th X) (own.map (·.2)) g) (tt := cT (Cx.G Th X) E0 mt) (te := cE (Cx.G Th X) E0 me) hc hN pi ok (fun s H C cl fp => (hg s H C cl fp).can) (fun s H C cl fp => (ht s H C cl fp).can) (fun s H C cl fp => (he s H C cl fp).can) hs, fun d σ' σ h Q sr hr p => ?_⟩
  exact lc_sim si (sim_cG _ _ _) (sim_cT _ _ _) (sim_cE _ _ _) sr hr ((Po.then p).imp fun d1 acc h1 e1 hr1 p1 D accV np r => newO hr1 (.lst r) p1 D np)
/-- y = [..] -/
theorem xs_setLc {i : Nat} {y : Str} {py spos : Pos} {f : Bool} (hc : X.calm = true) (hN : X.N.Nodup) (hy : X.N[i]? = some y) (hyl : X.env.scope.names.lookup y = some .local)
    (hsw : swapsWith (.ListComp elt [⟨tg, iter, ifs, 0⟩] scope pos) (some (.Name y py)) spos.line X.env = pure true) (hi : XIt Th X E tg iter it) (ok : BlkOk X.N X.env.scope scope own)
    (hg : ∀ (s : Shared) (H : Hp) (C : Addr) (cl : List (Str × Addr)) (fp : List Addr), XGw Th (X.blk s H scope (compEnvC scope cl C X.env) fp) (own.map (·.2)) tg g)
    (ht : ∀ (s : Shared) (H : Hp) (C : Addr) (cl : List (Str × Addr)) (fp : List Addr), XTs Th (X.blk s H scope (compEnvC scope cl C X.env) fp) ifs mt)
    (he : ∀ (s : Shared) (H : Hp) (C : Addr) (cl : List (Str × Addr)) (fp : List Addr), XE Th (X.blk s H scope (compEnvC scope cl C X.env) fp) E0 elt me)
    (hs : ∀ x, foldedSetIterable iter X.env x = pure x := by intro _; rfl) : XS Th X E (.Assign [.Name y py] (.ListComp elt [⟨tg, iter, ifs, 0⟩] scope pos) spos) (sSet i (bif f then eLcH it (own.map (·.2)) g mt me else eLc it (own.map (·.2)) g mt me)) := by
  obtain ⟨wi, pi, si⟩ := hi
  refine ⟨_, ps_setLc (g := cG (Cx.G Th X) (own.map (·.2)) g) (tt := cT (Cx.G Th X) E0 mt) (te := cE (Cx.G Th X) E0 me) hc hN hy hyl hsw pi ok (fun s H C cl fp => (hg s H C cl fp).can) (fun s H C cl fp => (ht s H C cl fp).can) (fun s H C cl fp => (he s H C cl fp).can) hs, ?_⟩
  refine simSet fun d σ' σ h Q sr hr p => ?_
  cases f with
  | true => exact lc_sim si (sim_cG _ _ _) (sim_cT _ _ _) (sim_cE _ _ _) sr hr ((Po.then p).imp fun d1 acc h1 e1 hr1 p1 D accV np r => newO hr1 (.lst r) p1 D np)
  | false => exact lc_sim si (sim_cG _ _ _) (sim_cT _ _ _) (sim_cE _ _ _) sr hr ((Po.then p).imp fun d1 acc h1 e1 hr1 p1 D accV np r => newL hr1 r p1 D np)
end
end Mo
end

section
set_option Elab.async false
set_option linter.all false
set_option autoImplicit false
set_option maxRecDepth 100000
set_option maxHeartbeats 1000000
namespace Mo
open PySem PySem.Spec PyProof.Rows L2
section
variable {Th : Tabl} {X : Cx} {E : XK} {a b c e o i tg iter : Expr} {es rest : List Expr} {am : AM} {ma mb mc me mo mi : EM} {pos pos' tpos p apos cpos : Pos} {x : Str}
/-! ### and, or as values -/
theorem xe_one {op : BoolOp} (h : XE Th X E a ma) : XE Th X E (.BoolOp op [a] pos) ma := let ⟨t, p, s⟩ := h; ⟨t, pe_one p, s⟩
theorem xe_and (ha : XE Th X E a ma) (hb : XE Th X E (.BoolOp .And (b :: rest) pos) mb) : XE Th X E (.BoolOp .And (a :: b :: rest) pos) (eAnd ma mb) := by
  obtain ⟨t, p, s⟩ := ha
  obtain ⟨u, q, z⟩ := hb
  refine ⟨_, pe_and p q, fun d σ' σ h Q sr hr p => ?_⟩
  refine s d σ' σ h _ sr hr ((Po.then p).imp fun d1 w h1 e1 hr1 p1 v r => ?_)
  cases w with
  | bl c =>
    cases r.bl_of
    cases c with
    | true => exact ⟨_, rfl, by rw [if_pos rfl]; exact z d1 σ' σ h1 Q (sr.mono e1) hr1 p1⟩
    | false => exact ⟨_, rfl, by rw [if_neg Bool.false_ne_true]; exact p1.ok hr1 _ .bl⟩
  | _ => exact p1.elim
theorem xe_or (ha : XE Th X E a ma) (hb : XE Th X E (.BoolOp .Or (b :: rest) pos) mb) : XE Th X E (.BoolOp .Or (a :: b :: rest) pos) (eOr ma mb) := by
  obtain ⟨t, p, s⟩ := ha
  obtain ⟨u, q, z⟩ := hb
  refine ⟨_, pe_or p q, fun d σ' σ h Q sr hr p => ?_⟩
  refine s d σ' σ h _ sr hr ((Po.then p).imp fun d1 w h1 e1 hr1 p1 v r => ?_)
  cases w with
  | bl c =>
    cases r.bl_of
    cases c with
    | true => exact ⟨_, rfl, by rw [if_pos rfl]; exact p1.ok hr1 _ .bl⟩
    | false => exact ⟨_, rfl, by rw [if_neg Bool.false_ne_true]; exact z d1 σ' σ h1 Q (sr.mono e1) hr1 p1⟩
  | _ => exact p1.elim
/-! ### orders of ints or texts -/
def ltA : OpM := fun x y h => match x with
  | .str _ => ltS x y h
  | _ => cmpI (fun i j => decide (i < j)) x y h
theorem o_ltA : XO Th X E (compareOp .Lt) ltA := XO.or o_ltS o_lt fun a b h => by
  unfold ltA; cases a <;> first | exact .inl rfl | exact .inr rfl
theorem xe_chain {op op' : CmpOp} {f g : OpM} (hf : XO Th X E (compareOp op) f) (hg : XO Th X E (compareOp op') g) (ha : XE Th X E a ma) (hb : XE Th X E b mb) (hc : XE Th X E c mc) (hm : lastMarks [op, op'] [b, c] = false := by with_unfolding_all rfl) :
    XE Th X E (.Compare a [op, op'] [b, c] pos) (eChain f g ma mb mc) := by
  obtain ⟨r1, o1, s1⟩ := hf
  obtain ⟨r2, o2, s2⟩ := hg
  obtain ⟨ta, pa, sa⟩ := ha
  obtain ⟨tb, pb, sb⟩ := hb
  obtain ⟨tc, pc, sc⟩ := hc
  refine ⟨_, pe_chain o1 o2 pa pb pc hm, fun d σ' σ h Q sr hr p => ?_⟩
  refine sa d σ' σ h _ sr hr ((Po.then p).imp fun d1 x h1 e1 hr1 p1 v1 q1 => ?_)
  refine sb d1 σ' σ h1 _ (sr.mono e1) hr1 ((Po.then p1).imp fun d2 y h2 e2 hr2 p2 v2 q2 => ?_)
  refine s1 d2 x y v1 v2 h2 _ (q1.mono e2.F e2.ι) q2 hr2 ((Po.then p2).imp fun d3 z h3 e3 hr3 p3 v3 q3 => ?_)
  cases z with
  | bl k =>
    cases q3.bl_of
    cases k with
    | true =>
      refine ⟨true, rfl, ?_⟩
      rw [if_pos rfl]
      refine sc d3 σ' σ h3 _ (((sr.mono e1).mono e2).mono e3) hr3 ((Po.then p3).imp fun d4 u h4 e4 hr4 p4 v4 q4 => ?_)
      exact s2 d4 y u v2 v4 h4 Q (q2.mono (e3.trans e4).F (e3.trans e4).ι) q4 hr4 p4
    | false => exact ⟨false, rfl, by rw [if_neg Bool.false_ne_true]; exact p3.ok hr3 _ .bl⟩
  | _ => exact p3.elim
/-! ### a walk over a tuple or a list -/
def iSq (m : EM) : IM := fun σ h => (m σ h).bind fun w h1 => match w with
  | .tup ws => .ok (fixed ws) h1
  | .lst ws => .ok (fixed ws) h1
  | .scr ws => .ok (fixed ws) h1
  | .ref n => match h1[n]? with
    | some (.lst _) => .ok (cell n) h1
    | _ => .no
  | _ => .no
theorem xi_seq (he : XE Th X E e me) : XIt Th X E tg e (iSq me) := by
  obtain ⟨t1, p1, s1⟩ := xi_tup (tg := tg) he
  obtain ⟨t2, p2, s2⟩ := xi_list (tg := tg) he
  refine ⟨fun σ H R => t1 σ H R ∨ t2 σ H R, ⟨fun pins s σ H R I q => q.elim (p1.run pins s σ H R I) (p2.run pins s σ H R I)⟩, fun d σ' σ h R sr hr p => ?_⟩
  cases e : me σ' h with
  | no => simp only [iSq, e] at p; exact p.elim
  | ex x h1 =>
    refine .inl (s1 d σ' σ h R sr hr ?_)
    simp only [iTp, iSq, e] at p ⊢
    exact p
  | ok w h1 =>
    cases w with
    | tup ws =>
      refine .inl (s1 d σ' σ h R sr hr ?_)
      simp only [iTp, iSq, e] at p ⊢
      exact p
    | lst ws =>
      refine .inr (s2 d σ' σ h R sr hr ?_)
      simp only [iLs, iSq, e] at p ⊢
      exact p
    | scr ws =>
      refine .inr (s2 d σ' σ h R sr hr ?_)
      simp only [iLs, iSq, e] at p ⊢
      exact p
    | ref n =>
      refine .inr (s2 d σ' σ h R sr hr ?_)
      simp only [iLs, iSq, e] at p ⊢
      exact p
    | _ => simp only [iSq, e] at p; exact p.elim
/-! ### raise -/
structure ExcOk (K : PySem.W.Frag) (mg : Str → Option Value) (c : Str) : Prop where
  ex : ∃ C, mg c = some (.ref C) ∧ PySem.W.excIn K C [.type "ValueError", .type "Exception", .type "BaseException", .type "object"] "ValueError.__new__" = true ∧ PySem.W.keepIn K (.ref C) = true ∧
    PySem.W.subIn K (.ref C) (.type "BaseException") = some true ∧ PySem.W.typeIn K (.ref C) = some (.type "type")
def sRaise (c : Str) : SM := fun _ h => .ex ⟨c, none⟩ h
theorem xs_raise {x m : Str} {j : Nat} {p2 : Pos} (hx : ExcOk X.K X.mg x) (hc : X.calm = true) (tk : Tk X E) (hg : Gl X x) (hdb : (x == ("__debug__" : Str)) = false := by decide) : XS Th X E (.Raise (some (.Call (.Name x p) [.Constant (.str m) j p2] [] pos)) none pos') (sRaise x) := by
  obtain ⟨C, h1, h2, h3, h4, h5⟩ := hx
  refine ⟨_, ps_raise hc tk (pmk_own PySem.F.excBase_ValueError h2 h1 h3 (raises_own h4 h5) hg hdb), fun d σ' σ h D sr hr p => ?_⟩
  exact p d C none (Ext.refl d) hr h1 trivial
/-! ### x op= e -/
def sAug (i : Nat) (f : OpM) (m : EM) : SM := fun σ h => match σ[i]? with
  | some (some v) => (m σ h).bind fun w h1 => (f v w h1).bind fun z h2 => .ok (.nx (σ.set i (some z))) h2
  | _ => .no
theorem xs_aug {i : Nat} {x : Str} {op : Operator} {f : OpM} (hN : X.N.Nodup) (hi : X.N[i]? = some x) (hx : Loc X.env.scope x) (ho : XO Th X E (inplaceOp op) f) (he : XE Th X E e me) (hf : X.fn x = true ∨ X.env.scope.names.lookup x = some .local := by first | exact .inl rfl | exact .inr rfl | assumption) :
    XS Th X E (.AugAssign (.Name x pos') op e pos) (sAug i f me) := by
  obtain ⟨r, ro, so⟩ := ho
  obtain ⟨t, p, s⟩ := he
  refine ⟨_, ps_aug (ti := r) hN hi hx p ro hf, fun d σ' σ h D sr hr p => ?_⟩
  unfold sAug at p
  cases e1 : σ'[i]? with
  | none => rw [e1] at p; exact p.elim
  | some ow =>
    cases ow with
    | none => rw [e1] at p; exact p.elim
    | some w =>
      rw [e1] at p
      obtain ⟨v, e2, r2⟩ := sr.get i w e1
      refine ⟨v, e2, ?_⟩
      refine s d σ' σ h _ sr hr ((Po.then p).imp fun d1 y h1 x1 hr1 p1 yv ry => ?_)
      refine so d1 w y v yv h1 _ (r2.mono x1.F x1.ι) ry hr1 ((Po.then p1).imp fun d2 z h2 x2 hr2 p2 zv rz => ?_)
      exact p2.ok hr2 _ (((sr.mono x1).mono x2).set i rz)
theorem io_addI : XO Th X E (inplaceOp .Add) (fun x y h => match x, y with | .int i, .int j => .ok (.int (i + j)) h | _, _ => .no) := by
  refine ⟨_, iop_add, fun d a b x y h Q ra rb hr p => ?_⟩
  cases ra <;> first
    | exact p.elim
    | (cases rb <;> first
        | exact p.elim
        | exact ⟨_, _, rfl, rfl, p.ok hr _ .int⟩)
theorem io_subI : XO Th X E (inplaceOp .Sub) subW := by
  refine ⟨_, iop_sub, fun d a b x y h Q ra rb hr p => ?_⟩
  cases ra <;> first
    | exact p.elim
    | (cases rb <;> first
        | exact p.elim
        | exact ⟨_, _, rfl, rfl, p.ok hr _ .int⟩)
/-! ### {} -/
def eDn : EM := fun _ h => .ok (.ref h.length) (h ++ [.dK []])
theorem xe_dnew : XE Th X E (.Dict [] [] pos) eDn := ⟨_, pe_dnewK, fun d σ' σ h Q sr hr p q np => newO hr (.dK .nil) p q np⟩
/-! ### methods of dicts -/
def mGet2 (d k z : W) (h : Hq) : Re W := match dkW h d, keyW k with
  | some kvs, some k => .ok ((kGet kvs k).getD z) h
  | _, _ => .no
/-- d.get(k, z) -/
def eGet2 (mo mk mz : EM) : EM := fun σ h => (mo σ h).bind fun d h1 => match dkW h1 d with
  | some _ => (mk σ h1).bind fun k h2 => (mz σ h2).bind fun z h3 => mGet2 d k z h3
  | none => .no
theorem xe_get2 {k : Nat} {f : Expr} {mf : EM} (hr : Room k X.A) (ho : XE Th X E o mo) (he : XE Th X E e me) (hf : XE Th X E f mf) (m : M2 X o "get" apos e f cpos) : XE Th X E (.Call (.Attribute o "get" apos) [e, f] [] cpos) (eGet2 mo me mf) := by
  obtain ⟨t1, p1, s1⟩ := ho
  obtain ⟨t2, p2, s2⟩ := he
  obtain ⟨t3, p3, s3⟩ := hf
  refine ⟨_, pe_dget2 (hu_of hr) p1 p2 p3 m, fun d σ' σ h Q sr hr p => ?_⟩
  refine s1 d σ' σ h _ sr hr ((Po.then p).imp fun d1 w h1 e1 hr1 p1 v r => ?_)
  cases ed : dkW h1 w with
  | none => rw [ed] at p1; exact p1.elim
  | some kvs0 =>
    rw [ed] at p1
    obtain ⟨n, a, vs0, rfl, hn, _, rfl, g2, _⟩ := dkW_at hr1 r ed
    refine ⟨a, rfl, .inl ⟨_, .inl g2⟩, ?_⟩
    refine s2 d1 σ' σ h1 _ (sr.mono e1) hr1 ((Po.then p1).imp fun d2 y h2 e2 hr2 p2 yv ry => ?_)
    refine s3 d2 σ' σ h2 _ ((sr.mono e1).mono e2) hr2 ((Po.then p2).imp fun d3 z h3 e3 hr3 p3 zv rz => ?_)
    unfold mGet2 at p3
    cases ek : keyW y with
    | none => cases e5 : dkW h3 (.ref n) <;> (rw [ek, e5] at p3; exact p3.elim)
    | some k =>
      cases e5 : dkW h3 (.ref n) with
      | none => rw [ek, e5] at p3; exact p3.elim
      | some kvs =>
        rw [ek, e5] at p3
        obtain ⟨n', a', vs, en, hn', _, ea, g3, t⟩ := dkW_at hr3 (r.mono (e2.trans e3).F (e2.trans e3).ι) e5
        cases ea
        obtain rfl := ry.key ek
        refine ⟨_, DGet.k g3, ?_⟩
        cases e6 : kGet kvs k with
        | none =>
          simp only [e6] at p3
          rw [t.get.2 e6]
          exact p3.ok hr3 _ rz
        | some w =>
          simp only [e6] at p3
          obtain ⟨v, h5, h6⟩ := t.get.1 w e6
          rw [h5]
          exact p3.ok hr3 _ h6
/-- d.pop(k), there; d.pop(k, z) -/
def ePop1 (mo mk : EM) : EM := fun σ h => (mo σ h).bind fun d h1 => match dkW h1 d with
  | some _ => (mk σ h1).bind fun k h2 => match d, dkW h2 d, keyW k with
    | .ref n, some kvs, some k => match kGet kvs k with
      | some w => .ok w (h2.set n (.dK (kDrop kvs k)))
      | none => .no
    | _, _, _ => .no
  | none => .no
theorem xe_pop1 (ho : XE Th X E o mo) (he : XE Th X E e me) (m : M1 X o "pop" apos e cpos) : XE Th X E (.Call (.Attribute o "pop" apos) [e] [] cpos) (ePop1 mo me) := by
  obtain ⟨t1, p1, s1⟩ := ho
  obtain ⟨t2, p2, s2⟩ := he
  refine ⟨_, pe_dpop1 p1 p2 m, fun d σ' σ h Q sr hr p => ?_⟩
  refine s1 d σ' σ h _ sr hr ((Po.then p).imp fun d1 w h1 e1 hr1 p1 v r => ?_)
  cases ed : dkW h1 w with
  | none => rw [ed] at p1; exact p1.elim
  | some kvs0 =>
    rw [ed] at p1
    obtain ⟨n, a, vs0, rfl, hn, _, rfl, g2, _⟩ := dkW_at hr1 r ed
    refine ⟨a, rfl, .inl ⟨_, .inl g2⟩, ?_⟩
    refine s2 d1 σ' σ h1 _ (sr.mono e1) hr1 ((Po.then p1).imp fun d2 y h2 e2 hr2 p2 yv ry => ?_)
    cases ek : keyW y with
    | none => cases e5 : dkW h2 (.ref n) <;> (simp only [ek, e5] at p2; exact p2.elim)
    | some k =>
      cases e5 : dkW h2 (.ref n) with
      | none => simp only [ek, e5] at p2; exact p2.elim
      | some kvs =>
        simp only [ek, e5] at p2
        obtain ⟨n', a', vs, en, hn', _, ea, g3, t⟩ := dkW_at hr2 (r.mono e2.F e2.ι) e5
        cases ea
        cases en
        obtain rfl := ry.key ek
        cases e6 : kGet kvs k with
        | none => simp only [e6] at p2; exact p2.elim
        | some w =>
          simp only [e6] at p2
          obtain ⟨v, h5, h6⟩ := t.get.1 w e6
          obtain ⟨x1, x2⟩ := hr2.put hn' g3 (fun _ _ w => by cases w) (.dK (t.drop (k := k)))
          exact ⟨vs, k, v, g3, rfl, h5, p2 _ x1 x2 _ (h6.mono x1.F x1.ι)⟩
def ePop2 (mo mk mz : EM) : EM := fun σ h => (mo σ h).bind fun d h1 => match dkW h1 d with
  | some _ => (mk σ h1).bind fun k h2 => (mz σ h2).bind fun z h3 => match d, dkW h3 d, keyW k with
    | .ref n, some kvs, some k => match kGet kvs k with
      | some w => .ok w (h3.set n (.dK (kDrop kvs k)))
      | none => .ok z h3
    | _, _, _ => .no
  | none => .no
theorem xe_pop2 {f : Expr} {mf : EM} (ho : XE Th X E o mo) (he : XE Th X E e me) (hf : XE Th X E f mf) (m : M2 X o "pop" apos e f cpos) : XE Th X E (.Call (.Attribute o "pop" apos) [e, f] [] cpos) (ePop2 mo me mf) := by
  obtain ⟨t1, p1, s1⟩ := ho
  obtain ⟨t2, p2, s2⟩ := he
  obtain ⟨t3, p3, s3⟩ := hf
  refine ⟨_, pe_dpop2 p1 p2 p3 m, fun d σ' σ h Q sr hr p => ?_⟩
  refine s1 d σ' σ h _ sr hr ((Po.then p).imp fun d1 w h1 e1 hr1 p1 v r => ?_)
  cases ed : dkW h1 w with
  | none => rw [ed] at p1; exact p1.elim
  | some kvs0 =>
    rw [ed] at p1
    obtain ⟨n, a, vs0, rfl, hn, _, rfl, g2, _⟩ := dkW_at hr1 r ed
    refine ⟨a, rfl, .inl ⟨_, .inl g2⟩, ?_⟩
    refine s2 d1 σ' σ h1 _ (sr.mono e1) hr1 ((Po.then p1).imp fun d2 y h2 e2 hr2 p2 yv ry => ?_)
    refine s3 d2 σ' σ h2 _ ((sr.mono e1).mono e2) hr2 ((Po.then p2).imp fun d3 z h3 e3 hr3 p3 zv rz => ?_)
    cases ek : keyW y with
    | none => cases e5 : dkW h3 (.ref n) <;> (simp only [ek, e5] at p3; exact p3.elim)
    | some k =>
      cases e5 : dkW h3 (.ref n) with
      | none => simp only [ek, e5] at p3; exact p3.elim
      | some kvs =>
        simp only [ek, e5] at p3
        obtain ⟨n', a', vs, en, hn', _, ea, g3, t⟩ := dkW_at hr3 (r.mono (e2.trans e3).F (e2.trans e3).ι) e5
        cases ea
        cases en
        obtain rfl := ry.key ek
        refine ⟨vs, k, g3, rfl, fun v hv => ?_, fun hv => ?_⟩
        · cases e6 : kGet kvs k with
          | none => rw [t.get.2 e6] at hv; cases hv
          | some w =>
            simp only [e6] at p3
            obtain ⟨v', h5, h6⟩ := t.get.1 w e6
            rw [hv] at h5
            cases h5
            obtain ⟨x1, x2⟩ := hr3.put hn' g3 (fun _ _ w => by cases w) (.dK (t.drop (k := k)))
            exact p3 _ x1 x2 _ (h6.mono x1.F x1.ι)
        · cases e6 : kGet kvs k with
          | none =>
            simp only [e6] at p3
            exact p3.ok hr3 _ rz
          | some w =>
            obtain ⟨v', h5, _⟩ := t.get.1 w e6
            rw [hv] at h5
            cases h5
end
end Mo
end

section
set_option Elab.async false
set_option linter.all false
set_option autoImplicit false
set_option maxRecDepth 100000
set_option maxHeartbeats 1000000
namespace Mo
open PySem PySem.Spec PyProof.Rows L2
/-- a def of the top, by its statement -/
structure Dn (K : PySem.W.Frag) (mg : Str → Option Value) (x : Str) (st : Stmt) (ps : List Str) : Prop where
  ex : ∃ f fd, FunD K x x (defArgs st) (defBody st) (defScope st) [] [] f fd ∧ mg x = some (.ref f) ∧ Binds K fd ps []
/-- a method: the m-th of the class c -/
structure Dm (K : PySem.W.Frag) (mg : Str → Option Value) (c m qual : Str) (st : Stmt) (ps : List Str) : Prop where
  ex : ∃ C f fd, FunD K m qual (defArgs st) (defBody st) (defScope st) [] [] f fd ∧ mg c = some (.ref C) ∧ Cls K C ∧ Meth K C m f ∧ Binds K fd ps []
/-- an __init__ -/
structure Di (K : PySem.W.Frag) (mg : Str → Option Value) (c qual : Str) (st : Stmt) (ps : List Str) : Prop where
  ex : ∃ C f fd, FunD K "__init__" qual (defArgs st) (defBody st) (defScope st) [] [] f fd ∧ mg c = some (.ref C) ∧ Cls K C ∧ Mk K C f ∧ Binds K fd ps []
section
variable {Th : Tabl} {P : Program} {w : World} {K : PySem.W.Frag} {mg : Str → Option Value} {base : Heap}
theorem Dn.fn {x : Str} {st : Stmt} {N ps : List Str} {k : Nat} {m : SM} (d : Dn K mg x st ps) (S : FnScope N ps (defScope st))
    (hbody : ∀ (f : Addr) (cdv : Value) (A : Around) (outer : List Env) (s : Shared) (H : Hp) (E : XK), Room k (A.deeper (envOfC x (defScope st) s.heap.objs.size f cdv)) → Tk (cxOf (L2.CX P w) P w K mg base N x (defScope st) f cdv A outer s H E) E →
      XSs Th (cxOf (L2.CX P w) P w K mg base N x (defScope st) f cdv A outer s H E) E (defBody st) m) : Fn Th P w K mg base (k + 1) x ps.length (fBody N.length ps.length m) := by
  obtain ⟨f, fd, F, hm, hb⟩ := d
  exact ⟨f, fd, ps, fn_by F S (hbody f), hm, F.kp, hb⟩
theorem Dm.mt {c mn qual : Str} {st : Stmt} {N ps : List Str} {p0 : Str} {k : Nat} {m : SM} (d : Dm K mg c mn qual st (p0 :: ps)) (S : FnScope N (p0 :: ps) (defScope st))
    (hbody : ∀ (f : Addr) (cdv : Value) (A : Around) (outer : List Env) (s : Shared) (H : Hp) (E : XK), Room k (A.deeper (envOfC qual (defScope st) s.heap.objs.size f cdv)) → Tk (cxOf (L2.CX P w) P w K mg base N qual (defScope st) f cdv A outer s H E) E →
      XSs Th (cxOf (L2.CX P w) P w K mg base N qual (defScope st) f cdv A outer s H E) E (defBody st) m) : Mt Th P w K mg base (k + 1) c mn ps.length (fBody N.length (ps.length + 1) m) := by
  obtain ⟨C, f, fd, F, hm, cl, me, hb⟩ := d
  exact ⟨C, f, fd, p0 :: ps, fn_by F S (hbody f), hm, cl, me, hb⟩
theorem Fn.mono {x : Str} {n j k : Nat} {m : FM} (F : Fn Th P w K mg base j x n m) (h : j ≤ k) : Fn Th P w K mg base k x n m := by
  obtain ⟨f, fd, ps, F, a, b, c⟩ := F
  exact ⟨f, fd, ps, F.mono h, a, b, c⟩
/-- at level 0 nothing is promised -/
def noM : FM := fun _ _ => .no
theorem Dn.none {x : Str} {st : Stmt} {ps : List Str} (d : Dn K mg x st ps) : Fn Th P w K mg base 0 x ps.length noM := by
  obtain ⟨f, fd, F, hm, hb⟩ := d
  exact ⟨f, fd, ps, ⟨fun vs H Q E h => by obtain ⟨_, _, _, _, hl, _⟩ := h; exact hl, fun A outer s H args us vs Q E hr he hb2 hv hs => by obtain ⟨_, _, _, _, _, _, _, p⟩ := hs; exact p.elim⟩, hm, F.kp, hb⟩
end
/-- a constant of the top -/
structure Kc (K : PySem.W.Frag) (mg : Str → Option Value) (wo : World) (x : Str) (w : W) : Prop where
  ex : ∃ v u, mg x = some u ∧ RelV v u ∧ ∀ (Th : Tabl) F ι, VR ⟨K, mg, Th, wo⟩ F ι w v
theorem xe_const {Th : Tabl} {X : Cx} {E : XK} {x : Str} {w : W} {pos : Pos} (h : Kc X.K X.mg X.w x w) (hg : Gl X x) (hd : (x == ("__debug__" : Str)) = false := by decide) : XE Th X E (.Name x pos) (eC w) := by
  obtain ⟨v, u, hm, r, q⟩ := h
  exact xe_glob hg hm r (q Th) hd
theorem xe_const' {Th : Tabl} {X : Cx} {E : XK} {x : Str} {w : W} {pos : Pos} {m : EM} (h : Kc X.K X.mg X.w x w) (hm : m = eC w) (hg : Gl X x) (hd : (x == ("__debug__" : Str)) = false := by decide) : XE Th X E (.Name x pos) m := by
  subst hm; exact xe_const h hg hd
/-- an __init__ that stores its parameters -/
theorem Di.rc {P : Program} {w : World} {K : PySem.W.Frag} {mg : Str → Option Value} {base : Heap} {c qual p0 : Str} {st : Stmt} {N ns : List Str} {k : Nat} (d : Di K mg c qual st (p0 :: ns)) (S : FnScope N (p0 :: ns) (defScope st))
    (hbody : ∀ (C f : Addr) (cdv : Value) (A : Around) (outer : List Env) (s : Shared) (H : Hp) (E : XK), mg c = some (.ref C) → Cls K C → ∃ t, PSs (cxOf (L2.CX P w) P w K mg base N qual (defScope st) f cdv A outer s H E) (defBody st) t ∧
      ∀ (x dx : Addr) (us : List V) (Q : VK), us.length = ns.length → H x = some (.ins C dx []) → Q .non (upd H x (.ins C dx (ns.zip us))) → t { nx := fun _ H' => Q .non H', rt := Q } (L2.start N (.ref x :: us)) H) : Rc P w K mg base (k + 1) c ns := by
  obtain ⟨C, f, fd, F, hm, cl, me, hb⟩ := d
  refine ⟨C, f, fd, p0 :: ns, F.ok S (fun vs H Q E h => ?_) (fun cdv A outer s H vs Q E hr h => ?_), hm, me, hb⟩
  · obtain ⟨x, C, dx, us, rfl, hl, _⟩ := h
    simp [hl]
  · obtain ⟨x, C', dx, us, rfl, hl, hm', hx, q⟩ := h
    rw [hm] at hm'
    cases hm'
    obtain ⟨t, p, z⟩ := hbody C f cdv A outer s H E hm cl
    exact ⟨t, p, z x dx us Q hl hx q⟩
/-- BlkOk of the block in this def -/
theorem passO {X : Cx} {K : Value → Shared → Prop} {E₁ : Value → Shared → Prop} (hx : X.xe = fun e s' => wpAny (model X.prog X.w) X.A (leaving X.env e) (fun _ s'' => K e s'') E₁ s') : PassesOwn (model X.prog X.w) X.A X.env X.xe := passes_of hx
end Mo
end

section
set_option Elab.async false
set_option linter.all false
set_option autoImplicit false
set_option maxRecDepth 100000
set_option maxHeartbeats 1000000
namespace Mo
open PySem PySem.Spec PyProof.Rows L2

/-! ### the order of nested tuples of ints and texts -/
def cmL (f : PyData → PyData → Option Ordering) : List PyData → List PyData → Option Ordering
  | [], [] => some .eq
  | [], _ :: _ => some .lt
  | _ :: _, [] => some .gt
  | x :: xs, y :: ys => match f x y, cmL f xs ys with
    | some .eq, some r => some r
    | some o, some _ => some o
    | _, _ => none
def ltStr (x y : Str) : Bool := decide (x.cps.toList < y.cps.toList)
def cm : Nat → PyData → PyData → Option Ordering
  | 0, _, _ => none
  | k + 1, x, y => match x, y with
    | .int i, .int j => some (if i < j then .lt else if i = j then .eq else .gt)
    | .str x, .str y => some (if ltStr x y = true then .lt else if x = y then .eq else .gt)
    | .tuple xs, .tuple ys => cmL (cm k) xs ys
    | _, _ => none
theorem eqv_int (i j : Int) : PyData.eqv (.int i) (.int j) = (i == j) := by simp [PyData.eqv]
theorem eqv_str (i j : Str) : PyData.eqv (.str i) (.str j) = (i == j) := by simp [PyData.eqv]
theorem eqv_tup (i j : List PyData) : PyData.eqv (.tuple i) (.tuple j) = PyData.eqvAll i j := by simp [PyData.eqv]
theorem eqva_cc (x y : PyData) (i j : List PyData) : PyData.eqvAll (x :: i) (y :: j) = (PyData.eqv x y && PyData.eqvAll i j) := by simp [PyData.eqvAll]
theorem eqva_cn (x : PyData) (i : List PyData) : PyData.eqvAll (x :: i) [] = false := by simp [PyData.eqvAll]
theorem eqva_nc (x : PyData) (i : List PyData) : PyData.eqvAll [] (x :: i) = false := by simp [PyData.eqvAll]
theorem eqva_nn : PyData.eqvAll [] [] = true := by simp [PyData.eqvAll]
theorem ltStr_irr (x : Str) : ltStr x x = false := by
  unfold ltStr
  exact decide_eq_false (List.lt_irrefl _)
theorem cm_eqv : ∀ (k : Nat) (x y : PyData) (o : Ordering), cm k x y = some o → PyData.eqv x y = (o == .eq) := by
  intro k
  induction k with
  | zero => intro x y o h; cases h
  | succ k ih =>
    have all : ∀ (xs ys : List PyData) (o : Ordering), cmL (cm k) xs ys = some o → PyData.eqvAll xs ys = (o == .eq) := by
      intro xs
      induction xs with
      | nil =>
        intro ys o h
        cases ys with
        | nil => simp only [cmL, Option.some.injEq] at h; subst h; rw [eqva_nn]; rfl
        | cons y ys => simp only [cmL, Option.some.injEq] at h; subst h; rw [eqva_nc]; rfl
      | cons x xs ihx =>
        intro ys o h
        cases ys with
        | nil => simp only [cmL, Option.some.injEq] at h; subst h; rw [eqva_cn]; rfl
        | cons y ys =>
          rw [eqva_cc]
          simp only [cmL] at h
          cases e : cm k x y with
          | none => rw [e] at h; cases h
          | some o1 =>
            cases e2 : cmL (cm k) xs ys with
            | none => rw [e, e2] at h; cases o1 <;> cases h
            | some o2 =>
              rw [e, e2] at h
              rw [ih x y o1 e]
              cases o1 with
              | eq => simp only [Option.some.injEq] at h; subst h; rw [ihx ys _ e2]; rfl
              | lt => simp only [Option.some.injEq] at h; subst h; rfl
              | gt => simp only [Option.some.injEq] at h; subst h; rfl
    intro x y o h
    cases x <;> cases y <;> simp only [cm, reduceCtorEq] at h
    · rename_i i j
      simp only [Option.some.injEq] at h; subst h
      rw [eqv_int]
      by_cases h1 : i < j
      · rw [if_pos h1]; simp; omega
      · rw [if_neg h1]
        by_cases h2 : i = j
        · rw [if_pos h2]; simp [h2]
        · rw [if_neg h2]; simp [h2]
    · rename_i i j
      simp only [Option.some.injEq] at h; subst h
      rw [eqv_str]
      by_cases h1 : ltStr i j = true
      · rw [if_pos h1]
        have : i ≠ j := fun z => by rw [z, ltStr_irr] at h1; cases h1
        simp [this]
      · rw [if_neg h1]
        by_cases h2 : i = j
        · rw [if_pos h2]; simp [h2]
        · rw [if_neg h2]; simp [h2]
    · rw [eqv_tup]; exact all _ _ o h

/-! ### the machine's comparison -/
theorem rc_str {A : Around} {s : Shared} (a b : Str) (t u : Tok) : Ob.RcOp .Lt A s (.str a t) (.str b u) (ltStr a b) := fun _ _ _ _ q => PySem.P.lt_str (x := a) (y := b) q
def tupAt {h : Heap} {v : Value} {ds : List PyData} {as : List Addr} (r : Reads h v (.tuple ds) as) : ∃ a o n items bs, v = .ref a ∧ h.get? a = some o ∧ o.cls = .type "tuple" ∧ o.data = .seq items n ∧ ReadsAll h items.toList ds bs := by
  cases r with
  | tuple h1 h2 h3 h4 => exact ⟨_, _, _, _, _, rfl, h1, h2, h3, h4⟩
theorem readsAll_len {h : Heap} : ∀ {vs : List Value} {ds : List PyData} {as : List Addr}, ReadsAll h vs ds as → vs.length = ds.length
  | _, _, _, .nil => rfl
  | _, _, _, .cons _ t => congrArg (· + 1) (readsAll_len t)
theorem readsAll_get {h : Heap} : ∀ {vs : List Value} {ds : List PyData} {as : List Addr} (_ : ReadsAll h vs ds as) (j : Nat) (h1 : j < vs.length) (h2 : j < ds.length), ∃ bs, Reads h vs[j] ds[j] bs
  | _, _, _, .cons r _, 0, _, _ => ⟨_, r⟩
  | _, _, _, .cons _ t, j + 1, h1, h2 => readsAll_get t j (by simpa using h1) (by simpa using h2)
theorem readsAll_mem {h : Heap} : ∀ {vs : List Value} {ds : List PyData} {as : List Addr} (_ : ReadsAll h vs ds as) (v : Value), v ∈ vs → ∃ d bs, d ∈ ds ∧ Reads h v d bs
  | _, _, _, .cons r t, v, hm => by
    rcases List.mem_cons.mp hm with rfl | hm
    · exact ⟨_, _, List.mem_cons_self, r⟩
    · obtain ⟨d, bs, h1, h2⟩ := readsAll_mem t v hm
      exact ⟨d, bs, List.mem_cons_of_mem _ h1, h2⟩
theorem lexAt_cm {f : PyData → PyData → Option Ordering} (hf : ∀ x y o, f x y = some o → PyData.eqv x y = (o == .eq)) (X Y : List PyData) : ∀ (n i : Nat) (o : Ordering), i + n = min X.length Y.length → cmL f (X.drop i) (Y.drop i) = some o →
    Ob.lexAt (SeqAt.pairEq X Y) (fun j => f (X.getD j .none) (Y.getD j .none) == some .lt) (decide (X.length < Y.length)) i n = (o == .lt) := by
  intro n
  induction n with
  | zero =>
    intro i o hn h
    rw [Ob.lexAt_zero]
    by_cases h1 : X.length < Y.length
    · have e1 : X.drop i = [] := List.drop_eq_nil_of_le (by omega)
      have hlt : i < Y.length := by omega
      rw [e1, List.drop_eq_getElem_cons hlt] at h
      simp only [cmL, Option.some.injEq] at h; subst h
      simp [h1]
    · have e2 : Y.drop i = [] := List.drop_eq_nil_of_le (by omega)
      rw [e2] at h
      cases e1 : X.drop i with
      | nil => rw [e1] at h; simp only [cmL, Option.some.injEq] at h; subst h; simp [h1]
      | cons x xs => rw [e1] at h; simp only [cmL, Option.some.injEq] at h; subst h; simp [h1]
  | succ n ih =>
    intro i o hn h
    rw [Ob.lexAt_succ]
    have hx : i < X.length := by omega
    have hy : i < Y.length := by omega
    rw [List.drop_eq_getElem_cons hx, List.drop_eq_getElem_cons hy] at h
    have gx : X.getD i .none = X[i] := by simp [List.getD, hx]
    have gy : Y.getD i .none = Y[i] := by simp [List.getD, hy]
    simp only [cmL] at h
    cases e : f X[i] Y[i] with
    | none => rw [e] at h; cases h
    | some o1 =>
      cases e2 : cmL f (X.drop (i + 1)) (Y.drop (i + 1)) with
      | none => rw [e, e2] at h; cases o1 <;> cases h
      | some o2 =>
        rw [e, e2] at h
        have q : SeqAt.pairEq X Y i = (o1 == .eq) := by unfold SeqAt.pairEq; rw [gx, gy]; exact hf _ _ _ e
        rw [q]
        cases o1 with
        | eq => simp only [Option.some.injEq] at h; subst h; rw [if_pos (by decide)]; exact ih (i + 1) _ (by omega) e2
        | lt => simp only [Option.some.injEq] at h; subst h; rw [if_neg (by decide), gx, gy, e]; rfl
        | gt => simp only [Option.some.injEq] at h; subst h; rw [if_neg (by decide), gx, gy, e]; rfl
theorem canAll : ∀ {X : List PyData}, PyData.canLayAll0 X = true → ∀ x ∈ X, PyData.canLay0 x = true
  | [], _, x, h => by cases h
  | y :: X, c, x, h => by
    have c' : PyData.canLay0 y = true ∧ PyData.canLayAll0 X = true := by simpa [PyData.canLayAll0] using c
    rcases List.mem_cons.mp h with rfl | h
    · exact c'.1
    · exact canAll c'.2 x h
theorem depAll : ∀ (X : List PyData), ∀ x ∈ X, PyData.depth x ≤ PyData.depthAll X
  | [], x, h => by cases h
  | y :: X, x, h => by
    have e : PyData.depthAll (y :: X) = max (PyData.depth y) (PyData.depthAll X) := by simp [PyData.depthAll]
    rcases List.mem_cons.mp h with rfl | h
    · omega
    · have := depAll X x h; omega
theorem cmL_at {f : PyData → PyData → Option Ordering} : ∀ (X Y : List PyData) (o : Ordering) (j : Nat), cmL f X Y = some o → j < X.length → j < Y.length → ∃ o1, f (X.getD j .none) (Y.getD j .none) = some o1 := by
  intro X
  induction X with
  | nil => intro Y o j h h1; simp at h1
  | cons x X ih =>
    intro Y o j h h1 h2
    cases Y with
    | nil => simp at h2
    | cons y Y =>
      simp only [cmL] at h
      cases e : f x y with
      | none => rw [e] at h; cases h
      | some o1 =>
        cases e2 : cmL f X Y with
        | none => rw [e, e2] at h; cases o1 <;> cases h
        | some o2 =>
          cases j with
          | zero => exact ⟨o1, by simpa using e⟩
          | succ j =>
            obtain ⟨o3, e3⟩ := ih Y o2 j e2 (by simpa using h1) (by simpa using h2)
            exact ⟨o3, by simpa using e3⟩
/-- richCompare < of data -/
theorem rc_data {h : Heap} : ∀ (k : Nat) (x y : PyData) (o : Ordering) (A : Around) (s : Shared) (u v : Value) (as bs : List Addr), s.heap = h → cm k x y = some o → Reads h u x as → Reads h v y bs → PyData.canLay0 x = true → PyData.canLay0 y = true →
    A.units + k + min (PyData.depth x) (PyData.depth y) < cLine → Ob.RcOp .Lt A s u v (o == .lt) := by
  intro k
  induction k with
  | zero => intro x y o A s u v as bs _ h; cases h
  | succ k ih =>
    intro x y o A s u v as bs hs h ru rv cx cy hd
    subst hs
    cases x <;> cases y <;> simp only [cm, reduceCtorEq] at h
    · rename_i i j
      simp only [Option.some.injEq] at h; subst h
      cases ru; cases rv
      have : ((if i < j then Ordering.lt else if i = j then .eq else .gt) == .lt) = decide (i < j) := by
        by_cases h1 : i < j
        · simp [h1]
        · rw [if_neg h1]; by_cases h2 : i = j <;> simp [h1, h2]
      rw [this]
      exact Ob.RcOp.lt_int _ _ _ _
    · rename_i i j
      simp only [Option.some.injEq] at h; subst h
      cases ru; cases rv
      have : ((if ltStr i j = true then Ordering.lt else if i = j then .eq else .gt) == .lt) = ltStr i j := by
        by_cases h1 : ltStr i j = true
        · simp [h1]
        · rw [if_neg h1, show ltStr i j = false by simpa using h1]; by_cases h2 : i = j <;> simp [h2]
      rw [this]
      exact rc_str _ _ _ _
    · rename_i X Y
      obtain ⟨a, oa, na, ia, ba, rfl, a1, a2, a3, a4⟩ := tupAt ru
      obtain ⟨b, ob, nb, ib, bb, rfl, b1, b2, b3, b4⟩ := tupAt rv
      have la := readsAll_len a4
      have lb := readsAll_len b4
      have dx : PyData.depth (.tuple X) = PyData.depthAll X + 1 := by simp [PyData.depth]
      have dy : PyData.depth (.tuple Y) = PyData.depthAll Y + 1 := by simp [PyData.depth]
      rw [dx, dy] at hd
      have cX : PyData.canLayAll0 X = true := by simpa [PyData.canLay0] using cx
      have cY : PyData.canLayAll0 Y = true := by simpa [PyData.canLay0] using cy
      have q := lexAt_cm (cm_eqv k) X Y (min X.length Y.length) 0 o (by omega) h
      rw [Array.length_toList] at la lb
      rw [← q, ← la, ← lb]
      refine Ob.RcOp.tuples_lt ⟨oa, a1, a2, na, a3⟩ ⟨ob, b1, b2, nb, b3⟩ (by omega) (fun j h1 h2 => ?_) (fun j h1 h2 _ => ?_)
      · exact SeqAt.eqAt_readsAll X Y A.in1 s ia.toList ib.toList ba bb a4 b4 cX cY (by show A.units + 1 + _ < _; omega) j h1 h2
      · obtain ⟨o1, e1⟩ := cmL_at X Y o j h (by omega) (by omega)
        simp only [e1]
        have hx : j < X.length := by omega
        have hy : j < Y.length := by omega
        obtain ⟨c1, r1⟩ := readsAll_get a4 j h1 hx
        obtain ⟨c2, r2⟩ := readsAll_get b4 j h2 hy
        have gx : X.getD j .none = X[j] := by simp [List.getD, hx]
        have gy : Y.getD j .none = Y[j] := by simp [List.getD, hy]
        rw [gx, gy] at e1
        refine ih X[j] Y[j] o1 A.in1 s _ _ c1 c2 rfl e1 r1 r2 (canAll cX _ (List.getElem_mem hx)) (canAll cY _ (List.getElem_mem hy)) ?_
        have := depAll X _ (List.getElem_mem hx)
        have := depAll Y _ (List.getElem_mem hy)
        show A.units + 1 + k + _ < cLine
        omega
/-! ### the sort's own comparison -/
def isI : PyData → Bool
  | .int _ => true
  | _ => false
def isS : PyData → Bool
  | .str _ => true
  | _ => false
def isT : PyData → Bool
  | .tuple _ => true
  | _ => false
def hdD : PyData → PyData
  | .tuple (x :: _) => x
  | _ => .none
/-- what can be sorted by this -/
def okS (ds : List PyData) : Bool :=
  (ds.all isI || ds.all isS || (ds.all fun d => isI (hdD d)) || (ds.all fun d => isS (hdD d)) || (ds.all fun d => isT (hdD d))) && ds.all fun x => SeqAt.shaped x && ds.all fun y => (cm 8 x y).isSome
def cmp2 (x y : PyData) : Bool := cm 8 x y == some .lt
theorem one_false {prog : Program} {w : World} {A : Around} {E : Value → Shared → Prop} {s : Shared} {u v : Value} {b : Bool} {Q : Bool → Shared → Prop} (r : Ob.RcOp .Lt A s u v b) (q : Q b s) : wpAny (model prog w) A (PyProof.Rows.oneLt' false u v) Q E s :=
  PySem.W.kat_one u v (r prog w E _ q)
theorem katLex {prog : Program} {w : World} {A : Around} {s : Shared} {h : Heap} (hs : s.heap = h) {k : Nat} {b : Bool} {fin : Bool} {Q : Bool → Shared → Prop} (hd : A.units + k + 64 < cLine) : ∀ (X Y : List PyData) (us vs : List Value) (as bs : List Addr) (i : Nat) (o : Ordering), ReadsAll h us X as → ReadsAll h vs Y bs → cmL (cm k) X Y = some o →
    (∀ x ∈ X, SeqAt.shaped x = true) → (∀ y ∈ Y, SeqAt.shaped y = true) → (b = true → i = 0 → X ≠ [] → Y ≠ [] → (isI (X.getD 0 .none) = true ∧ isI (Y.getD 0 .none) = true) ∨ (isS (X.getD 0 .none) = true ∧ isS (Y.getD 0 .none) = true)) →
    (fin = decide (i + X.length < i + Y.length)) → Q (o == .lt) s → PySem.W.KatLex prog w A b fin Q (us.zip vs) i s := by
  intro X
  induction X with
  | nil =>
    intro Y us vs as bs i o ru rv h sx sy hb hf q
    cases ru
    cases Y with
    | nil =>
      simp only [cmL, Option.some.injEq] at h; subst h
      show Q fin s
      rw [hf]; simpa using q
    | cons y Y =>
      simp only [cmL, Option.some.injEq] at h; subst h
      show Q fin s
      rw [hf]; simpa using q
  | cons x X ih =>
    intro Y us vs as bs i o ru rv h sx sy hb hf q
    cases Y with
    | nil =>
      cases rv
      simp only [cmL, Option.some.injEq] at h; subst h
      rw [List.zip_nil_right]
      show Q fin s
      rw [hf, decide_eq_false (by simp)]; exact q
    | cons y Y =>
      cases ru with
      | cons r1 ru =>
      rename_i u us a1 a2
      cases rv with
      | cons r2 rv =>
      rename_i v vs b1 b2
      simp only [cmL] at h
      cases e : cm k x y with
      | none => rw [e] at h; cases h
      | some o1 =>
        cases e2 : cmL (cm k) X Y with
        | none => rw [e, e2] at h; cases o1 <;> cases h
        | some o2 =>
          rw [e, e2] at h
          have hx := sx x List.mem_cons_self
          have hy := sy y List.mem_cons_self
          have hx' : PyData.canLay0 x = true ∧ PyData.depth x ≤ 64 := by simpa [SeqAt.shaped] using hx
          have hy' : PyData.canLay0 y = true ∧ PyData.depth y ≤ 64 := by simpa [SeqAt.shaped] using hy
          subst hs
          show wpAny (model prog w) A (eqBool u v) _ _ s
          refine SeqAt.eqAt_reads x y A s u v _ _ r1 r2 hx'.1 hy'.1 (by omega) prog w _ _ ?_
          rw [cm_eqv k x y o1 e]
          have hlt : ∀ (q : Q (o1 == .lt) s), wpAny (model prog w) A (PyProof.Rows.oneLt' (b && i == 0) u v) Q (fun _ _ => False) s := by
            intro q
            by_cases hbi : (b && i == 0) = true
            · rw [hbi]
              have hb' : b = true ∧ i = 0 := by simpa using hbi
              have hk := hb hb'.1 hb'.2 (by simp) (by simp)
              simp only [List.getD_cons_zero] at hk
              rcases hk with ⟨k1, k2⟩ | ⟨k1, k2⟩
              · cases x <;> simp only [isI, Bool.false_eq_true] at k1
                cases y <;> simp only [isI, Bool.false_eq_true] at k2
                cases r1; cases r2
                rename_i i1 j1 _ _
                refine TS.oneLt_ints true ?_
                cases k with
                | zero => cases e
                | succ k =>
                simp only [cm, Option.some.injEq] at e
                subst e
                have : ((if i1 < j1 then Ordering.lt else if i1 = j1 then .eq else .gt) == .lt) = decide (i1 < j1) := by
                  by_cases h1 : i1 < j1
                  · simp [h1]
                  · rw [if_neg h1]; by_cases h2 : i1 = j1 <;> simp [h1, h2]
                rw [this] at q
                exact q
              · cases x <;> simp only [isS, Bool.false_eq_true] at k1
                cases y <;> simp only [isS, Bool.false_eq_true] at k2
                cases r1; cases r2
                rename_i i1 j1 _ _
                rw [← PyProof.Rows.keyLt'_oneType]
                refine PySem.W.kas_lt_str ?_
                cases k with
                | zero => cases e
                | succ k =>
                simp only [cm, Option.some.injEq] at e
                subst e
                have : ((if ltStr i1 j1 = true then Ordering.lt else if i1 = j1 then .eq else .gt) == .lt) = ltStr i1 j1 := by
                  by_cases h1 : ltStr i1 j1 = true
                  · simp [h1]
                  · rw [if_neg h1, show ltStr i1 j1 = false by simpa using h1]; by_cases h2 : i1 = j1 <;> simp [h2]
                rw [this] at q
                exact q
            · rw [show (b && i == 0) = false by simpa using hbi]
              exact one_false (rc_data k x y o1 A s u v _ _ rfl e r1 r2 hx'.1 hy'.1 (by omega)) q
          cases o1 with
          | eq =>
            simp only [Option.some.injEq] at h; subst h
            rw [if_pos (by decide)]
            exact ih Y us vs _ _ (i + 1) _ ru rv e2 (fun z hz => sx z (List.mem_cons_of_mem _ hz)) (fun z hz => sy z (List.mem_cons_of_mem _ hz)) (fun _ hz => absurd hz (by omega)) (by rw [hf]; simp only [List.length_cons]; congr 1; exact propext ⟨fun _ => by omega, fun _ => by omega⟩) q
          | lt => simp only [Option.some.injEq] at h; subst h; rw [if_neg (by decide)]; exact hlt q
          | gt => simp only [Option.some.injEq] at h; subst h; rw [if_neg (by decide)]; exact hlt q
/-! ### a code with the same order -/
def codeS : List Nat → List Int
  | [] => [0]
  | c :: cs => ((c : Int) + 1) :: codeS cs
def codeL (f : PyData → List Int) : List PyData → List Int
  | [] => [0]
  | x :: xs => 1 :: (f x ++ codeL f xs)
def code : Nat → PyData → List Int
  | 0, _ => []
  | k + 1, x => match x with
    | .int i => [i]
    | .str x => codeS x.cps.toList
    | .tuple xs => codeL (code k) xs
    | _ => []
theorem codeS_lt : ∀ (a b : List Nat) (r r' : List Int), a < b → codeS a ++ r < codeS b ++ r'
  | [], [], r, r', h => absurd h (List.lt_irrefl _)
  | [], c :: cs, r, r', h => by
    simp only [codeS, List.cons_append, List.nil_append]
    exact List.cons_lt_cons_iff.mpr (.inl (by omega))
  | c :: cs, [], r, r', h => absurd h (List.not_lt_nil _)
  | c :: cs, e :: es, r, r', h => by
    simp only [codeS, List.cons_append]
    rcases List.cons_lt_cons_iff.mp h with h1 | ⟨h1, h2⟩
    · exact List.cons_lt_cons_iff.mpr (.inl (by omega))
    · subst h1; exact List.cons_lt_cons_iff.mpr (.inr ⟨rfl, codeS_lt cs es r r' h2⟩)
theorem nat_tri : ∀ (a b : List Nat), ¬ a < b → a ≠ b → b < a
  | [], [], _, h => absurd rfl h
  | [], c :: cs, h, _ => absurd (List.nil_lt_cons _ _) h
  | c :: cs, [], _, _ => List.nil_lt_cons _ _
  | c :: cs, e :: es, h, n => by
    rcases Nat.lt_trichotomy c e with h1 | rfl | h1
    · exact absurd (List.cons_lt_cons_iff.mpr (.inl h1)) h
    · refine List.cons_lt_cons_iff.mpr (.inr ⟨rfl, nat_tri cs es (fun z => h (List.cons_lt_cons_iff.mpr (.inr ⟨rfl, z⟩))) (fun z => n (by rw [z]))⟩)
    · exact List.cons_lt_cons_iff.mpr (.inl h1)
theorem code_cm : ∀ (k : Nat) (x y : PyData) (o : Ordering), cm k x y = some o → ∀ (r r' : List Int), (o = .lt → code k x ++ r < code k y ++ r') ∧ (o = .gt → code k y ++ r' < code k x ++ r) ∧ (o = .eq → code k x = code k y) := by
  intro k
  induction k with
  | zero => intro x y o h; cases h
  | succ k ih =>
    have all : ∀ (xs ys : List PyData) (o : Ordering), cmL (cm k) xs ys = some o → ∀ (r r' : List Int), (o = .lt → codeL (code k) xs ++ r < codeL (code k) ys ++ r') ∧ (o = .gt → codeL (code k) ys ++ r' < codeL (code k) xs ++ r) ∧ (o = .eq → codeL (code k) xs = codeL (code k) ys) := by
      intro xs
      induction xs with
      | nil =>
        intro ys o h r r'
        cases ys with
        | nil => simp only [cmL, Option.some.injEq] at h; subst h; exact ⟨fun z => (nomatch z), fun z => (nomatch z), fun _ => rfl⟩
        | cons y ys =>
          simp only [cmL, Option.some.injEq] at h; subst h
          refine ⟨fun _ => ?_, fun z => (nomatch z), fun z => (nomatch z)⟩
          simp only [codeL, List.cons_append]
          exact List.cons_lt_cons_iff.mpr (.inl (by omega))
      | cons x xs ihx =>
        intro ys o h r r'
        cases ys with
        | nil =>
          simp only [cmL, Option.some.injEq] at h; subst h
          refine ⟨fun z => (nomatch z), fun _ => ?_, fun z => (nomatch z)⟩
          simp only [codeL, List.cons_append]
          exact List.cons_lt_cons_iff.mpr (.inl (by omega))
        | cons y ys =>
          simp only [cmL] at h
          cases e : cm k x y with
          | none => rw [e] at h; cases h
          | some o1 =>
            cases e2 : cmL (cm k) xs ys with
            | none => rw [e, e2] at h; cases o1 <;> cases h
            | some o2 =>
              rw [e, e2] at h
              obtain ⟨l1, g1, q1⟩ := ih x y o1 e (codeL (code k) xs ++ r) (codeL (code k) ys ++ r')
              obtain ⟨l2, g2, q2⟩ := ihx ys o2 e2 r r'
              simp only [codeL, List.cons_append, List.append_assoc]
              cases o1 with
              | eq =>
                simp only [Option.some.injEq] at h; subst h
                rw [q1 rfl]
                refine ⟨fun z => ?_, fun z => ?_, fun z => by rw [q2 z]⟩
                · exact List.cons_lt_cons_iff.mpr (.inr ⟨rfl, List.append_left_lt (l2 z)⟩)
                · exact List.cons_lt_cons_iff.mpr (.inr ⟨rfl, List.append_left_lt (g2 z)⟩)
              | lt =>
                simp only [Option.some.injEq] at h; subst h
                exact ⟨fun _ => List.cons_lt_cons_iff.mpr (.inr ⟨rfl, l1 rfl⟩), fun z => (nomatch z), fun z => (nomatch z)⟩
              | gt =>
                simp only [Option.some.injEq] at h; subst h
                exact ⟨fun z => (nomatch z), fun _ => List.cons_lt_cons_iff.mpr (.inr ⟨rfl, g1 rfl⟩), fun z => (nomatch z)⟩
    intro x y o h r r'
    cases x <;> cases y <;> simp only [cm, reduceCtorEq] at h
    · rename_i i j
      simp only [Option.some.injEq] at h; subst h
      simp only [code, List.cons_append, List.nil_append]
      by_cases h1 : i < j
      · rw [if_pos h1]; exact ⟨fun _ => List.cons_lt_cons_iff.mpr (.inl h1), fun z => (nomatch z), fun z => (nomatch z)⟩
      · rw [if_neg h1]
        by_cases h2 : i = j
        · rw [if_pos h2]; exact ⟨fun z => (nomatch z), fun z => (nomatch z), fun _ => by rw [h2]⟩
        · rw [if_neg h2]; exact ⟨fun z => (nomatch z), fun _ => List.cons_lt_cons_iff.mpr (.inl (by omega)), fun z => (nomatch z)⟩
    · rename_i i j
      simp only [Option.some.injEq] at h; subst h
      simp only [code]
      by_cases h1 : ltStr i j = true
      · rw [if_pos h1]; exact ⟨fun _ => codeS_lt _ _ _ _ (of_decide_eq_true h1), fun z => (nomatch z), fun z => (nomatch z)⟩
      · rw [if_neg h1]
        by_cases h2 : i = j
        · rw [if_pos h2]; exact ⟨fun z => (nomatch z), fun z => (nomatch z), fun _ => by rw [h2]⟩
        · rw [if_neg h2]
          refine ⟨fun z => (nomatch z), fun _ => codeS_lt _ _ _ _ (nat_tri _ _ (fun z => h1 (decide_eq_true z)) (fun z => h2 ?_)), fun z => (nomatch z)⟩
          cases i; cases j
          simp only [Array.toList_inj] at z ⊢
          exact congrArg _ z
    · exact all _ _ o h r r'
theorem code_lt {k : Nat} {x y : PyData} {o : Ordering} (h : cm k x y = some o) : decide (code k x < code k y) = (o == .lt) := by
  obtain ⟨l, g, q⟩ := code_cm k x y o h [] []
  simp only [List.append_nil] at l g
  cases o with
  | lt => exact decide_eq_true (l rfl)
  | eq => rw [q rfl]; exact decide_eq_false (List.lt_irrefl _)
  | gt => exact decide_eq_false (fun z => List.lt_irrefl _ (List.lt_trans z (g rfl)))
noncomputable def ltV (h : Heap) (u v : Value) : Bool := decide (code 8 (SeqAt.readOf h u) < code 8 (SeqAt.readOf h v))
theorem swo_ltV (h : Heap) : SrtO.Swo (ltV h) := by
  refine ⟨fun x y z => ?_, fun x y z h1 h2 => ?_⟩
  · exact decide_eq_false (fun q => List.lt_irrefl _ (List.lt_trans (of_decide_eq_true z) q))
  · have h1 := of_decide_eq_false h1
    have h2 := of_decide_eq_false h2
    refine decide_eq_false (fun q => ?_)
    have a1 := List.not_lt.mp h1
    have a2 := List.not_lt.mp h2
    exact List.not_lt.mpr (List.le_trans a1 a2) q
theorem look_int {M : Model} {h : Heap} {v : Value} {d : PyData} {as : List Addr} (r : Reads h v d as) (k : isI d = true) : PySem.W.Looks M h (typeOf v) (.type "int") := by
  cases d <;> simp only [isI, Bool.false_eq_true] at k
  cases r
  intro A Q E s _ q
  exact wpAny_pure q
theorem look_str {M : Model} {h : Heap} {v : Value} {d : PyData} {as : List Addr} (r : Reads h v d as) (k : isS d = true) : PySem.W.Looks M h (typeOf v) (.type "str") := by
  cases d <;> simp only [isS, Bool.false_eq_true] at k
  cases r
  intro A Q E s _ q
  exact wpAny_pure q
theorem look_tup {M : Model} {h : Heap} {v : Value} {d : PyData} {as : List Addr} (r : Reads h v d as) (k : isT d = true) : PySem.W.Looks M h (typeOf v) (.type "tuple") := by
  cases d <;> simp only [isT, Bool.false_eq_true] at k
  obtain ⟨a, o, n, items, bs, rfl, h1, h2, h3, h4⟩ := tupAt r
  intro A Q E s hk q
  refine wpAny_bind (PySem.W.Looks.ld (M := M) h1 A _ E s hk (wpAny_pure ?_))
  rw [h2]; exact q
theorem heads {h : Heap} : ∀ {vs : List Value} {ds : List PyData} {as : List Addr}, ReadsAll h vs ds as → (∀ d ∈ ds, ∃ x xs, d = .tuple (x :: xs)) → ∃ fs bs, PySem.W.KatTups h vs fs ∧ ReadsAll h fs (ds.map hdD) bs
  | _, _, _, .nil, _ => ⟨[], [], trivial, .nil⟩
  | _, _, _, .cons r t, hd => by
    obtain ⟨fs, bs, k, q⟩ := heads t (fun d hd' => hd d (List.mem_cons_of_mem _ hd'))
    obtain ⟨x, xs, rfl⟩ := hd _ List.mem_cons_self
    obtain ⟨a, o, n, items, cs, rfl, h1, h2, h3, h4⟩ := tupAt r
    generalize hl : items.toList = its at h4
    cases h4 with
    | cons r1 t1 =>
      refine ⟨_ :: fs, _, ⟨⟨a, o, items, n, rfl, h1, h2, h3, ?_⟩, k⟩, .cons r1 q⟩
      rw [← Array.getElem?_toList, hl]; rfl
theorem okS_pair {ds : List PyData} (h : okS ds = true) : (∀ x ∈ ds, SeqAt.shaped x = true) ∧ ∀ x ∈ ds, ∀ y ∈ ds, ∃ o, cm 8 x y = some o := by
  unfold okS at h
  rw [Bool.and_eq_true] at h
  have h2 := List.all_eq_true.mp h.2
  refine ⟨fun x hx => ?_, fun x hx y hy => ?_⟩
  · have := h2 x hx; rw [Bool.and_eq_true] at this; exact this.1
  · have := h2 x hx; rw [Bool.and_eq_true] at this
    exact Option.isSome_iff_exists.mp (List.all_eq_true.mp this.2 y hy)
theorem sortable {prog : Program} {w : World} {A : Around} {s0 : Heap} {s : Shared} {a : Addr} {vs : List Value} {ds : List PyData} {as : List Addr} (hr : ReadsAll s0 vs ds as) (ok : okS ds = true) (h2 : 2 ≤ vs.length) (hA : A.units + 80 < cLine)
    (hk : ∀ b o, s0.get? b = some o → b ≠ a ∧ s.heap.get? b = some o) : SrtO.SortableO prog w A s a vs (ltV s0) := by
  intro h' hk'
  have kp : ∀ b o, s0.get? b = some o → h'.get? b = some o := fun b o e => hk' b o (hk b o e).1 (hk b o e).2
  have hr' := PyProof.Rows.ReadsAll.keeps kp hr
  obtain ⟨hsh, hcm⟩ := okS_pair ok
  have rd : ∀ v ∈ vs, ∃ d bs, d ∈ ds ∧ Reads h' v d bs ∧ SeqAt.readOf s0 v = d := fun v hv => by
    obtain ⟨d, bs, h1, h2⟩ := readsAll_mem hr v hv
    have hc : PyData.canLay0 d = true := by have := hsh d h1; simp only [SeqAt.shaped, Bool.and_eq_true] at this; exact this.1
    exact ⟨d, bs, h1, PyProof.Rows.Reads.keeps kp h2, SeqAt.readOf_eq hc h2⟩
  have lt : ∀ (u v : Value) (x y : PyData) (o : Ordering), SeqAt.readOf s0 u = x → SeqAt.readOf s0 v = y → cm 8 x y = some o → (o == .lt) = ltV s0 u v := by
    intro u v x y o e1 e2 h
    unfold ltV
    rw [e1, e2, code_lt h]
  -- tuples
  have tups : ∀ (b : Bool) (T : Value), (T != Value.type "tuple") = b → (T == T) = true → (∀ d ∈ ds, ∃ x xs, d = .tuple (x :: xs)) → (∀ (v : Value) (d : PyData) (bs : List Addr) (M : Model), d ∈ ds.map hdD → Reads h' v d bs → PySem.W.Looks M h' (typeOf v) T) →
      (b = true → ∀ x ∈ ds, ∀ y ∈ ds, (isI (hdD x) = true ∧ isI (hdD y) = true) ∨ (isS (hdD x) = true ∧ isS (hdD y) = true)) → ∃ κ, (∀ (Q : PyProof.Rows.SortKind → Shared → Prop) (E : Value → Shared → Prop), Q κ { s with heap := h' } → wpAny (model prog w) A (PyProof.Rows.keyKind' vs.toArray) Q E { s with heap := h' }) ∧ SrtO.Cmp prog w A { s with heap := h' } κ (fun p => p.1 ∈ vs) (SrtO.lt2 (ltV s0)) := by
    intro b T hb hT hne hlk hk0
    obtain ⟨fs, bs, kt, rf⟩ := heads hr' hne
    have hl := readsAll_len hr'
    have hlf := readsAll_len rf
    rw [List.length_map] at hlf
    refine ⟨PyProof.Rows.tuples' b, fun Q E q => ?_, ?_⟩
    · refine PySem.W.kat_kind (T := T) (fs := fs) kt (by omega) (fun v hv => ?_) hT (by rw [hb]; exact q)
      obtain ⟨d, bs, h1, h2⟩ := readsAll_mem rf v hv
      exact hlk v d bs _ h1 h2
    · intro p q hp hq
      obtain ⟨x, b1, m1, r1, e1⟩ := rd p.1 hp
      obtain ⟨y, b2, m2, r2, e2⟩ := rd q.1 hq
      obtain ⟨o, ho⟩ := hcm x m1 y m2
      obtain ⟨x1, xs, rfl⟩ := hne x m1
      obtain ⟨y1, ys, rfl⟩ := hne y m2
      have kk := fun hb' : b = true => hk0 hb' _ m1 _ m2
      have s1 := hsh _ m1
      have s2 := hsh _ m2
      have lto := lt p.1 q.1 _ _ o e1 e2 ho
      obtain ⟨a1, o1, n1, i1, c1, ep, g1, g2, g3, g4⟩ := tupAt r1
      obtain ⟨a2, o2, n2, i2, c2, eq, f1, f2, f3, f4⟩ := tupAt r2
      show wpAny _ A (PyProof.Rows.keyLt' _ p.1 q.1) _ _ _
      have l1 := readsAll_len g4
      have l2 := readsAll_len f4
      rw [Array.length_toList] at l1 l2
      have goal : wpAny (model prog w) A (PyProof.Rows.keyLt' (PyProof.Rows.tuples' b) (Value.ref a1) (Value.ref a2)) (fun r s' => s' = { s with heap := h' } ∧ r = SrtO.lt2 (ltV s0) p q) (fun _ _ => False) { s with heap := h' } := by
        refine PySem.W.kat_lt (s := { s with heap := h' }) g1 g3 f1 f3 ?_
        have c1 : ∀ z ∈ x1 :: xs, SeqAt.shaped z = true := fun z hz => by
          simp only [SeqAt.shaped, Bool.and_eq_true, decide_eq_true_eq] at s1 ⊢
          have dx : PyData.depth (.tuple (x1 :: xs)) = PyData.depthAll (x1 :: xs) + 1 := by simp [PyData.depth]
          have cX : PyData.canLayAll0 (x1 :: xs) = true := by simpa [PyData.canLay0] using s1.1
          exact ⟨canAll cX z hz, by have := depAll _ z hz; omega⟩
        have c2 : ∀ z ∈ y1 :: ys, SeqAt.shaped z = true := fun z hz => by
          simp only [SeqAt.shaped, Bool.and_eq_true, decide_eq_true_eq] at s2 ⊢
          have dx : PyData.depth (.tuple (y1 :: ys)) = PyData.depthAll (y1 :: ys) + 1 := by simp [PyData.depth]
          have cX : PyData.canLayAll0 (y1 :: ys) = true := by simpa [PyData.canLay0] using s2.1
          exact ⟨canAll cX z hz, by have := depAll _ z hz; omega⟩
        refine katLex (s := { s with heap := h' }) (h := h') rfl (k := 7) (by omega) (x1 :: xs) (y1 :: ys) _ _ _ _ 0 o g4 f4 (by simpa [cm] using ho) c1 c2 (fun hb' _ _ _ => by simpa [hdD] using kk hb') (by rw [l1, l2, Nat.zero_add, Nat.zero_add]) ⟨rfl, ?_⟩
        exact lto
      rw [← ep, ← eq] at goal
      exact goal
  have ok1 := ok
  unfold okS at ok1
  rw [Bool.and_eq_true] at ok1
  have tne : ∀ f : PyData → Bool, f .none = false → (∀ d ∈ ds, f (hdD d) = true) → ∀ d ∈ ds, ∃ x xs, d = .tuple (x :: xs) := by
    intro f hf ha d hd
    have := ha d hd
    cases d with
    | tuple xs => cases xs with
      | nil => simp only [hdD] at this; rw [hf] at this; cases this
      | cons x xs => exact ⟨x, xs, rfl⟩
    | _ => simp only [hdD] at this; rw [hf] at this; cases this
  have k1 := ok1.1
  simp only [Bool.or_eq_true] at k1
  rcases k1 with (((k | k) | k) | k) | k
  · have k := List.all_eq_true.mp k
    refine ⟨PyProof.Rows.oneType', fun Q E q => ?_, ?_⟩
    · refine PySem.W.kas_kind (T := .type "int") h2 (fun v hv => ?_) (by decide) (by decide) q
      obtain ⟨d, bs, m, r, _⟩ := rd v hv
      exact look_int r (k d m)
    · intro p q hp hq
      obtain ⟨x, b1, m1, r1, e1⟩ := rd p.1 hp
      obtain ⟨y, b2, m2, r2, e2⟩ := rd q.1 hq
      obtain ⟨o, ho⟩ := hcm x m1 y m2
      have lto := lt p.1 q.1 _ _ o e1 e2 ho
      have k1 := k x m1
      have k2 := k y m2
      obtain ⟨p1, p2⟩ := p
      obtain ⟨q1, q2⟩ := q
      simp only at r1 r2 lto ⊢
      cases x <;> simp only [isI, Bool.false_eq_true] at k1
      cases y <;> simp only [isI, Bool.false_eq_true] at k2
      rename_i i j
      cases r1; cases r2
      refine PySem.W.kat_lt_int ⟨rfl, ?_⟩
      show _ = ltV s0 _ _
      rw [← lto]
      simp only [cm, Option.some.injEq] at ho
      subst ho
      by_cases h1 : i < j
      · simp [h1]
      · rw [if_neg h1]; by_cases h2 : i = j <;> simp [h1, h2]
  · have k := List.all_eq_true.mp k
    refine ⟨PyProof.Rows.oneType', fun Q E q => ?_, ?_⟩
    · refine PySem.W.kas_kind (T := .type "str") h2 (fun v hv => ?_) (by decide) (by decide) q
      obtain ⟨d, bs, m, r, _⟩ := rd v hv
      exact look_str r (k d m)
    · intro p q hp hq
      obtain ⟨x, b1, m1, r1, e1⟩ := rd p.1 hp
      obtain ⟨y, b2, m2, r2, e2⟩ := rd q.1 hq
      obtain ⟨o, ho⟩ := hcm x m1 y m2
      have lto := lt p.1 q.1 _ _ o e1 e2 ho
      have k1 := k x m1
      have k2 := k y m2
      obtain ⟨p1, p2⟩ := p
      obtain ⟨q1, q2⟩ := q
      simp only at r1 r2 lto ⊢
      cases x <;> simp only [isS, Bool.false_eq_true] at k1
      cases y <;> simp only [isS, Bool.false_eq_true] at k2
      rename_i i j
      cases r1; cases r2
      refine PySem.W.kas_lt_str ⟨rfl, ?_⟩
      show _ = ltV s0 _ _
      rw [← lto]
      simp only [cm, Option.some.injEq] at ho
      subst ho
      show ltStr i j = _
      by_cases h1 : ltStr i j = true
      · simp [h1]
      · rw [if_neg h1, show ltStr i j = false by simpa using h1]; by_cases h2 : i = j <;> simp [h2]
  · have k := List.all_eq_true.mp k
    refine tups true (.type "int") (by decide) (by decide) (tne isI rfl k) (fun v d bs M hd r => ?_) (fun _ x hx y hy => .inl ⟨k x hx, k y hy⟩)
    obtain ⟨e, he, rfl⟩ := List.mem_map.mp hd
    exact look_int r (k e he)
  · have k := List.all_eq_true.mp k
    refine tups true (.type "str") (by decide) (by decide) (tne isS rfl k) (fun v d bs M hd r => ?_) (fun _ x hx y hy => .inr ⟨k x hx, k y hy⟩)
    obtain ⟨e, he, rfl⟩ := List.mem_map.mp hd
    exact look_str r (k e he)
  · have k := List.all_eq_true.mp k
    refine tups false (.type "tuple") (by decide) (by decide) (tne isT rfl k) (fun v d bs M hd r => ?_) (fun z => (nomatch z))
    obtain ⟨e, he, rfl⟩ := List.mem_map.mp hd
    exact look_tup r (k e he)
theorem sort_meets (a : Addr) (vs : List Value) (n : Nat) (s0 : Heap) (ds : List PyData) (as : List Addr) (hl : vs.length ≤ sizeLine) (hr : ReadsAll s0 vs ds as) (hok : vs.length < 2 ∨ okS ds = true) :
    Meets (Builtin.«list.sort» ⟨[.ref a], []⟩) (fun A R s => A.units + 90 < cLine ∧ s.heap.get? a = some (PyProof.Rows.seqObj "list" vs.toArray n) ∧ (∀ b o, s0.get? b = some o → b ≠ a ∧ s.heap.get? b = some o) ∧
      ∀ out : List Value, SrtO.Srtd (ltV s0) out → out.Perm vs → R (.ok (.ret Value.none)) { s with heap := PyProof.Rows.sortedHeap s.heap a vs out.toArray }) :=
  .of_wp fun prog w A R s h => by
    obtain ⟨hA, h1, h2, h3⟩ := h
    refine SrtO.list_sort_ord (swo_ltV s0) h1 hl (fun h2' => ?_) (fun out so st => ?_)
    · rcases hok with hok | hok
      · omega
      · exact sortable hr hok h2' (by show A.units + 1 + 80 < _; omega) h2
    · exact ⟨_, rfl, h3 out so st.perm⟩
theorem get_lt {h : Heap} {b : Addr} {o : Obj} (e : h.get? b = some o) : b < h.objs.size := by
  unfold Heap.get? at e
  rcases Nat.lt_or_ge b h.objs.size with z | z
  · exact z
  · rw [Array.getElem?_eq_none z] at e; cases e
theorem sorted_seq {prog : Program} {w : World} {A : Around} {E : Value → Shared → Prop} {s : Shared} {l : Addr} {vs : List Value} {T : String} {o : Obj} {n : Nat} {ds : List PyData} {as : List Addr} {Q : Value → Shared → Prop}
    (hT : T = "list" ∨ T = "tuple") (ho : s.heap.get? l = some o) (hc : o.cls = .type T) (hd : o.data = .seq vs.toArray n) (hl : vs.length ≤ sizeLine) (hr : ReadsAll s.heap vs ds as) (hok : vs.length < 2 ∨ okS ds = true) (hA : A.units + 96 < cLine)
    (q : ∀ (h0 h' : Heap) (a : Addr) (out : List Value) (e : Nat), (∀ b o, s.heap.get? b = some o → h0.get? b = some o) → SrtO.Srtd (ltV s.heap) out → out.Perm vs → (∀ b o, h0.get? b = some o → h'.get? b = some o) → h0.objs.size ≤ a → h'.get? a = some (PyProof.Rows.seqObj "list" out.toArray e) → Q (.ref a) { s with heap := h' }) :
    wpAny (model prog w) A (call (.builtin "sorted") [.ref l]) Q E s := by
  refine Calls.call_function_entry (by decide) (by decide) entry_sorted (args_sorted1 _) ?_
  have hb : Builtin.sorted ⟨[Value.ref l], []⟩ = (do
    let xs ← collect (Value.ref l)
    let l ← newList xs
    let _ ← holding [l] (call (.builtin "list.sort") [l])
    ret l) := rfl
  rw [hb]
  refine wpAny_bind (wpAny_collect_seq l hT ho hc hd (fun h' hk => ?_) (by simpa using hl))
  rw [List.toList_toArray]
  have hold : ∀ b o, h'.get? b = some o → b ≠ h'.objs.size ∧ (h'.push (PyProof.Rows.seqObj "list" vs.toArray 0)).get? b = some o := fun b o e => ⟨fun z => by subst z; exact absurd (get_lt e) (Nat.lt_irrefl _), Heap.get?_push_of_some _ e⟩
  have hnew : (h'.push (PyProof.Rows.seqObj "list" vs.toArray 0)).get? h'.objs.size = some (PyProof.Rows.seqObj "list" vs.toArray 0) := Heap.get?_push_size _ rfl
  refine wpAny_bind (wpAny_newList ?_ hl)
  refine wpAny_bind (wpAny_holding ?_)
  refine call_meets (s := { s with heap := h'.push (PyProof.Rows.seqObj "list" vs.toArray 0) }) F.slot_list_sort ⟨_, hnew, rfl⟩ F.entry_list_sort (F.args_list_sort_1 _) (sort_meets h'.objs.size vs 0 s.heap ds as hl hr hok) ⟨by show A.units + 1 + 90 < _; omega, hnew, fun b o hb => hold b o (hk b o hb), fun out so pm => ?_⟩
  obtain ⟨e, he⟩ := PyProof.Rows.sortedHeap_at (out := out.toArray) hnew
  refine wpAny_pure ⟨_, rfl, q h' _ _ out e hk so pm (fun b o hb => ?_) (Nat.le_refl _) he⟩
  obtain ⟨n1, g1⟩ := hold b o hb
  rw [PyProof.Rows.sortedHeap_old n1 (get_lt g1)]
  exact g1

theorem perm_map_inv {α β : Type} {f : α → β} : ∀ {m : List β} {l : List α}, m.Perm (l.map f) → ∃ l' : List α, l'.Perm l ∧ m = l'.map f
  | [], l, h => by
    have : l = [] := by have := h.length_eq; simp at this; exact List.length_eq_zero_iff.mp this.symm
    subst this
    exact ⟨[], .refl _, rfl⟩
  | b :: m, l, h => by
    obtain ⟨a, ha, rfl⟩ := List.mem_map.mp (h.mem_iff.mp List.mem_cons_self)
    obtain ⟨l1, l2, rfl⟩ := List.append_of_mem ha
    have h2 : (f a :: m).Perm (f a :: (l1 ++ l2).map f) := by
      refine h.trans ?_
      simp only [List.map_append, List.map_cons]
      exact List.perm_middle
    obtain ⟨l', p, rfl⟩ := perm_map_inv ((List.perm_cons _).mp h2)
    exact ⟨a :: l', (List.Perm.cons a p).trans List.perm_middle.symm, rfl⟩
theorem cm_eq : ∀ (k : Nat) (x y : PyData), cm k x y = some .eq → x = y := by
  intro k
  induction k with
  | zero => intro x y h; cases h
  | succ k ih =>
    have all : ∀ (xs ys : List PyData), cmL (cm k) xs ys = some .eq → xs = ys := by
      intro xs
      induction xs with
      | nil =>
        intro ys h
        cases ys with
        | nil => rfl
        | cons y ys => simp [cmL] at h
      | cons x xs ihx =>
        intro ys h
        cases ys with
        | nil => simp [cmL] at h
        | cons y ys =>
          simp only [cmL] at h
          cases e : cm k x y with
          | none => rw [e] at h; cases h
          | some o1 =>
            cases e2 : cmL (cm k) xs ys with
            | none => rw [e, e2] at h; cases o1 <;> cases h
            | some o2 =>
              rw [e, e2] at h
              cases o1 with
              | eq => simp only [Option.some.injEq] at h; subst h; rw [ih x y e, ihx ys e2]
              | lt => simp at h
              | gt => simp at h
    intro x y h
    cases x <;> cases y <;> simp only [cm, reduceCtorEq] at h
    · rename_i i j
      simp only [Option.some.injEq] at h
      by_cases h1 : i < j
      · rw [if_pos h1] at h; cases h
      · rw [if_neg h1] at h
        by_cases h2 : i = j
        · rw [h2]
        · rw [if_neg h2] at h; cases h
    · rename_i i j
      simp only [Option.some.injEq] at h
      by_cases h1 : ltStr i j = true
      · rw [if_pos h1] at h; cases h
      · rw [if_neg h1] at h
        by_cases h2 : i = j
        · rw [h2]
        · rw [if_neg h2] at h; cases h
    · rw [all _ _ h]
theorem dat_inj (h : Hq) : ∀ (k j : Nat) (a b : W) (x : PyData) (o : Ordering), dat h k a = some x → dat h k b = some x → cm j x x = some o → a = b := by
  intro k
  induction k with
  | zero => intro j a b x o e; cases e
  | succ k ih =>
    have all : ∀ (j : Nat) (as bs : List W) (xs : List PyData) (o : Ordering), as.mapM (dat h k) = some xs → bs.mapM (dat h k) = some xs → cmL (cm j) xs xs = some o → as = bs := by
      intro j as
      induction as with
      | nil =>
        intro bs xs o e1 e2 _
        simp at e1; subst e1
        cases bs with
        | nil => rfl
        | cons b bs =>
          rw [List.mapM_cons] at e2
          cases z : dat h k b with
          | none => rw [z] at e2; simp at e2
          | some y => cases z2 : bs.mapM (dat h k) with
            | none => rw [z, z2] at e2; simp at e2
            | some ys => rw [z, z2] at e2; simp at e2
      | cons a as iha =>
        intro bs xs o e1 e2 hc
        rw [List.mapM_cons] at e1
        cases z : dat h k a with
        | none => rw [z] at e1; simp at e1
        | some y => cases z2 : as.mapM (dat h k) with
          | none => rw [z, z2] at e1; simp at e1
          | some ys =>
            rw [z, z2] at e1; simp at e1; subst e1
            cases bs with
            | nil => simp at e2
            | cons b bs =>
              rw [List.mapM_cons] at e2
              cases y1 : dat h k b with
              | none => rw [y1] at e2; simp at e2
              | some u => cases y2 : bs.mapM (dat h k) with
                | none => rw [y1, y2] at e2; simp at e2
                | some us =>
                  rw [y1, y2] at e2; simp at e2
                  obtain ⟨rfl, rfl⟩ := e2
                  simp only [cmL] at hc
                  cases c1 : cm j u u with
                  | none => rw [c1] at hc; cases hc
                  | some o1 => cases c2 : cmL (cm j) us us with
                    | none => rw [c1, c2] at hc; cases o1 <;> cases hc
                    | some o2 => rw [ih j a b u o1 z y1 c1, iha bs us o2 z2 y2 c2]
    intro j a b x o e1 e2 hc
    cases j with
    | zero => cases hc
    | succ j =>
      cases x <;> simp only [cm, reduceCtorEq] at hc
      · rename_i i
        have f : ∀ w, dat h (k + 1) w = some (.int i) → w = .int i := by
          intro w e
          cases w <;> simp only [dat, Option.some.injEq, reduceCtorEq, PyData.int.injEq, Option.map_eq_some_iff, and_false, exists_false] at e
          · rw [e]
          · split at e <;> simp at e
        rw [f a e1, f b e2]
      · rename_i i
        have f : ∀ w, dat h (k + 1) w = some (.str i) → w = .str i := by
          intro w e
          cases w <;> simp only [dat, Option.some.injEq, reduceCtorEq, PyData.str.injEq, Option.map_eq_some_iff, and_false, exists_false] at e
          · rw [e]
          · split at e <;> simp at e
        rw [f a e1, f b e2]
      · rename_i xs
        have f : ∀ w, dat h (k + 1) w = some (.tuple xs) → ∃ ws, w = .tup ws ∧ ws.mapM (dat h k) = some xs := by
          intro w e
          cases w <;> simp only [dat, Option.some.injEq, reduceCtorEq, PyData.tuple.injEq, Option.map_eq_some_iff, and_false, exists_false] at e
          · obtain ⟨y, e, rfl⟩ := e; exact ⟨_, rfl, e⟩
          · split at e <;> simp at e
        obtain ⟨as, rfl, g1⟩ := f a e1
        obtain ⟨bs, rfl, g2⟩ := f b e2
        rw [all j as bs xs o g1 g2 hc]
end Mo
end

section
set_option Elab.async false
set_option linter.all false
set_option autoImplicit false
set_option maxRecDepth 100000
set_option maxHeartbeats 1000000
namespace Mo
open PySem PySem.Spec PyProof.Rows L2

/-! ### sorted -/
def rSortedD (K : PySem.W.Frag) : List V → Hp → VK → Prop := fun vs H Q => ∃ a xs ds, vs = [.ref a] ∧ (SqL K H a xs ∨ SqT K H a xs) ∧ DpAll K H xs ds ∧ (∀ d ∈ ds, SeqAt.shaped d = true) ∧ (xs.length < 2 ∨ okS ds = true) ∧
  ∀ (zs : List (V × PyData)) (p : Addr), zs.Perm (xs.zip ds) → zs.Pairwise (fun a b => code 8 a.2 ≤ code 8 b.2) → H p = none → Q (.ref p) (upd H p (.lst (zs.map (·.1))))
theorem dpAll_len {K : PySem.W.Frag} {H : Hp} : ∀ {xs : List V} {ds : List PyData}, DpAll K H xs ds → xs.length = ds.length
  | _, _, .nil => rfl
  | _, _, .cons _ t => congrArg (· + 1) (dpAll_len t)
theorem zip3 {X : Cx} {pins : List (Addr × Obj)} {σ : L2.St} {H : Hp} {s : Shared} (I : L2.Inv X pins σ H s) : ∀ {xs : List V} {ds : List PyData} {us : List Value}, DpAll X.K H xs ds → Vals xs us → (∀ d ∈ ds, SeqAt.shaped d = true) →
    ∃ (zs : List ((V × PyData) × Value)) (as : List Addr), zs.map (·.1) = xs.zip ds ∧ zs.map (·.2) = us ∧ ReadsAll s.heap us ds as ∧ ∀ z ∈ zs, RelV z.1.1 z.2 ∧ SeqAt.readOf s.heap z.2 = z.1.2
  | _, _, _, .nil, .nil, _ => ⟨[], [], rfl, rfl, .nil, fun _ h => (nomatch h)⟩
  | _, _, _, .cons (v := x) (d := d) r t, .cons (b := u) q tq, hs => by
    obtain ⟨zs, as, h1, h2, h3, h4⟩ := zip3 I t tq (fun d hd => hs d (List.mem_cons_of_mem _ hd))
    obtain ⟨bs, hb⟩ := L2.Dp.reads I _ _ _ r q
    have hc := hs _ List.mem_cons_self
    simp only [SeqAt.shaped, Bool.and_eq_true] at hc
    refine ⟨((_, _), _) :: zs, bs ++ as, by rw [List.map_cons, h1]; rfl, by rw [List.map_cons, h2], .cons hb h3, fun z hz => ?_⟩
    rcases List.mem_cons.mp hz with rfl | hz
    · exact ⟨q, SeqAt.readOf_eq hc.1 hb⟩
    · exact h4 z hz
theorem vals_map : ∀ {zs : List ((V × PyData) × Value)}, (∀ z ∈ zs, RelV z.1.1 z.2) → Vals ((zs.map (·.1)).map (·.1)) (zs.map (·.2))
  | [], _ => .nil
  | z :: zs, h => .cons (h z List.mem_cons_self) (vals_map fun y hy => h y (List.mem_cons_of_mem _ hy))
theorem callr_sortedD {X : Cx} (hA : X.A.units + 96 < cLine) : CallR X (.builtin "sorted") (rSortedD X.K) := by
  intro pins s σ H vs us Q I r h
  obtain ⟨a, xs, ds, rfl, hx, hd, hs, hok, q⟩ := h
  obtain rfl := Vals.ref1 r
  have hit : ∃ its T o n, Vals xs its ∧ (T = "list" ∨ T = "tuple") ∧ s.heap.get? a = some o ∧ o.cls = .type T ∧ o.data = .seq its.toArray n ∧ xs.length ≤ sizeLine := by
    rcases hx with hx | hx
    · obtain ⟨its, v, ⟨o, n, h1, h2, _, h4⟩, hl⟩ := I.list hx
      exact ⟨its, "list", o, n, v, .inl rfl, h1, h2, h4, hl⟩
    · obtain ⟨its, v, ⟨o, h1, h2, n, h4⟩, hl⟩ := I.tuple hx
      exact ⟨its, "tuple", o, n, v, .inr rfl, h1, h2, h4, hl⟩
  obtain ⟨its, T, o, n, hv, hT, ho, hc, hdt, hl⟩ := hit
  obtain ⟨zs, as, z1, z2, hr, z4⟩ := zip3 I hd hv hs
  have hli : its.length = xs.length := hv.length.symm
  refine sorted_seq hT ho hc hdt (by omega) hr (by rw [hli]; exact hok) hA (fun h0 h' p out e k0 so pm k1 hp he => ?_)
  rw [← z2] at pm
  obtain ⟨zs', pz, rfl⟩ := perm_map_inv pm
  have I1 := I.turnedL (h' := h0) (t' := s.toks) (ch := []) (fun b o _ hb => k0 b o hb) (fun b hb => (nomatch hb))
  have z4' : ∀ z ∈ zs', RelV z.1.1 z.2 ∧ SeqAt.readOf s.heap z.2 = z.1.2 := fun z hz => z4 z (pz.mem_iff.mp hz)
  have hlen : ((zs'.map (·.1)).map (·.1)).length ≤ sizeLine := by
    rw [List.length_map, List.length_map, pz.length_eq, ← List.length_map (f := (·.2)), z2]; omega
  have I2 := I1.turnedNew (h' := h') (t' := s.toks) (ch := []) (T := p) (ob := .lst ((zs'.map (·.1)).map (·.1))) (fun b o _ hb => k1 b o hb) (fun b hb => (nomatch hb)) hp ⟨hlen, zs'.map (·.2), e, vals_map fun z hz => (z4' z hz).1, he⟩
  refine ⟨.ref p, _, I2, rfl, q (zs'.map (·.1)) p (by rw [← z1]; exact pz.map _) ?_ ?_⟩
  · have so' : zs'.Pairwise (fun x y => ltV s.heap y.2 x.2 = false) := List.pairwise_map.mp so
    refine List.pairwise_map.mpr (so'.imp_of_mem fun {x y} hx hy hxy => ?_)
    have e1 := (z4' x hx).2
    have e2 := (z4' y hy).2
    unfold ltV at hxy
    rw [e1, e2] at hxy
    exact List.not_lt.mp (of_decide_eq_false hxy)
  · exact I1.hok.fresh hp
/-! the little machine's sorted -/
def codeW (h : Hq) (w : W) : List Int := match datS h w with
  | some d => code 8 d
  | none => []
def sortW (h : Hq) (ws : List W) : Option (List W) := (ws.mapM (datS h)).bind fun ds =>
  if (decide (ds.length < 2) || okS ds) = true then some (ws.mergeSort fun a b => decide (codeW h a ≤ codeW h b)) else none
theorem mapM_dat {h : Hq} : ∀ {ws : List W} {ds : List PyData}, ws.mapM (datS h) = some ds → ws.length = ds.length ∧ ∀ z ∈ ws.zip ds, datS h z.1 = some z.2
  | [], ds, e => by simp at e; subst e; exact ⟨rfl, fun z hz => by simp at hz⟩
  | w :: ws, ds, e => by
    rw [List.mapM_cons] at e
    cases z : datS h w with
    | none => rw [z] at e; simp at e
    | some y => cases z2 : ws.mapM (datS h) with
      | none => rw [z, z2] at e; simp at e
      | some ys =>
        rw [z, z2] at e; simp at e; subst e
        obtain ⟨l, m⟩ := mapM_dat z2
        refine ⟨by simp [l], fun q hq => ?_⟩
        rw [List.zip_cons_cons] at hq
        rcases List.mem_cons.mp hq with rfl | hq
        · exact z
        · exact m q hq
theorem mapM_dp {G : Gm} {d : Wd} {h : Hq} (hr : HR G d h) : ∀ {ws : List W} {vs : List V} {ds : List PyData}, VRs G d.F d.ι ws vs → ws.mapM (datS h) = some ds → DpAll G.K d.H vs ds ∧ ∀ x ∈ ds, SeqAt.shaped x = true
  | _, _, ds, .nil, e => by simp at e; subst e; exact ⟨.nil, fun _ h => (nomatch h)⟩
  | w :: ws, _, ds, .cons r t, e => by
    rw [List.mapM_cons] at e
    cases z : datS h w with
    | none => rw [z] at e; simp at e
    | some y => cases z2 : ws.mapM (datS h) with
      | none => rw [z, z2] at e; simp at e
      | some ys =>
        rw [z, z2] at e; simp at e; subst e
        obtain ⟨l, m⟩ := mapM_dp hr t z2
        obtain ⟨p, q⟩ := datS_dp hr r z
        refine ⟨.cons p l, fun x hx => ?_⟩
        rcases List.mem_cons.mp hx with rfl | hx
        · exact q
        · exact m x hx
/-- the rows side by side -/
theorem zipD {G : Gm} {F : Hp} {ι : List Addr} : ∀ {ws : List W} {vs : List V} {ds : List PyData}, VRs G F ι ws vs → ws.length = ds.length → ∃ zs : List (W × (V × PyData)), zs.map (·.1) = ws ∧ zs.map (·.2) = vs.zip ds ∧ (∀ z ∈ zs, VR G F ι z.1 z.2.1 ∧ (z.1, z.2.2) ∈ ws.zip ds)
  | _, _, [], .nil, _ => ⟨[], rfl, rfl, fun _ h => (nomatch h)⟩
  | w :: ws, v :: vs, d :: ds, .cons r t, e => by
    obtain ⟨zs, h1, h2, h3⟩ := zipD t (by simpa using e)
    refine ⟨(w, (v, d)) :: zs, by rw [List.map_cons, h1], by rw [List.map_cons, h2]; rfl, fun z hz => ?_⟩
    rw [List.zip_cons_cons]
    rcases List.mem_cons.mp hz with rfl | hz
    · exact ⟨r, List.mem_cons_self⟩
    · exact ⟨(h3 z hz).1, List.mem_cons_of_mem _ (h3 z hz).2⟩
theorem vrs_map {G : Gm} {F : Hp} {ι : List Addr} : ∀ {zs : List (W × (V × PyData))}, (∀ z ∈ zs, VR G F ι z.1 z.2.1) → VRs G F ι (zs.map (·.1)) ((zs.map (·.2)).map (·.1))
  | [], _ => .nil
  | z :: zs, h => .cons (h z List.mem_cons_self) (vrs_map fun y hy => h y (List.mem_cons_of_mem _ hy))
theorem sortW_eq {h : Hq} {ws ys zs : List W} (e : sortW h ws = some ys) (p : zs.Perm ws) (s : zs.Pairwise fun a b => codeW h a ≤ codeW h b) : zs = ys := by
  unfold sortW at e
  cases z : ws.mapM (datS h) with
  | none => rw [z] at e; cases e
  | some ds =>
    rw [z, Option.bind_some] at e
    obtain ⟨hl, hz⟩ := mapM_dat z
    by_cases hc : (decide (ds.length < 2) || okS ds) = true
    · rw [if_pos hc] at e
      simp only [Option.some.injEq] at e
      have pm : ys.Perm ws := by rw [← e]; exact List.mergeSort_perm _ _
      rcases Bool.or_eq_true _ _ ▸ hc with hc | hc
      · have hc := of_decide_eq_true hc
        match ws, hl, p, pm with
        | [], _, p, pm => rw [p.eq_nil, pm.eq_nil]
        | [w], _, p, pm => rw [List.perm_singleton.mp p, List.perm_singleton.mp pm]
        | _ :: _ :: _, hl, _, _ => simp at hl; omega
      · obtain ⟨_, hcm⟩ := okS_pair hc
        have sy : ys.Pairwise fun a b => codeW h a ≤ codeW h b := by
          rw [← e]
          have := List.pairwise_mergeSort (le := fun a b => decide (codeW h a ≤ codeW h b)) (fun a b c h1 h2 => decide_eq_true (List.le_trans (of_decide_eq_true h1) (of_decide_eq_true h2))) (fun a b => by
            rcases List.le_total (codeW h a) (codeW h b) with q | q
            · simp [q]
            · simp [q]) ws
          exact this.imp fun q => of_decide_eq_true q
        refine List.Perm.eq_of_pairwise (le := fun a b => codeW h a ≤ codeW h b) (fun a b ha hb h1 h2 => ?_) s sy (p.trans pm.symm)
        have ex : ∀ a ∈ ws, ∃ d ∈ ds, datS h a = some d := fun a ha => by
          obtain ⟨i, hi, rfl⟩ := List.mem_iff_getElem.mp ha
          refine ⟨ds[i]'(by omega), List.getElem_mem _, hz (ws[i], ds[i]'(by omega)) ?_⟩
          rw [List.mem_iff_getElem]
          exact ⟨i, by simp; omega, by simp⟩
        obtain ⟨x, mx, ex1⟩ := ex a (p.mem_iff.mp ha)
        obtain ⟨y, my, ey1⟩ := ex b (pm.mem_iff.mp hb)
        obtain ⟨o, ho⟩ := hcm x mx y my
        obtain ⟨o2, ho2⟩ := hcm y my y my
        have ce : code 8 x = code 8 y := by
          have e1 : codeW h a = code 8 x := by unfold codeW; rw [ex1]
          have e2 : codeW h b = code 8 y := by unfold codeW; rw [ey1]
          rw [← e1, ← e2]; exact List.le_antisymm h1 h2
        have : o = .eq := by
          obtain ⟨l1, l2, _⟩ := code_cm 8 x y o ho [] []
          simp only [List.append_nil, ce] at l1 l2
          cases o with
          | eq => rfl
          | lt => exact absurd (l1 rfl) (List.lt_irrefl _)
          | gt => exact absurd (l2 rfl) (List.lt_irrefl _)
        subst this
        obtain rfl := cm_eq 8 x y ho
        unfold datS at ex1 ey1
        cases d1 : dat h 8 a with
        | none => rw [d1] at ex1; cases ex1
        | some u => cases d2 : dat h 8 b with
          | none => rw [d2] at ey1; cases ey1
          | some v =>
            rw [d1, Option.bind_some] at ex1
            rw [d2, Option.bind_some] at ey1
            have u1 : u = x := by
              by_cases q : SeqAt.shaped u = true
              · rw [if_pos q] at ex1; exact Option.some.inj ex1
              · rw [if_neg q] at ex1; cases ex1
            have v1 : v = x := by
              by_cases q : SeqAt.shaped v = true
              · rw [if_pos q] at ey1; exact Option.some.inj ey1
              · rw [if_neg q] at ey1; cases ey1
            subst u1 v1
            exact dat_inj h 8 8 a b _ o2 d1 d2 ho2
    · rw [if_neg hc] at e; cases e
section
variable {Th : Tabl} {X : Cx} {E : XK}
def cSorted : CM := fun ws h => match ws with
  | [w] => match itemsW h w with
    | some xs => match sortW h xs with
      | some ys => .ok (.lst ys) h
      | none => .no
    | none => .no
  | _ => .no
theorem c_sorted (hA : X.A.units + 96 < cLine) : XC Th X E (.builtin "sorted") cSorted := by
  refine ⟨_, callr_sortedD hA, fun d ws vs h Q r hr p => ?_⟩
  unfold cSorted at p
  split at p
  · rename_i w
    obtain ⟨v, rfl, q⟩ := r.one
    cases e : itemsW h w with
    | none => rw [e] at p; exact p.elim
    | some xs =>
      rw [e] at p
      simp only at p
      cases e2 : sortW h xs with
      | none => rw [e2] at p; exact p.elim
      | some ys =>
        rw [e2] at p
        simp only at p
        have main : ∀ (a : Addr) (us : List V), v = .ref a → (SqL X.K d.H a us ∨ SqT X.K d.H a us) → VRs (Cx.G Th X) d.F d.ι xs us → rSortedD X.K [v] d.H Q := by
          intro a us hv hs t
          subst hv
          have e3 := e2
          unfold sortW at e3
          cases z : xs.mapM (datS h) with
          | none => rw [z] at e3; cases e3
          | some ds =>
            rw [z, Option.bind_some] at e3
            by_cases hc : (decide (ds.length < 2) || okS ds) = true
            · obtain ⟨dp, sh⟩ := mapM_dp hr t z
              obtain ⟨hl, hz⟩ := mapM_dat z
              obtain ⟨zs, z1, z2, z3⟩ := zipD t hl
              have hlu := t.length
              refine ⟨a, us, ds, rfl, hs, dp, sh, ?_, fun qs pp pm so np => ?_⟩
              · rcases Bool.or_eq_true _ _ ▸ hc with hc | hc
                · exact .inl (by have := of_decide_eq_true hc; omega)
                · exact .inr hc
              · rw [← z2] at pm
                obtain ⟨zs', pz, rfl⟩ := perm_map_inv pm
                have key : zs'.map (·.1) = ys := by
                  refine sortW_eq e2 (by rw [← z1]; exact pz.map _) ?_
                  refine List.pairwise_map.mpr ((List.pairwise_map.mp so).imp_of_mem fun {x y} hx hy hxy => ?_)
                  have m1 := hz _ (z3 x (pz.mem_iff.mp hx)).2
                  have m2 := hz _ (z3 y (pz.mem_iff.mp hy)).2
                  simp only at m1 m2
                  unfold codeW
                  rw [m1, m2]
                  exact hxy
                have rr := vrs_map (fun z hz => (z3 z (pz.mem_iff.mp hz)).1)
                rw [key] at rr
                exact newL hr rr p pp np
            · rw [if_neg hc] at e3; cases e3
        cases q with
        | tup s t => simp only [itemsW, Option.some.injEq] at e; subst e; exact main _ _ rfl (.inr (sqT_sub hr s)) t
        | lst s t => simp only [itemsW, Option.some.injEq] at e; subst e; exact main _ _ rfl (.inl (SqL.of (hr.sub _ _ s))) t
        | scr s t => simp only [itemsW, Option.some.injEq] at e; subst e; exact main _ _ rfl (.inl (sqL_sub hr s)) t
        | ref z =>
          obtain ⟨o, u, h1, h2, h3⟩ := hr.mem z
          simp only [itemsW, h1] at e
          cases h3 with
          | lst t => simp only [Option.some.injEq] at e; subst e; exact main _ _ rfl (.inl (SqL.of h2)) t
          | _ => cases e
        | _ => cases e
  · exact p.elim
end
end Mo
end

section
set_option Elab.async false
set_option linter.all false
set_option autoImplicit false
set_option maxRecDepth 100000
set_option maxHeartbeats 1000000
namespace Mo
open PySem PySem.Spec PyProof.Rows L2
/-! ### itertools.combinations -/
theorem comb_sub : isSubtype (Value.type "itertools.combinations") (Value.type ("itertools." ++ "combinations")) = pure true := rfl
theorem comb_l1 (x y : Value) : Builtin.Itertools.itClassAndRest "combinations" ⟨[.type "itertools.combinations", x, y], []⟩ = pure (.type "itertools.combinations", [x, y]) := rfl
theorem comb_l2 (x y : Value) : Builtin.Itertools.itBindNamed "combinations" ["iterable", "r"] 2 2 [x, y] [] = pure [some x, some y] := rfl
theorem comb_l3 (r : Nat) (t : Tok) (h : r ≤ 64) : Builtin.Itertools.itSsizeArg (.int r t) = pure (r : Int) := by
  have : Builtin.Itertools.itSsizeArg (.int r t) = if (decide ((r : Int) < -2 ^ 63) || decide ((r : Int) ≥ 2 ^ 63)) = true then (do
      rule "itertools.ssize.overflow"
      let __r ← raiseErrorWords "OverflowError" "Python int too large to convert to C ssize_t"
      pure (r : Int)) else pure (r : Int) := rfl
  rw [this, if_neg]
  simp; omega
theorem comb_l4 (r : Nat) (h : r ≤ 64) : Builtin.Itertools.itTooMany (r : Int) = false := by
  unfold Builtin.Itertools.itTooMany
  exact decide_eq_false (by omega)
theorem comb_l5 (fs : List Value) : Builtin.Itertools.itNewRecord (.type "itertools.combinations") fs = newObj (.type "itertools.combinations") (.fields fs.toArray) := rfl

theorem comb_new (a : Addr) (r : Nat) (t : Tok) (vs : List Value) (T : String) (o : Obj) (n : Nat) (hT : T = "list" ∨ T = "tuple") (hc : o.cls = .type T) (hd : o.data = .seq vs.toArray n) (hl : vs.length ≤ sizeLine) (hr : r ≤ 64) (hn : r ≤ vs.length) :
    Meets (Builtin.«itertools.combinations.__new__» ⟨[.type "itertools.combinations", .ref a, .int r t], []⟩) (fun A R s => s.heap.get? a = some o ∧ ∀ h' : Heap, (∀ b o, s.heap.get? b = some o → h'.get? b = some o) →
      R (.ok (.ret (Value.ref (h'.objs.size + 1)))) { s with heap := (h'.push (PyProof.Rows.seqObj "tuple" vs.toArray 0)).push ⟨.type "itertools.combinations", none, .fields ([.ref h'.objs.size, rawInt 0, Value.none] ++ (List.range r).map (fun (i : Nat) => rawInt (i : Int))).toArray, #[]⟩ }) :=
  .of_wp fun prog w A R s h => by
    obtain ⟨ho, h⟩ := h
    have f1 := comb_sub
    have f2 := comb_l2 (.ref a) (.int r t)
    have f3 := comb_l3 r t hr
    have hcol : ∀ {Q : List Value → Shared → Prop} {E : Value → Shared → Prop}, (∀ h' : Heap, (∀ b o, s.heap.get? b = some o → h'.get? b = some o) → Q vs { s with heap := h' }) → wpAny (model prog w) A.in1 (collect (.ref a)) Q E s := fun {Q E} q => wpAny_collect_seq a hT ho hc hd (fun h' hk => by rw [List.toList_toArray]; exact q h' hk) (by simpa using hl)
    have f4 := comb_l4 r hr
    have f5 : ¬ ((r : Int) < 0) := by omega
    have f6 : ¬ ((r : Int).toNat > vs.length) := by omega
    wp_walk using hcol
    intro h' hk
    simp only [f4, f5, Bool.false_eq_true, if_false]
    refine wpAny_bind (wpAny_newTuple (wpAny_pure ?_) hl)
    refine wpAny_bind ?_
    rw [if_neg f6, comb_l5]
    simp only [Int.toNat_natCast]
    generalize hF : ([Value.ref h'.objs.size, rawInt 0, Value.none] ++ (List.range r).map (fun (i : Nat) => rawInt (i : Int))).toArray = F
    have sz : ¬ (F.size > sizeLine + 2) := by rw [← hF]; simp; unfold sizeLine; omega
    have h := h h' hk
    rw [hF] at h
    show wpAny _ _ (newObj (.type "itertools.combinations") (.fields F)) _ _ { s with heap := h'.push (PyProof.Rows.seqObj "tuple" vs.toArray 0) }
    unfold newObj
    simp only [sz, if_false]
    wp_walk
    have e : (h'.push (PyProof.Rows.seqObj "tuple" vs.toArray 0)).objs.size = h'.objs.size + 1 := by simp [Heap.push]
    refine ⟨_, rfl, ?_⟩
    rw [e]
    exact h

theorem comb_slot : Slot "itertools.combinations" (Str.ofString "__next__") "itertools.combinations.__next__" := by
  refine Slot.of (owner := "itertools.combinations") (n := "__next__") (by rw [typeLookup_type, builtinLookup_eq_fast]; rfl) ?_ ?_ ?_ (.inl ?_) (by rw [isSubtype_type]; rfl) ?_
  all_goals decide +kernel
theorem comb_slotI : Slot "itertools.combinations" (Str.ofString "__iter__") "itertools.combinations.__iter__" := by
  refine Slot.of (owner := "itertools.combinations") (n := "__iter__") (by rw [typeLookup_type, builtinLookup_eq_fast]; rfl) ?_ ?_ ?_ (.inl ?_) (by rw [isSubtype_type]; rfl) ?_
  all_goals decide +kernel
theorem comb_slot0 : Slot "itertools.combinations" (Str.ofString "__init__") "object.__init__" := by
  refine Slot.of (owner := "object") (n := "__init__") (by rw [typeLookup_type, builtinLookup_eq_fast]; rfl) ?_ ?_ ?_ (.inl ?_) (by rw [isSubtype_type]; rfl) ?_
  all_goals decide +kernel
theorem comb_ty : TypeCalled "itertools.combinations" "itertools.combinations.__new__" "object.__init__" where
  notType := by decide
  canCreate := by decide +kernel
  mro := ⟨_, _, (by rw [mroOf_type]; rfl : mroOf (.type "itertools.combinations") = pure [.type "itertools.combinations", .type "object"])⟩
  made := madeBy_type (c := .type "itertools.combinations") (tl := [.type "object"]) (by rw [mroOf_type]; rfl) (by rw [typeLookup_type, builtinLookup_eq_fast]; rfl) (by decide +kernel)
  plain := by decide +kernel
  sub := by rw [isSubtype_type]; rfl
  init := comb_slot0
theorem comb_tc {a b : Value} : checkTypeCall "itertools.combinations" { pos := [a, b] } = pure () := rfl
theorem c_mro : mroOf (.type "itertools.combinations") = pure [.type "itertools.combinations", .type "object"] := by rw [mroOf_type]; rfl
theorem comb_own : List.lookup "itertools.combinations" Manifest.owners = some Manifest.sig_itertools_combinations := by rfl
theorem comb_sg : Manifest.signature? "itertools.combinations.__new__" = List.lookup "__new__" Manifest.sig_itertools_combinations := signature?_of (n := "__wen__".toList) (o := "snoitanibmoc.slootreti".toList) (by decide +kernel) (by rfl)
theorem c_made : Bind.madeBy (.type "itertools.combinations") = pure (some "itertools.combinations.__new__") := madeBy_type (c := .type "itertools.combinations") (tl := [.type "object"]) (by rw [mroOf_type]; rfl) (by rw [typeLookup_type, builtinLookup_eq_fast]; rfl) (by decide +kernel)
theorem c_stat : Bind.staticBase (.type "itertools.combinations") = pure (.type "itertools.combinations") := by
  unfold Bind.staticBase
  simp only [c_mro, pure_bind, List.forIn_cons, c_made, Option.isSome_some, if_true]
theorem c_kind : builtinKind "itertools.combinations.__new__" = some .builtinFn := by decide +kernel
theorem c_split : splitId "itertools.combinations.__new__" = some ("itertools.combinations", "__new__") := by decide +kernel
theorem c_sub : isSubtype (Value.type "itertools.combinations") (Value.type "itertools.combinations") = pure true := rfl
theorem c_isT : isType (Value.type "itertools.combinations") = pure true := rfl
theorem c_no : ((Manifest.find? "itertools.combinations").elim false fun x => x.noNew) = false := by decide +kernel
theorem comb_bc (a b : Value) : checkBuiltinCall "itertools.combinations.__new__" { pos := [.type "itertools.combinations", a, b] } = pure () := by
  unfold checkBuiltinCall
  simp only [c_kind, c_split, comb_sg, c_isT, c_sub, c_stat, c_made, c_no, pure_bind, beq_self_eq_true, Bool.not_true, Bool.false_eq_true, if_true, if_false, bne_self_eq_false]
  rfl
theorem comb_e : entryFor table "itertools.combinations.__new__" = some Builtin.«itertools.combinations.__new__» := entryFor_of_fast (by rfl)
theorem comb_call {prog : Program} {w : World} {A : Around} {E : Value → Shared → Prop} {s : Shared} {a : Addr} {r : Nat} {t : Tok} {vs : List Value} {T : String} {o : Obj} {n : Nat} {Q : Value → Shared → Prop} (hT : T = "list" ∨ T = "tuple") (ho : s.heap.get? a = some o) (hc : o.cls = .type T) (hd : o.data = .seq vs.toArray n) (hl : vs.length ≤ sizeLine) (hr : r ≤ 64) (hn : r ≤ vs.length)
    (q : ∀ h' : Heap, (∀ b o, s.heap.get? b = some o → h'.get? b = some o) → Q (Value.ref (h'.objs.size + 1)) { s with heap := (h'.push (PyProof.Rows.seqObj "tuple" vs.toArray 0)).push ⟨.type "itertools.combinations", none, .fields ([.ref h'.objs.size, rawInt 0, Value.none] ++ (List.range r).map (fun (i : Nat) => rawInt (i : Int))).toArray, #[]⟩ }) :
    wpAny (model prog w) A (call (.type "itertools.combinations") [.ref a, .int r t]) Q E s := by
  refine callType_new comb_ty (by decide) comb_tc (comb_bc _ _) (fun _ => PySem.F.initArgs_range_2 _ _ _) comb_e (comb_new a r t vs T o n hT hc hd hl hr hn) ⟨ho, fun h' hk => ⟨⟨_, Heap.get?_push_at ?_ rfl, rfl⟩, q h' hk⟩⟩
  show h'.objs.size + 1 = (h'.objs.push _).size
  rw [Array.size_push]
end Mo
end

section
set_option Elab.async false
set_option linter.all false
set_option autoImplicit false
set_option maxRecDepth 100000
set_option maxHeartbeats 1000000
namespace Mo
open PySem PySem.Spec PyProof.Rows L2
def combO (P : Addr) (st : Value) (last : Value) (idx : List Nat) : Obj := ⟨.type "itertools.combinations", none, .fields ([.ref P, st, last] ++ idx.map (fun (i : Nat) => rawInt (i : Int))).toArray, #[]⟩
theorem comb_num {M : Model} {A : Around} {E : Value → Shared → Prop} {s : Shared} {I P : Addr} {st last : Value} {idx : List Nat} {Q : List Nat → Shared → Prop} (h : s.heap.get? I = some (combO P st last idx)) (q : Q idx s) : wpAny M A (Builtin.Itertools.itNumbersFrom (.ref I) 3) Q E s := by
  unfold combO at h
  unfold Builtin.Itertools.itNumbersFrom
  wp_walk
  simp only [List.toList_toArray, List.cons_append, List.nil_append, List.drop_succ_cons, List.drop_zero, List.map_map, Function.comp_def, rawInt, Int.toNat_natCast, List.map_id_fun', id]
  exact q
theorem comb_pool {M : Model} {A : Around} {E : Value → Shared → Prop} {s : Shared} {P : Addr} {items : Array Value} {Q : Array Value → Shared → Prop} (h : IsTup s.heap P items) (q : Q items s) : wpAny M A (Builtin.Itertools.itPoolItems (.ref P)) Q E s := by
  obtain ⟨⟨cl, dd, dt, sl⟩, h1, h2, n, h3⟩ := h
  simp only at h2 h3
  subst h2 h3
  unfold Builtin.Itertools.itPoolItems
  wp_walk
  exact q
theorem comb_next0 (I P : Addr) (last : Value) (idx : List Nat) (vs : List Value) (hl : idx.length ≤ 64) (hIP : P ≠ I) :
    Meets (Builtin.«itertools.combinations.__next__» ⟨[.ref I], []⟩) (fun A R s => s.heap.get? I = some (combO P (rawInt 0) .none idx) ∧ IsTup s.heap P vs.toArray ∧
      ∀ (h' : Heap) (T : Addr), (∀ b o, b ≠ I → s.heap.get? b = some o → h'.get? b = some o) → s.heap.objs.size ≤ T → h'.get? T = some (PyProof.Rows.seqObj "tuple" (idx.map fun i => vs.toArray.getD i .none).toArray 0) → h'.get? I = some (combO P (rawInt 1) (.ref T) idx) → R (.ok (.ret (.ref T))) { s with heap := h' }) :=
  .of_wp fun prog w A R s h => by
    obtain ⟨h1, h2, h⟩ := h
    have hg : ∀ f : Obj → Obj, IsTup (s.heap.update I f) P vs.toArray := fun f => by
      obtain ⟨o, g1, g2⟩ := h2
      exact ⟨o, by rw [Heap.get?_update_ne _ _ _ _ hIP]; exact g1, g2⟩
    have hnum : ∀ {Q : List Nat → Shared → Prop} {E : Value → Shared → Prop}, Q idx s → wpAny (model prog w) A.in1 (Builtin.Itertools.itNumbersFrom (.ref I) 3) Q E s := fun q => comb_num h1 q
    have hs : ¬ ((idx.map fun i => vs.toArray.getD i .none).toArray.size > sizeLine) := by rw [List.size_toArray, List.length_map]; unfold sizeLine; omega
    unfold combO at h1
    obtain ⟨⟨cl, dd, dt, sl⟩, g1, g2, n, g3⟩ := hg (Obj.mapFields fun x => x.setIfInBounds 1 (rawInt 1))
    simp only at g2 g3
    subst g2 g3
    wp_walk using hnum
    simp only [hs, if_false]
    have hI : (s.heap.update I (Obj.mapFields fun x => x.setIfInBounds 1 (rawInt 1))).get? I = some (combO P (rawInt 1) .none idx) := by
      rw [Heap.get?_update_self _ h1 rfl]
      rfl
    have hI0 := hI
    unfold combO at hI
    wp_walk
    have sz : (s.heap.update I (Obj.mapFields fun x => x.setIfInBounds 1 (rawInt 1))).objs.size = s.heap.objs.size := by
      show (s.heap.objs.modify I _).size = _
      rw [Array.size_modify]
    have lt := get_lt h1
    refine ⟨_, rfl, h _ _ (fun b o hb e => ?_) (by rw [sz]; exact Nat.le_refl _) ?_ ?_⟩
    · rw [Heap.get?_update_ne _ _ _ _ hb]
      exact Heap.get?_push_of_some _ (by rw [Heap.get?_update_ne _ _ _ _ hb]; exact e)
    · rw [Heap.get?_update_ne _ _ _ _ (by rw [sz]; exact fun z => absurd z (Nat.ne_of_gt lt))]
      exact Heap.get?_push_size _ rfl
    · rw [Heap.get?_update_self _ (Heap.get?_push_of_some _ hI0) rfl]
      rfl
def nextC (n : Nat) (ix : List Nat) : Option (List Nat) :=
  match (List.range ix.length).reverse.find? (fun i => ix.getD i 0 != i + n - ix.length) with
  | none => none
  | some i => some (ix.take i ++ (List.range (ix.length - i)).map (fun x => ix.getD i 0 + 1 + x))
theorem pil (vs : Array Value) (h : vs.size ≤ 100) : (Data.fields vs).pastItsLine = none := by
  show (if vs.size > sizeLine + 3 then _ else none) = none
  rw [if_neg]
  unfold sizeLine
  omega
theorem comb_next1 (I P : Addr) (T0 : Addr) (idx nx : List Nat) (vs : List Value) (hl : idx.length ≤ 64) (hIP : P ≠ I) (hn : nextC vs.length idx = some nx) (hnl : nx.length ≤ 64) :
    Meets (Builtin.«itertools.combinations.__next__» ⟨[.ref I], []⟩) (fun A R s => s.heap.get? I = some (combO P (rawInt 1) (.ref T0) idx) ∧ IsTup s.heap P vs.toArray ∧
      ∀ (h' : Heap) (T : Addr), (∀ b o, b ≠ I → s.heap.get? b = some o → h'.get? b = some o) → s.heap.objs.size ≤ T → h'.get? T = some (PyProof.Rows.seqObj "tuple" (nx.map fun i => vs.toArray.getD i .none).toArray 0) → h'.get? I = some (combO P (rawInt 1) (.ref T) nx) → R (.ok (.ret (.ref T))) { s with heap := h' }) :=
  .of_wp fun prog w A R s h => by
    obtain ⟨h1, h2, h⟩ := h
    have hg : ∀ f : Obj → Obj, IsTup (s.heap.update I f) P vs.toArray := fun f => by
      obtain ⟨o, g1, g2⟩ := h2
      exact ⟨o, by rw [Heap.get?_update_ne _ _ _ _ hIP]; exact g1, g2⟩
    have hnum : ∀ {Q : List Nat → Shared → Prop} {E : Value → Shared → Prop}, Q idx s → wpAny (model prog w) A.in1 (Builtin.Itertools.itNumbersFrom (.ref I) 3) Q E s := fun q => comb_num h1 q
    have hs : ¬ ((nx.map fun i => vs.toArray.getD i .none).toArray.size > sizeLine) := by rw [List.size_toArray, List.length_map]; unfold sizeLine; omega
    unfold combO at h1
    obtain ⟨⟨cl, dd, dt, sl⟩, g1, g2, n, g3⟩ := h2
    simp only at g2 g3
    subst g2 g3
    wp_walk using hnum
    split
    · rename_i nx' heq
      have e : nextC vs.length idx = some nx' := heq
      rw [hn] at e
      obtain rfl := Option.some.inj e
      have hI : (s.heap.update I (Obj.mapFields fun x => x.extract 0 3 ++ (nx.map fun (n : Nat) => rawInt (n : Int)).toArray)).get? I = some (combO P (rawInt 1) (.ref T0) nx) := by
        rw [Heap.get?_update_self _ h1 rfl]
        simp [Obj.mapFields, combO]
      have hI0 := hI
      unfold combO at hI
      have hp : (s.heap.update I (Obj.mapFields fun x => x.extract 0 3 ++ (nx.map fun (n : Nat) => rawInt (n : Int)).toArray)).get? P = some ⟨.type "tuple", dd, .seq vs.toArray n, sl⟩ := by
        rw [Heap.get?_update_ne _ _ _ _ hIP]; exact g1
      have sz3 : ¬ ((#[Value.ref P, rawInt 1, Value.ref T0] ++ (nx.map fun (n : Nat) => rawInt (n : Int)).toArray).size > sizeLine + 2) := by
        simp; unfold sizeLine; omega
      have hpl : (combO P (rawInt 1) (.ref T0) nx).data.pastItsLine = none := pil _ (by simp; omega)
      wp_walk
      rw [hpl]
      wp_walk
      simp only [hs, if_false]
      wp_walk
      have sz : (s.heap.update I (Obj.mapFields fun x => x.extract 0 3 ++ (nx.map fun (n : Nat) => rawInt (n : Int)).toArray)).objs.size = s.heap.objs.size := by
        show (s.heap.objs.modify I _).size = _
        rw [Array.size_modify]
      have lt := get_lt h1
      refine ⟨_, rfl, h _ _ (fun b o hb e => ?_) (by rw [sz]; exact Nat.le_refl _) ?_ ?_⟩
      · rw [Heap.get?_update_ne _ _ _ _ hb]
        exact Heap.get?_push_of_some _ (by rw [Heap.get?_update_ne _ _ _ _ hb]; exact e)
      · rw [Heap.get?_update_ne _ _ _ _ (by rw [sz]; exact fun z => absurd z (Nat.ne_of_gt lt))]
        exact Heap.get?_push_size _ rfl
      · rw [Heap.get?_update_self _ (Heap.get?_push_of_some _ hI0) rfl]
        rfl
    · rename_i heq
      have e : nextC vs.length idx = none := heq
      rw [hn] at e; cases e

theorem comb_en : entryFor table "itertools.combinations.__next__" = some Builtin.«itertools.combinations.__next__» := entryFor_of_fast (by rfl)
theorem comb_pyNext {prog : Program} {w : World} {A : Around} {E : Value → Shared → Prop} {s : Shared} {I : Addr} {o : Obj} (h : s.heap.get? I = some o) (hc : o.cls = .type "itertools.combinations") {Q : Option Value → Shared → Prop} {S : PySem.Spec} (m : Meets (Builtin.«itertools.combinations.__next__» ⟨[.ref I], []⟩) S) (mono : ∀ R R' : Result → Shared → Prop, (∀ x s', R x s' → R' x s') → S A R s → S A R' s)
    (q : S A (wants (fun v s' => Q (some v) s') (fun e s' => wpAny (model prog w) A (do
      let b ← isInstance e (Value.type "StopIteration")
      if b = true then pure none else throw e) Q E s')) s) : wpAny (model prog w) A (pyNext (.ref I)) Q E s := by
  obtain ⟨cl, dd, dt, sl⟩ := o
  simp only at hc
  subst hc
  unfold pyNext
  have f1 := comb_slot.lookup
  have f2 := comb_slot.bind (.ref I)
  have hcall : ∀ {Q : Value → Shared → Prop} {E : Value → Shared → Prop}, S A (wants Q E) s → wpAny (model prog w) A (call (.builtin "itertools.combinations.__next__") ([.ref I] ++ [])) Q E s := fun {Q E} q => call_meets comb_slot ⟨_, h, rfl⟩ comb_en (by rfl) m q
  wp_walk using hcall
  refine mono _ _ (fun x s' hx => ?_) q
  cases x with
  | ok f => cases f with
    | ret v => exact wpAny_pure (wpAny_pure hx)
    | _ => exact hx
  | error e => exact hx
theorem comb_canon : Manifest.canonical (String.map (fun c => if (c.isAlphanum || c == '_' || c == '.') = true then c else '_') "itertools.combinations.__iter__") ++ "" = "dict_keyiterator.__iter__" := by decide +kernel
theorem comb_eni : entryFor table "itertools.combinations.__iter__" = some Builtin.«dict_keyiterator.__iter__» := entryFor_alias (by rfl) (by decide +kernel) comb_canon (by rfl)
theorem comb_self (I : Addr) : Meets (Builtin.«dict_keyiterator.__iter__» ⟨[.ref I], []⟩) (fun A R s => R (.ok (.ret (.ref I))) s) :=
  .of_wp fun prog w A R s h => by
    wp_walk
    exact ⟨_, rfl, h⟩
theorem comb_pyIter {prog : Program} {w : World} {A : Around} {E : Value → Shared → Prop} {s : Shared} {I : Addr} {o : Obj} (h : s.heap.get? I = some o) (hc : o.cls = .type "itertools.combinations") {Q : Value → Shared → Prop} (q : Q (.ref I) s) : wpAny (model prog w) A (pyIter (.ref I)) Q E s := by
  obtain ⟨cl, dd, dt, sl⟩ := o
  simp only at hc
  subst hc
  refine wpAny_pyIter_slot ⟨_, h, rfl⟩ comb_slotI ?_
  exact call_meets comb_slotI ⟨_, h, rfl⟩ comb_eni (by rfl) (comb_self I) ⟨_, _, ⟨_, h, rfl⟩, comb_slot.lookup, q⟩
theorem comb_end (I P : Addr) (T0 : Addr) (idx : List Nat) (vs : List Value) (hl : idx.length ≤ 64) (hIP : P ≠ I) (hn : nextC vs.length idx = none) :
    Meets (Builtin.«itertools.combinations.__next__» ⟨[.ref I], []⟩) (fun A R s => s.heap.get? I = some (combO P (rawInt 1) (.ref T0) idx) ∧ IsTup s.heap P vs.toArray ∧ A.handled = none ∧
      ∀ (h' : Heap) (e : Addr), (∀ b o, b ≠ I → s.heap.get? b = some o → h'.get? b = some o) → (∃ o, h'.get? e = some o ∧ o.cls = .type "StopIteration") → R (.error (.ref e)) { s with heap := h' }) :=
  .of_wp fun prog w A R s h => by
    obtain ⟨h1, h2, h⟩ := h
    have hnum : ∀ {Q : List Nat → Shared → Prop} {E : Value → Shared → Prop}, Q idx s → wpAny (model prog w) A.in1 (Builtin.Itertools.itNumbersFrom (.ref I) 3) Q E s := fun q => comb_num h1 q
    unfold combO at h1
    obtain ⟨⟨cl, dd, dt, sl⟩, g1, g2, n, g3⟩ := h2
    simp only at g2 g3
    subst g2 g3
    wp_walk using hnum
    split
    · rename_i nx' heq
      have e : nextC vs.length idx = some nx' := heq
      rw [hn] at e; cases e
    · wp_walk
      refine wpAny_raiseNew_none h.1 (h.2 _ _ (fun b o hb e => ?_) ⟨_, Heap.get?_push_at (by rfl) rfl, rfl⟩)
      exact Heap.get?_push_of_some _ (Heap.get?_push_of_some _ (by rw [Heap.get?_update_ne _ _ _ _ hb]; exact e))
theorem comb_isStop {M : Model} {A : Around} {E : Value → Shared → Prop} {s : Shared} {e : Addr} {Q : Bool → Shared → Prop} {o : Obj} (h : s.heap.get? e = some o) (hc : o.cls = .type "StopIteration") (q : Q true s) : wpAny M A (isInstance (.ref e) (.type "StopIteration")) Q E s := by
  obtain ⟨cl, dd, dt, sl⟩ := o
  simp only at hc
  subst hc
  have f : isSubtype (.type "StopIteration") (.type "StopIteration") = pure true := rfl
  wp_walk
  exact q
end Mo
end

section
set_option Elab.async false
set_option linter.all false
set_option autoImplicit false
set_option maxRecDepth 100000
set_option maxHeartbeats 1000000
namespace Mo
open PySem PySem.Spec PyProof.Rows L2
def cI (n r : Nat) : Nat → Option (List Nat)
  | 0 => some (List.range r)
  | i + 1 => (cI n r i).bind (nextC n)
theorem nextC_len {n : Nat} {ix nx : List Nat} (h : nextC n ix = some nx) : nx.length = ix.length := by
  unfold nextC at h
  split at h
  · cases h
  · rename_i i e
    simp only [Option.some.injEq] at h
    subst h
    have m := List.mem_of_find?_eq_some e
    rw [List.mem_reverse, List.mem_range] at m
    simp
    omega
theorem cI_len {n r : Nat} : ∀ {i : Nat} {ix : List Nat}, cI n r i = some ix → ix.length = r
  | 0, ix, h => by simp only [cI, Option.some.injEq] at h; subst h; exact List.length_range
  | i + 1, ix, h => by
    simp only [cI] at h
    cases e : cI n r i with
    | none => rw [e] at h; cases h
    | some jx => rw [e] at h; rw [nextC_len h, cI_len e]
def Itc (K : PySem.W.Frag) (P : Addr) (xs : List V) (r : Nat) : It where
  go := fun i H => SqT K H P xs ∧ r ≤ 64 ∧ ∃ ix, cI xs.length r i = some ix
  yld := fun i H x H' => ∃ T ix, cI xs.length r i = some ix ∧ x = .ref T ∧ H T = none ∧ H' = upd H T (.tup (ix.map fun j => xs.getD j .non))
  stop := fun i H => SqT K H P xs ∧ r ≤ 64 ∧ cI xs.length r i = none
def tnC (I P : Addr) (n r : Nat) (i : Nat) (h : Heap) : Prop := match i with
  | 0 => h.get? I = some (combO P (rawInt 0) .none (List.range r))
  | i + 1 => ∃ T ix, cI n r i = some ix ∧ h.get? I = some (combO P (rawInt 1) (.ref T) ix)
theorem tnC_obj {I P : Addr} {n r i : Nat} {h : Heap} (t : tnC I P n r i h) : ∃ st last ix, h.get? I = some (combO P st last ix) := by
  cases i with
  | zero => exact ⟨_, _, _, t⟩
  | succ i => obtain ⟨T, ix, _, e⟩ := t; exact ⟨_, _, _, e⟩
theorem vals_getD : ∀ {xs : List V} {its : List Value}, Vals xs its → ∀ j, RelV (xs.getD j .non) (its.getD j .none)
  | _, _, .nil, j => by simp [List.getD]; rfl
  | _, _, .cons r t, 0 => by simpa [List.getD] using r
  | _, _, .cons r t, j + 1 => by simpa [List.getD] using vals_getD t j
theorem vals_pick {xs : List V} {its : List Value} (v : Vals xs its) : ∀ ix : List Nat, Vals (ix.map fun j => xs.getD j .non) (ix.map fun j => its.toArray.getD j .none)
  | [] => .nil
  | j :: ix => .cons (show RelV (xs.getD j .non) (its.toArray.getD j .none) by
      have e : its.toArray.getD j .none = its.getD j .none := by
        simp only [Array.getD, List.getD, List.size_toArray]
        split
        · rename_i h; simp [h]
        · rename_i h; simp [List.getElem?_eq_none (Nat.le_of_not_lt h)]
      rw [e]; exact vals_getD v j) (vals_pick v ix)
theorem turn_comb {P : Program} {w : World} {K : PySem.W.Frag} {x : Str} {xp : Pos} (I Pa : Addr) (xs : List V) (r : Nat) : Turn P w K (.Name x xp) (Itc K Pa xs r) [I] I (tnC I Pa xs.length r) where
  mem := List.mem_cons_self
  obj := fun i h t b hb => by
    obtain ⟨st, last, ix, e⟩ := tnC_obj t
    obtain rfl := List.mem_singleton.mp hb
    exact ⟨_, e, fun v z => by cases z⟩
  keep := fun i h h' t k => by
    cases i with
    | zero => exact k I List.mem_cons_self _ t
    | succ i => obtain ⟨T, ix, e1, e2⟩ := t; exact ⟨T, ix, e1, k I List.mem_cons_self _ e2⟩
  item := fun X hP hw hK hcalm i pins s σ H E I0 hf t hgo => by
    subst hP hw hK
    obtain ⟨hs, hr, ix, hix⟩ := hgo
    have ok := I0.ok
    obtain ⟨its, hv, hT, hl⟩ := I0.tuple hs
    have hli : its.length = xs.length := hv.length.symm
    have hIP : Pa ≠ I := by
      rintro rfl
      obtain ⟨st, last, jx, e⟩ := tnC_obj t
      obtain ⟨o, e2, c2, _⟩ := hT
      rw [e] at e2
      cases e2
      simp [combO] at c2
    have hlen := cI_len hix
    have fin : ∀ (h' : Heap) (T : Addr) (ix' : List Nat), ix' = ix → (∀ b o, b ≠ I → s.heap.get? b = some o → h'.get? b = some o) → s.heap.objs.size ≤ T → h'.get? T = some (PyProof.Rows.seqObj "tuple" (ix'.map fun i => its.toArray.getD i .none).toArray 0) → h'.get? I = some (combO Pa (rawInt 1) (.ref T) ix') →
        ∃ u, (some (Value.ref T)) = some u ∧ wpAny (model X.prog X.w) X.A (letOwnedTupleGo (.Name x xp) (Value.ref I) u) (fun _ s2 => ∃ x H', L2.Inv X pins σ H' s2 ∧ RelV x u ∧ (Itc X.K Pa xs r).yld i H x H' ∧ tnC I Pa xs.length r (i + 1) s2.heap ∧ ∀ b ∈ [I], H' b = none) E { s with heap := h' } := by
      intro h' T ix' he k1 k2 k3 k4
      subst he
      refine ⟨_, rfl, wpAny_pure ?_⟩
      have Tn : T ≠ I := by
        rintro rfl
        obtain ⟨st, last, jx, e⟩ := tnC_obj t
        exact absurd (get_lt e) (Nat.not_lt.mpr k2)
      have I2 := I0.turnedNew (h' := h') (t' := s.toks) (ch := [I]) (T := T) (ob := .tup (ix'.map fun j => xs.getD j .non)) (fun b o hb e => k1 b o (fun z => hb (by rw [z]; exact List.mem_cons_self)) e) (fun b hb => hf b hb) k2
        ⟨by rw [List.length_map, hlen]; unfold sizeLine; omega, _, vals_pick hv ix', ⟨_, k3, rfl, _, rfl⟩⟩
      refine ⟨.ref T, _, I2, rfl, ⟨T, ix', hix, rfl, I0.hok.fresh k2, rfl⟩, ⟨T, ix', hix, k4⟩, fun b hb => ?_⟩
      obtain rfl := List.mem_singleton.mp hb
      rw [upd_ne (Ne.symm Tn)]
      exact (hf b List.mem_cons_self).1
    cases i with
    | zero =>
      simp only [cI, Option.some.injEq] at hix
      refine comb_pyNext t rfl (comb_next0 I Pa .none (List.range r) its (by rw [List.length_range]; exact hr) hIP) (fun R R' i q => ⟨q.1, q.2.1, fun h' T a b c d => i _ _ (q.2.2 h' T a b c d)⟩) ⟨t, hT, fun h' T k1 k2 k3 k4 => fin h' T _ hix k1 k2 k3 k4⟩
    | succ i =>
      obtain ⟨T0, jx, ej, et⟩ := t
      simp only [cI, ej, Option.bind_some] at hix
      rw [← hli] at hix
      have hjl := cI_len ej
      refine comb_pyNext et rfl (comb_next1 I Pa T0 jx ix its (by omega) hIP hix (by omega)) (fun R R' i q => ⟨q.1, q.2.1, fun h' T a b c d => i _ _ (q.2.2 h' T a b c d)⟩) ⟨et, hT, fun h' T k1 k2 k3 k4 => fin h' T _ rfl k1 k2 k3 k4⟩
  done := fun X hP hw hK hcalm i pins s σ H E I0 hf t hst => by
    subst hP hw hK
    obtain ⟨hs, hr, hix⟩ := hst
    obtain ⟨its, hv, hT, hl⟩ := I0.tuple hs
    have hli : its.length = xs.length := hv.length.symm
    have hIP : Pa ≠ I := by
      rintro rfl
      obtain ⟨st, last, jx, e⟩ := tnC_obj t
      obtain ⟨o, e2, c2, _⟩ := hT
      rw [e] at e2
      cases e2
      simp [combO] at c2
    cases i with
    | zero => cases hix
    | succ i =>
      obtain ⟨T0, jx, ej, et⟩ := t
      simp only [cI, ej, Option.bind_some] at hix
      rw [← hli] at hix
      have hjl := cI_len ej
      refine comb_pyNext et rfl (comb_end I Pa T0 jx its (by omega) hIP hix) (fun R R' i q => ⟨q.1, q.2.1, q.2.2.1, fun h' e a b => i _ _ (q.2.2.2 h' e a b)⟩) ⟨et, hT, I0.ok.hd hcalm, fun h' e k1 k2 => ?_⟩
      obtain ⟨o, k2, k3⟩ := k2
      refine wpAny_bind (comb_isStop (s := { s with heap := h' }) k2 k3 ?_)
      rw [if_pos rfl]
      exact wpAny_pure ⟨rfl, I0.turnedL (h' := h') (t' := s.toks) (ch := [I]) (fun b o hb e => k1 b o (fun z => hb (by rw [z]; exact List.mem_cons_self)) e) (fun b hb => hf b hb)⟩
  self := fun A i s Q E t q => by
    obtain ⟨st, last, ix, e⟩ := tnC_obj t
    exact comb_pyIter e rfl q
/-- combinations(xs, r) -/
def phiC (I P : Addr) (r : Nat) : Heap → Prop := fun h => h.get? I = some (combO P (rawInt 0) .none (List.range r))
def rComb (K : PySem.W.Frag) (z : Nat) : List V → Hp → VK → Prop := fun vs H Q => ∃ a xs r, vs = [.ref a, .int (r : Nat)] ∧ (SqL K H a xs ∨ SqT K H a xs) ∧ r ≤ 64 ∧ r ≤ xs.length ∧ ∀ P I, H P = none → H I = none → I ≠ P → z ≤ I → Q (.ref I) (upd (upd H P (.tup xs)) I (.ext (phiC I P r)))
theorem callr_comb {X : Cx} : CallR X (.type "itertools.combinations") (rComb X.K X.s_0.heap.objs.size) := by
  intro pins s σ H vs us Q I r h
  obtain ⟨a, xs, n, rfl, hx, hn, hnx, q⟩ := h
  obtain ⟨u1, u2, rfl, ru1, ru2⟩ : ∃ u1 u2, us = [u1, u2] ∧ RelV (.ref a) u1 ∧ RelV (.int n) u2 := by
    cases r with
    | cons r1 t => cases t with
      | cons r2 t => cases t; exact ⟨_, _, rfl, r1, r2⟩
  obtain rfl : u1 = .ref a := ru1
  obtain ⟨t, rfl⟩ : ∃ t, u2 = .int n t := ru2
  have hit : ∃ its T o m, Vals xs its ∧ (T = "list" ∨ T = "tuple") ∧ s.heap.get? a = some o ∧ o.cls = .type T ∧ o.data = .seq its.toArray m ∧ xs.length ≤ sizeLine := by
    rcases hx with hx | hx
    · obtain ⟨its, v, ⟨o, m, h1, h2, _, h4⟩, hl⟩ := I.list hx
      exact ⟨its, "list", o, m, v, .inl rfl, h1, h2, h4, hl⟩
    · obtain ⟨its, v, ⟨o, h1, h2, m, h4⟩, hl⟩ := I.tuple hx
      exact ⟨its, "tuple", o, m, v, .inr rfl, h1, h2, h4, hl⟩
  obtain ⟨its, T, o, m, hv, hT, ho, hc, hdt, hl⟩ := hit
  have hli : its.length = xs.length := hv.length.symm
  refine comb_call hT ho hc hdt (by omega) hn (by omega) (fun h' hk => ?_)
  have I1 := I.turnedL (h' := h') (t' := s.toks) (ch := []) (fun b o _ hb => hk b o hb) (fun b hb => (nomatch hb))
  have I2 := I1.turnedNew (h' := h'.push (PyProof.Rows.seqObj "tuple" its.toArray 0)) (t' := s.toks) (ch := []) (T := h'.objs.size) (ob := .tup xs) (fun b o _ hb => Heap.get?_push_of_some _ hb) (fun b hb => (nomatch hb)) (Nat.le_refl _)
    ⟨hl, its, hv, ⟨_, Heap.get?_push_size _ rfl, rfl, _, rfl⟩⟩
  have sz : (h'.push (PyProof.Rows.seqObj "tuple" its.toArray 0)).objs.size = h'.objs.size + 1 := by
    show (h'.objs.push _).size = _
    rw [Array.size_push]
  have hg : ((h'.push (PyProof.Rows.seqObj "tuple" its.toArray 0)).push (combO h'.objs.size (rawInt 0) .none (List.range n))).get? (h'.objs.size + 1) = some (combO h'.objs.size (rawInt 0) .none (List.range n)) := Heap.get?_push_at sz.symm rfl
  have I3 := I2.turnedNew (h' := (h'.push (PyProof.Rows.seqObj "tuple" its.toArray 0)).push (combO h'.objs.size (rawInt 0) .none (List.range n))) (t' := s.toks) (ch := []) (T := h'.objs.size + 1) (ob := .ext (phiC (h'.objs.size + 1) h'.objs.size n)) (fun b o _ hb => Heap.get?_push_of_some _ hb) (fun b hb => (nomatch hb)) (by show (h'.push _).objs.size ≤ _; rw [sz]; exact Nat.le_refl _)
    ⟨hg, ⟨_, hg⟩, fun h1 h2 p k => k _ p⟩
  have z := I1.sz
  refine ⟨.ref (h'.objs.size + 1), _, I3, rfl, q h'.objs.size (h'.objs.size + 1) (I1.hok.fresh (Nat.le_refl _)) (I1.hok.fresh (Nat.le_succ _)) (Nat.succ_ne_self _) (Nat.le_succ_of_le z)⟩
def iComb (K : PySem.W.Frag) (z : Nat) (ta : TA) : TI := fun σ H R => tCB (rComb K z) ta σ H (fun v H' => ∃ P I xs r, v = .ref I ∧ H' I = some (.ext (phiC I P r)) ∧ z ≤ I ∧ R (Itc K P xs r) (ItX.dropH H' I))
theorem pi_comb {X : Cx} {x y : Str} {xp p pos : Pos} {e : Expr} {es : List Expr} {ta : TA} (hg : Gl X y) (hm : X.mg y = some (.type "itertools.combinations")) (ha : PA X (e :: es) ta) (hd : (y == ("__debug__" : Str)) = false := by decide)
    (he : starEach (e :: es) X.env = (false, eval e X.env) :: starEach es X.env := by rfl) (hpl : (backTo pos (starEach es X.env)).any (·.1) = false := by rfl) : PI X (.Name x xp) (.Call (.Name y p) (e :: es) [] pos) (iComb X.K X.s_0.heap.objs.size ta) := by
  refine ⟨fun pins s σ H R I h => ?_⟩
  have P := pe_callGT callr_comb hg hm ha hd he hpl (p := p) (pos := pos)
  refine wpAny_mono (P.run pins s σ H _ I h) (fun v s1 hv => ?_) (fun _ _ h => h)
  obtain ⟨v', H', I1, rv, P, It, xs, r, rfl, h1, h2, h3⟩ := hv
  obtain rfl := rv
  have ok := I1.hok It _ h1
  obtain ⟨ph, _⟩ := ok
  refine comb_pyIter ph rfl ⟨It, [It], _, _, _, rfl, ItX.inv_drop I1 h1, turn_comb It P xs r, ph, fun b hb => ?_, h3⟩
  obtain rfl := List.mem_singleton.mp hb
  exact ItX.inv_fp I1 h1 h2

def combs (n : Nat) : Nat → List Nat → Option (List (List Nat))
  | 0, _ => none
  | k + 1, ix => match nextC n ix with
    | none => some [ix]
    | some j => (combs n k j).map (ix :: ·)
theorem cI_none {n r : Nat} : ∀ {i j : Nat}, i ≤ j → cI n r i = none → cI n r j = none
  | i, 0, h, e => by obtain rfl := Nat.le_zero.mp h; exact e
  | i, j + 1, h, e => by
    rcases Nat.lt_or_ge i (j + 1) with l | l
    · simp only [cI, cI_none (Nat.le_of_lt_succ l) e, Option.bind_none]
    · have : i = j + 1 := Nat.le_antisymm h l
      subst this; exact e
theorem combs_at {n r : Nat} : ∀ {k : Nat} {ix : List Nat} {L : List (List Nat)} {i0 : Nat}, combs n k ix = some L → cI n r i0 = some ix → ∀ i, L[i]? = cI n r (i0 + i)
  | 0, ix, L, i0, h, _, _ => by cases h
  | k + 1, ix, L, i0, h, e, i => by
    simp only [combs] at h
    cases e1 : nextC n ix with
    | none =>
      rw [e1] at h
      simp only [Option.some.injEq] at h; subst h
      have e2 : cI n r (i0 + 1) = none := by simp only [cI, e, Option.bind_some, e1]
      cases i with
      | zero => simpa using e.symm
      | succ i => rw [cI_none (by omega : i0 + 1 ≤ i0 + (i + 1)) e2]; simp
    | some j =>
      rw [e1] at h
      simp only [Option.map_eq_some_iff] at h
      obtain ⟨L', h, rfl⟩ := h
      have e2 : cI n r (i0 + 1) = some j := by simp only [cI, e, Option.bind_some, e1]
      cases i with
      | zero => simpa using e.symm
      | succ i =>
        rw [List.getElem?_cons_succ, combs_at h e2 i]
        congr 1
        omega
def pickW (xs : List W) (ix : List Nat) : W := .tup (ix.map fun j => xs.getD j .non)
theorem VRs.getD {G : Gm} {F : Hp} {ι : List Addr} : ∀ {ws : List W} {vs : List V}, VRs G F ι ws vs → ∀ j, VR G F ι (ws.getD j .non) (vs.getD j .non)
  | _, _, .nil, j => by simp [List.getD]; exact .non
  | _, _, .cons r t, 0 => by simpa [List.getD] using r
  | _, _, .cons r t, j + 1 => by simpa [List.getD] using VRs.getD t j
theorem VRs.pick {G : Gm} {F : Hp} {ι : List Addr} {ws : List W} {vs : List V} (r : VRs G F ι ws vs) : ∀ ix : List Nat, VRs G F ι (ix.map fun j => ws.getD j .non) (ix.map fun j => vs.getD j .non)
  | [] => .nil
  | j :: ix => .cons (r.getD j) (r.pick ix)
def iCb (am : AM) : IM := fun σ h => (am σ h).bind fun ws h1 => match ws with
  | [w, .int r] => match itemsW h1 w with
    | some xs => if (decide (0 ≤ r) && decide (r.toNat ≤ xs.length) && decide (r.toNat ≤ 64)) = true then match combs xs.length (2 ^ xs.length) (List.range r.toNat) with
        | some L => .ok (fun _ => some (L.map (pickW xs))) h1
        | none => .no
      else .no
    | none => .no
  | _ => .no
theorem itr_comb {G : Gm} {d : Wd} {h0 : Hq} {P : Addr} {ws : List W} {vs : List V} {r : Nat} {L : List (List Nat)} (hr0 : HR G d h0) (np : d.H P = none) (rs : VRs G d.F d.ι ws vs) (hr : r ≤ 64) (hL : combs ws.length (2 ^ ws.length) (List.range r) = some L) :
    ItR G (d.addF P (.tup vs)) (Itc G.K P vs r) (fun _ => some (L.map (pickW ws))) := by
  intro d2 h us e hr2 hu i
  simp only [Option.some.injEq] at hu
  subst hu
  have hp : (d.addF P (.tup vs)).F P = some (.tup vs) := upd_same
  have hs : SqT G.K d2.H P vs := .inl (.inl (hr2.sub _ _ (e.F _ _ hp)))
  have hlen := rs.length
  rw [hlen] at hL
  have hc := combs_at (r := r) (i0 := 0) hL rfl
  simp only [Nat.zero_add] at hc
  refine ⟨fun hi => ?_, fun hi => ?_⟩
  · rw [List.length_map] at hi
    have hix : cI vs.length r i = some L[i] := by rw [← hc i]; simp [hi]
    refine ⟨⟨hs, hr, _, hix⟩, ?_⟩
    rintro x H' ⟨T, ix, h1, rfl, hT, rfl⟩
    rw [hix] at h1
    obtain rfl := Option.some.inj h1
    have e1 := ext_addF (d := d) (.tup vs) np (hr0.fnone np)
    have rs2 := (rs.mono e1.F e1.ι).mono e.F e.ι
    refine ⟨d2.addF T (.tup (L[i].map fun j => vs.getD j .non)), pickW ws L[i], rfl, ext_addF _ hT (hr2.fnone hT), hr2.addF _ hT, by simp [hi], ?_⟩
    have e2 := ext_addF (d := d2) (.tup (L[i].map fun j => vs.getD j .non)) hT (hr2.fnone hT)
    exact .tup (.inl (.inl upd_same)) ((rs2.pick L[i]).mono e2.F e2.ι)
  · rw [List.length_map] at hi
    exact ⟨hs, hr, by rw [← hc i]; exact List.getElem?_eq_none hi⟩
theorem xi_comb {Th : Tabl} {X : Cx} {E : XK} {x y : Str} {xp p pos : Pos} {e : Expr} {es : List Expr} {am : AM} (hg : Gl X y) (hm : X.mg y = some (.type "itertools.combinations")) (ha : XA Th X E (e :: es) am) (hd : (y == ("__debug__" : Str)) = false := by decide)
    (he : starEach (e :: es) X.env = (false, eval e X.env) :: starEach es X.env := by rfl) (hpl : (backTo pos (starEach es X.env)).any (·.1) = false := by rfl) : XIt Th X E (.Name x xp) (.Call (.Name y p) (e :: es) [] pos) (iCb am) := by
  obtain ⟨ta, pa, sa⟩ := ha
  refine ⟨_, pi_comb hg hm pa hd he hpl, fun d σ' σ h R sr hr pp => ?_⟩
  refine sa d σ' σ h _ sr hr ((Po.then pp).imp fun d1 ws h1 e1 hr1 p1 vs rs => ?_)
  split at p1
  · rename_i w r
    obtain ⟨v, z, rfl, rw1, rz⟩ := rs.two
    obtain rfl := rz.int_of
    cases ei : itemsW h1 w with
    | none => rw [ei] at p1; exact p1.elim
    | some xs =>
      rw [ei] at p1
      simp only at p1
      by_cases hc : (decide (0 ≤ r) && decide (r.toNat ≤ xs.length) && decide (r.toNat ≤ 64)) = true
      · rw [if_pos hc] at p1
        simp only [Bool.and_eq_true, decide_eq_true_eq] at hc
        cases eL : combs xs.length (2 ^ xs.length) (List.range r.toNat) with
        | none => rw [eL] at p1; exact p1.elim
        | some L =>
          rw [eL] at p1
          simp only at p1
          have main : ∀ (a : Addr) (us : List V), v = .ref a → (SqL X.K d1.H a us ∨ SqT X.K d1.H a us) → VRs (Cx.G Th X) d1.F d1.ι xs us → rComb X.K X.s_0.heap.objs.size [v, .int r] d1.H (fun v H' => ∃ P I xs r, v = .ref I ∧ H' I = some (.ext (phiC I P r)) ∧ X.s_0.heap.objs.size ≤ I ∧ R (Itc X.K P xs r) (ItX.dropH H' I)) := by
            intro a us hv hs t
            subst hv
            have hlen := t.length
            refine ⟨a, us, r.toNat, by rw [Int.toNat_of_nonneg hc.1.1], hs, hc.2, by rw [← hlen]; exact hc.1.2, fun P I nP nI ne hz => ⟨P, I, us, r.toNat, rfl, upd_same, hz, ?_⟩⟩
            rw [ItX.dropH_upd (by rw [upd_ne ne]; exact nI)]
            exact p1 (d1.addF P (.tup us)) (ext_addF _ nP (hr1.fnone nP)) (hr1.addF _ nP) _ (itr_comb hr1 nP t hc.2 eL)
          cases rw1 with
          | tup s t => simp only [itemsW, Option.some.injEq] at ei; subst ei; exact main _ _ rfl (.inr (sqT_sub hr1 s)) t
          | lst s t => simp only [itemsW, Option.some.injEq] at ei; subst ei; exact main _ _ rfl (.inl (SqL.of (hr1.sub _ _ s))) t
          | scr s t => simp only [itemsW, Option.some.injEq] at ei; subst ei; exact main _ _ rfl (.inl (sqL_sub hr1 s)) t
          | ref z =>
            obtain ⟨o, u, g1, g2, g3⟩ := hr1.mem z
            simp only [itemsW, g1] at ei
            cases g3 with
            | lst t => simp only [Option.some.injEq] at ei; subst ei; exact main _ _ rfl (.inl (SqL.of g2)) t
            | _ => cases ei
          | _ => cases ei
      · rw [if_neg hc] at p1; exact p1.elim
  · exact p1.elim
end Mo
end

section
set_option Elab.async false
set_option linter.all false
set_option autoImplicit false
set_option maxRecDepth 100000
set_option maxHeartbeats 1000000
namespace Mo
open PySem PySem.Spec PyProof.Rows L2
/-! ### try: f() except Base as e: return isinstance(e, C) -- then return False -/
def ttNM (K : PySem.W.Frag) (CS CN : Addr) : (XK → Hp → VK → Prop) → Hp → VK → Prop := fun tl H Q =>
  tl (fun cls d H' => ∃ D b, cls = .ref D ∧ d = none ∧ ExcC K D ∧ PySem.W.exmOne K (.ref D) (.ref CS) = some true ∧ PySem.W.kitOne K (.ref D) (.ref CN) = some b ∧ Q (.bl b) H') H (fun _ H' => Q (.bl false) H')
def tsNM (K : PySem.W.Frag) (CN : Addr) : Addr → Value → Option Addr → TS := fun a cls d D σ H =>
  (σ.length = 2 → σ[1]? = some (some (.ref a))) ∧ ∃ C b, cls = .ref C ∧ d = none ∧ ExcC K C ∧ PySem.W.kitOne K (.ref C) (.ref CN) = some b ∧ D.rt (.bl b) H
theorem nm_gives {X : Cx} {x a e bs nm q : Str} {sg : Scope} {g CS CN : Addr} {cdg : Value} {j : Nat} {p1 p2 p3 p4 p5 p6 p7 p8 p9 p10 p11 p12 p13 : Pos}
    (nd : [a, e].Nodup) (hk : sg.names.lookup e = some NameKind.local) (hbs : sg.names.lookup bs = some NameKind.globalImplicit) (hmb : X.mg bs = some (.ref CS)) (hdb : (bs == ("__debug__" : Str)) = false)
    (hnm : sg.names.lookup nm = some NameKind.globalImplicit) (hmn : X.mg nm = some (.ref CN)) (hdn : (nm == ("__debug__" : Str)) = false) (hi : sg.names.lookup ("isinstance" : Str) = some NameKind.globalImplicit) (hmi : X.mg ("isinstance" : Str) = none)
    (hed : (e == ("__debug__" : Str)) = false) (hec : (e == ("__classdict__" : Str)) = false) :
    LamX.GivesTo X [a, e] x sg g cdg [.Try [.Expr (.Call (.Name a p1) [] [] p2) p3] [.ExceptHandler (some (.Name bs p4)) (some e) [.Return (some (.Call (.Name ("isinstance" : Str) p5) [.Name e p6, .Name nm p7] [] p8)) p9] p10] [] [] p11, .Return (some (.Constant (.bool false) j p12)) p13] a q (ttNM X.K CS CN) := by
  intro f c' s H Q tl hcall hc' hTT
  refine ⟨_, pss_cons (ps_try_as (i := 1) (n := e) (c := .ref CS) (Wout := fun _ _ _ _ => False) (ts := tsNM X.K CN)
    (tb := fun W D σ H => ∃ E : XK, (∀ cls d σ' H', E cls d H' → W cls d σ' H') ∧ tDrop (fun σZ HZ Q => σZ[0]? = some (some (.ref f)) ∧ HZ c' = some (LamX.CodeO c' q) ∧ tl E HZ Q) D σ H)
    rfl rfl nd rfl hk ⟨hbs, hdb, .inl hmb⟩ takes0 (fun W pn xe tk _ => ⟨fun pins s1 σ H1 D I h => ?_⟩) (fun a' oe cls d pn hz hf => ⟨fun pins s1 σ H1 D I h => ?_⟩)) (pss_one (ps_ret pe_bl)), ?_⟩
  · obtain ⟨E, hE, ht⟩ := h
    exact (pss_one (ps_expr (hcall W pn xe E p1 p2 tk hE))).run pins s1 σ H1 D I ht
  · obtain ⟨hσ, C, b, rfl, rfl, hC, hk2, hq⟩ := h
    have P := pss_one (ps_ret (pos := p9) (pe_callB (p := p5) (pos := p8) (call_isE (X := (cxOf C8.CX0 X.prog X.w X.K X.mg X.base [a, e] x sg g cdg X.A X.stack s H C8.E0).nox) (a := a') (pn := pn) hC hz hf) hi hmi (by decide +kernel) (pa_cons (pe_var (i := 1) (pos := p6) rfl (.inl hk) hed hec) (pa_cons (pe_glob (pos := p7) hnm hmn (v := .ref CN) rfl hdn) pa_nil))))
    refine P.run pins s1 σ H1 D I ⟨.ref a', hσ I.len, ?_⟩
    exact ⟨.ref CN, .ref CN, b, rfl, fun u hu => hu, hk2, hq⟩
  · refine ⟨_, ?_, rfl, hc', hTT⟩
    rintro cls d σ' H' ⟨D, b, rfl, rfl, hC, he, hk2, hq⟩
    refine ⟨true, he, fun _ a' ha => ⟨fun hl => ?_, D, b, rfl, rfl, hC, hk2, hq⟩, fun z => (nomatch z)⟩
    rw [List.length_set] at hl
    simp [hl]
/-- a class of exceptions, as the handler sees it -/
def ExcF (K : PySem.W.Frag) (mg : Str → Option Value) (CS CN : Addr) (c : Str) (b : Bool) : Prop := ∀ D, mg c = some (.ref D) → ExcC K D ∧ PySem.W.exmOne K (.ref D) (.ref CS) = some true ∧ PySem.W.kitOne K (.ref D) (.ref CN) = some b
def eNM (tbl : List (Str × Bool)) (me : EM) : EM := fun σ h => match me σ h with
  | .ok _ h1 => .ok (.bl false) h1
  | .ex x h1 => match x.f, tbl.lookup x.c with
    | none, some b => .ok (.bl b) h1
    | _, _ => .no
  | .no => .no
def Wd.withH (d : Wd) (H : Hp) : Wd := ⟨d.F, d.ι, H⟩
theorem OR.notbl {G : Gm} {F : Hp} {ι : List Addr} {o : O} {u : HO} (r : OR G F ι o u) : ∀ ps, u ≠ .tbl ps := by
  intro ps z
  subst z
  cases r
theorem ext_withH {d : Wd} {H : Hp} (e : LamX.ExtN d.H H) : Ext d (d.withH H) := ⟨List.prefix_refl _, fun _ _ h => h, fun p o h t n => ⟨e p o h t, n, fun f => f⟩, fun p o u h => e p _ h (fun ps z => by cases z)⟩
theorem HR.withH {G : Gm} {d : Wd} {h : Hq} (r : HR G d h) {H : Hp} (e : LamX.ExtN d.H H) (t : LamX.Tabs G.T H) : HR G (d.withH H) h where
  tabs := t
  ftab := r.ftab
  len := r.len
  nd := r.nd
  sub := fun p o f => e p o (r.sub p o f) (fun ps z => r.ftab p ps (f.trans (congrArg some z)))
  off := r.off
  obj := fun n a o e1 e2 => by
    obtain ⟨u, h1, h2⟩ := r.obj n a o e1 e2
    exact ⟨u, e a u h1 h2.notbl, h2⟩
theorem xe_lamNM {Th : Tabl} {X : Cx} {E : XK} {x a : Str} {g c P CS CN : Addr} {k : Nat} {pg : Arguments} {bg : List Stmt} {sg : Scope} {dV kV doc pm cdv ct oc : Value} {an od : Option Addr} {osl : Array (Option Value)} {Ng : List Str}
    {params : Arguments} {body : Expr} {scope : Scope} {me : EM} {p lpos pos : Pos} {tbl : List (Str × Bool)}
    (hg : Gl X x) (hm : X.mg x = some (.ref g)) (hk : PySem.W.keepIn X.K (.ref g) = true) (lk : X.K.lookup g = some ⟨oc, od, .func (PySem.W.fnOf x x pg bg sg dV kV doc pm an cdv ct), osl⟩) (hc : PySem.W.codeIn X.K cdv x = true)
    (hb : Binds X.K (PySem.W.fnOf x x pg bg sg dV kV doc pm an cdv ct) [a] []) (S : FnScope Ng [a] sg) (ha : Ng[0]? = some a) (hv : Vis sg a) (gv : LamX.GivesTo X Ng x sg g cdv bg a (X.env.qual ++ Str.ofString "<lambda>") (ttNM X.K CS CN))
    (tb : LamX.TabB X.base X.mg c P) (he : X.env.code = .ref c) (hT : (P, X.env.qual ++ Str.ofString "<lambda>") ∈ Th) (hu : ∀ q ∈ Th, q.1 = P → q.2 = X.env.qual ++ Str.ofString "<lambda>") (hr : Room (k + 2) X.A) (ls : LamX.LamS X.env.scope scope) (hd : defaultsOf params X.env = ([], []))
    (hbi : ∀ (q : Str) (cl : List (Str × Addr)) (pm cv ctv : Value), bindArgs (PySem.W.kla_fn (Str.ofString "<lambda>") q params body scope cl pm cv ctv) {} = pure [])
    (hbody : ∀ (A : Around) (outer : List Env) (s : Shared) (H : Hp) (E : XK) (f c' : Addr), Room k (A.deeper (LamX.lamEnv X scope s.heap.objs.size f c')) → XE Th (LamX.lamCx X A outer s H E scope f c') E body me)
    (hx : ∀ cn b, tbl.lookup cn = some b → ExcF X.K X.mg CS CN cn b) (d1 : (x == ("__debug__" : Str)) = false := by decide) (d2 : (a == ("__debug__" : Str)) = false := by decide) (d3 : (a == ("__classdict__" : Str)) = false := by decide) :
    XE Th X E (.Call (.Name x p) [.Lambda params body scope lpos] [] pos) (eNM tbl me) := by
  refine ⟨_, LamX.pe_lamcall (T := Th) (t := fun E' => cE (Cx.G Th X) E' me) hg hm hk lk hc hb S ha hv gv tb he hT hu hr ls hd hbi (fun A outer s H E' f c' hroom => (hbody A outer s H E' f c' hroom).can) d1 d2 d3, fun d σ' σ h Q sr hR po => ?_⟩
  refine ⟨hR.tabs, fun H1 hext ht => ?_⟩
  have e := ext_withH hext
  have hR1 := hR.withH hext ht
  refine ⟨d.withH H1, σ', h, rfl, sr.mono e, hR1, ?_⟩
  unfold eNM at po
  cases em : me σ' h with
  | ok w h1 =>
    rw [em] at po
    exact fun d2 e2 hr2 v _ => po d2 (e.trans e2) hr2 _ .bl
  | ex x h1 =>
    rw [em] at po
    simp only at po
    intro d2 C dd e2 hr2 hC hD
    cases xf : x.f with
    | some _ => rw [xf] at po; exact po.elim
    | none =>
      cases xl : tbl.lookup x.c with
      | none => rw [xf, xl] at po; exact po.elim
      | some b =>
        rw [xf, xl] at po
        rw [xf] at hD
        obtain ⟨h5, h6, h7⟩ := hx _ _ xl C hC
        cases dd with
        | some _ => exact hD.elim
        | none => exact ⟨C, b, rfl, rfl, h5, h6, h7, po d2 (e.trans e2) hr2 _ .bl⟩
  | no => rw [em] at po; exact po.elim
theorem c_sortedR {Th : Tabl} {X : Cx} {E : XK} {k : Nat} (hr : Room k X.A) : XC Th X E (.builtin "sorted") cSorted := c_sorted (by have := hr.un; omega)
end Mo
end

section
set_option Elab.async false
set_option linter.all false
set_option autoImplicit false
set_option maxRecDepth 100000
set_option maxHeartbeats 1000000
namespace Mo
open PySem PySem.Spec PyProof.Rows L2
/-- the def: try: a() except bs as e: return isinstance(e, nm) -- return False -/
structure Nm (K : PySem.W.Frag) (mg : Str → Option Value) (x : Str) (st : Stmt) (a bs nm : Str) (tbl : List (Str × Bool)) : Prop where
  ex : ∃ g oc od dV kV doc pm an cdv ct osl CS CN, mg x = some (.ref g) ∧ PySem.W.keepIn K (.ref g) = true ∧ K.lookup g = some ⟨oc, od, .func (PySem.W.fnOf x x (defArgs st) (defBody st) (defScope st) dV kV doc pm an cdv ct), osl⟩ ∧ PySem.W.codeIn K cdv x = true ∧
    Binds K (PySem.W.fnOf x x (defArgs st) (defBody st) (defScope st) dV kV doc pm an cdv ct) [a] [] ∧ mg bs = some (.ref CS) ∧ mg nm = some (.ref CN) ∧ ∀ cn b, tbl.lookup cn = some b → ExcF K mg CS CN cn b
def lamQ (x : Str) (st : Stmt) (f : Addr) (cd : Value) : Str := (envOfC x (defScope st) 0 f cd).qual ++ Str.ofString "<lambda>"
/-- a def of the top that makes lambdas -/
structure Dl (K : PySem.W.Frag) (mg : Str → Option Value) (base : Heap) (T : Tabl) (x : Str) (st : Stmt) (ps : List Str) : Prop where
  ex : ∃ f oc od dV kV doc pm an c P ct osl, mg x = some (.ref f) ∧ PySem.W.keepIn K (.ref f) = true ∧ K.lookup f = some ⟨oc, od, .func (PySem.W.fnOf x x (defArgs st) (defBody st) (defScope st) dV kV doc pm an (.ref c) ct), osl⟩ ∧ PySem.W.codeIn K (.ref c) x = true ∧
    Binds K (PySem.W.fnOf x x (defArgs st) (defBody st) (defScope st) dV kV doc pm an (.ref c) ct) ps [] ∧ LamX.TabB base mg c P ∧ (P, lamQ x st f (.ref c)) ∈ T ∧ ∀ q ∈ T, q.1 = P → q.2 = lamQ x st f (.ref c)
section
variable {Th : Tabl} {P : Program} {w : World} {K : PySem.W.Frag} {mg : Str → Option Value} {base : Heap}
theorem Dl.fn {x : Str} {st : Stmt} {N ps : List Str} {k : Nat} {m : SM} (d : Dl K mg base Th x st ps) (S : FnScope N ps (defScope st))
    (hbody : ∀ (f c Pt : Addr) (A : Around) (outer : List Env) (s : Shared) (H : Hp) (E : XK), LamX.TabB base mg c Pt → (Pt, lamQ x st f (.ref c)) ∈ Th → (∀ q ∈ Th, q.1 = Pt → q.2 = lamQ x st f (.ref c)) → Room k (A.deeper (envOfC x (defScope st) s.heap.objs.size f (.ref c))) → Tk (cxOf (L2.CX P w) P w K mg base N x (defScope st) f (.ref c) A outer s H E) E →
      XSs Th (cxOf (L2.CX P w) P w K mg base N x (defScope st) f (.ref c) A outer s H E) E (defBody st) m) : Fn Th P w K mg base (k + 1) x ps.length (fBody N.length ps.length m) := by
  obtain ⟨f, oc, od, dV, kV, doc, pm, an, c, Pt, ct, osl, hm, hk, lk, hc, hb, tb, hT, hu⟩ := d
  refine ⟨f, _, ps, ⟨fun vs H Q E h => ?_, fun A outer s H args us vs Q E hr he hbt hv h => ?_⟩, hm, hk, hb⟩
  · obtain ⟨d, h, ws, _, hl, _⟩ := h
    exact hl
  · obtain ⟨d, hq, ws, rfl, hl, r, hR, p⟩ := h
    refine LamX.run_ofS lk hc S hr he hbt hv hl (fun hr' => ?_)
    obtain ⟨t, pt, sm⟩ := hbody f c Pt A outer s d.H E tb hT hu hr' (takes_of rfl rfl rfl rfl)
    refine ⟨t, pt, ?_⟩
    have hl' : ws.length = ps.length := by rw [r.length]; exact hl
    unfold fBody at p
    rw [if_pos hl'] at p
    have sr := sr_start (G := ⟨K, mg, Th, w⟩) (d := d) (N := N) r
    rw [hl'] at sr
    refine sm d _ _ hq _ sr hR ((Po.then p).imp fun d1 f h1 e1 hr1 p1 => ?_)
    cases f with
    | nx σ1 => exact fun σ2 _ => p1.ok hr1 _ .non
    | rt w => exact p1.ok hr1
    | bk _ => exact p1.elim
    | ct _ => exact p1.elim
end
theorem xe_nm {Th : Tabl} {X : Cx} {E : XK} {x a e bs nm : Str} {st : Stmt} {c P : Addr} {k : Nat} {params : Arguments} {body : Expr} {scope : Scope} {me : EM} {p lpos pos : Pos} {tbl : List (Str × Bool)} {lq : Str} (N : Nm X.K X.mg x st a bs nm tbl) (S : FnScope [a, e] [a] (defScope st))
    (gv : ∀ g cdv CS CN q, X.mg bs = some (.ref CS) → X.mg nm = some (.ref CN) → LamX.GivesTo X [a, e] x (defScope st) g cdv (defBody st) a q (ttNM X.K CS CN))
    (tb : LamX.TabB X.base X.mg c P) (hT : (P, lq) ∈ Th) (hu : ∀ q ∈ Th, q.1 = P → q.2 = lq) (hq : lq = X.env.qual ++ Str.ofString "<lambda>") (he : X.env.code = .ref c) (hr : Room (k + 2) X.A)
    (hbody : ∀ (A : Around) (outer : List Env) (s : Shared) (H : Hp) (E : XK) (f c' : Addr), Room k (A.deeper (LamX.lamEnv X scope s.heap.objs.size f c')) → Tk (LamX.lamCx X A outer s H E scope f c') E → XE Th (LamX.lamCx X A outer s H E scope f c') E body me)
    (hg : Gl X x := by rfl) (hv : Vis (defScope st) a := by exact Or.inl rfl) (ls : LamX.LamS X.env.scope scope := by exact LamX.lamS_by (by rfl)) (hd : defaultsOf params X.env = ([], []) := by rfl)
    (hbi : ∀ (q : Str) (cl : List (Str × Addr)) (pm cv ctv : Value), bindArgs (PySem.W.kla_fn (Str.ofString "<lambda>") q params body scope cl pm cv ctv) {} = pure [] := by exact fun _ _ _ _ _ => rfl)
    (d1 : (x == ("__debug__" : Str)) = false := by decide) (d2 : (a == ("__debug__" : Str)) = false := by decide) (d3 : (a == ("__classdict__" : Str)) = false := by decide) :
    XE Th X E (.Call (.Name x p) [.Lambda params body scope lpos] [] pos) (eNM tbl me) := by
  obtain ⟨g, oc, od, dV, kV, doc, pm, an, cdv, ct, osl, CS, CN, hm, hk, lk, hc, hb, h1, h2, hx⟩ := N
  subst hq
  exact xe_lamNM hg hm hk lk hc hb S rfl hv (gv g cdv CS CN _ h1 h2) tb he hT hu hr ls hd hbi (fun A outer s H E f c' hr' => hbody A outer s H E f c' hr' (takes_of rfl rfl rfl rfl)) hx d1 d2 d3
end Mo
end

section
set_option Elab.async false
set_option linter.all false
set_option autoImplicit false
set_option maxRecDepth 100000
set_option maxHeartbeats 1000000
namespace Mo
open PySem PySem.Spec PyProof.Rows L2
/-! ### the beginning -/
def F00 (H : Hp) : Hp := fun p => match H p with
  | some (.tbl _) => none
  | o => o
theorem F00_sub {H : Hp} {p : Addr} {o : HO} (e : F00 H p = some o) : H p = some o := by
  unfold F00 at e
  split at e
  · cases e
  · exact e
theorem F00_at {H : Hp} {p : Addr} {o : HO} (e : H p = some o) (n : ∀ ps, o ≠ .tbl ps) : F00 H p = some o := by
  unfold F00
  split
  · rename_i ps h
    rw [e] at h
    exact absurd (Option.some.inj h) (n ps)
  · exact e
theorem hr_start {G : Gm} {H : Hp} (t : LamX.Tabs G.T H) : HR G ⟨F00 H, [], H⟩ [] where
  tabs := t
  ftab := fun p ps e => by
    have e' := F00_sub e
    unfold F00 at e
    simp only [e'] at e
    cases e
  len := rfl
  nd := List.nodup_nil
  sub := fun p o e => F00_sub e
  off := fun n a o e => by simp at e
  obj := fun n a o e => by simp at e
theorem vrs_ints {G : Gm} {F : Hp} {ι : List Addr} : ∀ ns : List Int, VRs G F ι (ns.map W.int) (ns.map V.int)
  | [] => .nil
  | n :: ns => .cons .int (vrs_ints ns)
theorem sp_start {K : PySem.W.Frag} {mg : Str → Option Value} {Th : Tabl} {w : World} {m : FM} {H : Hp} {a : Addr} {ns : List Int} (hS : SqL K H a (ns.map V.int)) (t : LamX.Tabs Th H) (hm : ∃ h', m [.scr (ns.map W.int)] [] = .ok (.bl true) h') :
    spM ⟨K, mg, Th, w⟩ 1 m [.ref a] H (fun v _ => v = .bl true) (fun _ _ _ => False) := by
  have hF : SqL K (F00 H) a (ns.map V.int) := by
    rcases hS with (h | ⟨o, h⟩) | h
    · exact .inl (.inl (F00_at h (fun ps z => by cases z)))
    · exact .inl (.inr ⟨o, F00_at h (fun ps z => by cases z)⟩)
    · exact .inr h
  obtain ⟨h', e⟩ := hm
  refine ⟨⟨F00 H, [], H⟩, [], [.scr (ns.map W.int)], rfl, rfl, .cons (.scr hF (vrs_ints ns)) .nil, hr_start t, ?_⟩
  rw [e]
  intro d2 e2 hr2 v r
  cases r
  rfl
/-! ### facts of the head -/
def chk (K : PySem.W.Frag) : Nat → W → Value → Bool
  | 0, _, _ => false
  | k + 1, w, u => match w, u with
    | .non, .none => true
    | .bl b, .bool c => b == c
    | .int i, .int j _ => i == j
    | .str x, .str y _ => x == y
    | .tup ws, .ref a => match K.lookup a with
      | some ⟨.type T, _, .seq its _, _⟩ => T == "tuple" && decide (its.size ≤ sizeLine) && decide (ws.length = its.toList.length) && (ws.zip its.toList).all fun p => chk K k p.1 p.2
      | _ => false
    | _, _ => false
theorem chk_ok {K : PySem.W.Frag} : ∀ (k : Nat) (w : W) (u : Value), chk K k w u = true → ∃ v, RelV v u ∧ ∀ (mg : Str → Option Value) (Th : Tabl) (wo : World) F ι, VR ⟨K, mg, Th, wo⟩ F ι w v := by
  intro k
  induction k with
  | zero => intro w u h; cases h
  | succ k ih =>
    have all : ∀ (ws : List W) (us : List Value), ws.length = us.length → ((ws.zip us).all fun p => chk K k p.1 p.2) = true → ∃ vs, Vals vs us ∧ ∀ (mg : Str → Option Value) (Th : Tabl) (wo : World) F ι, VRs ⟨K, mg, Th, wo⟩ F ι ws vs := by
      intro ws
      induction ws with
      | nil =>
        intro us hl _
        cases us with
        | nil => exact ⟨[], .nil, fun _ _ _ _ _ => .nil⟩
        | cons u us => simp at hl
      | cons w ws ihw =>
        intro us hl h
        cases us with
        | nil => simp at hl
        | cons u us =>
          rw [List.zip_cons_cons, List.all_cons, Bool.and_eq_true] at h
          obtain ⟨v, r, q⟩ := ih w u h.1
          obtain ⟨vs, rs, qs⟩ := ihw us (by simpa using hl) h.2
          exact ⟨v :: vs, .cons r rs, fun mg Th wo F ι => .cons (q mg Th wo F ι) (qs mg Th wo F ι)⟩
    intro w u h
    cases w with
    | non => cases u <;> first | (exact absurd h Bool.false_ne_true) | exact ⟨.non, rfl, fun _ _ _ _ _ => .non⟩
    | bl b =>
      cases u <;> first
        | (exact absurd h Bool.false_ne_true)
        | (rename_i c; have e : b = c := by simpa [chk] using h
           subst e; exact ⟨.bl b, rfl, fun _ _ _ _ _ => .bl⟩)
    | int i =>
      cases u <;> first
        | (exact absurd h Bool.false_ne_true)
        | (rename_i j t; have e : i = j := by simpa [chk] using h
           subst e; exact ⟨.int i, ⟨t, rfl⟩, fun _ _ _ _ _ => .int⟩)
    | str x =>
      cases u <;> first
        | (exact absurd h Bool.false_ne_true)
        | (rename_i y t; have e : x = y := by simpa [chk] using h
           subst e; exact ⟨.str x, ⟨t, rfl⟩, fun _ _ _ _ _ => .str⟩)
    | tup ws =>
      cases u with
      | ref a =>
        simp only [chk] at h
        split at h
        · rename_i T dd its n sl e
          simp only [Bool.and_eq_true, decide_eq_true_eq, beq_iff_eq] at h
          obtain ⟨⟨⟨h1, h2⟩, h3⟩, h4⟩ := h
          obtain ⟨vs, rs, qs⟩ := all ws its.toList h3 h4
          exact ⟨.ref a, rfl, fun mg Th wo F ι => .tup (.inr ⟨_, its, n, e, by rw [h1], rfl, h2, rs⟩) (qs mg Th wo F ι)⟩
        · cases h
      | _ => exact absurd h Bool.false_ne_true
    | _ => exact absurd h Bool.false_ne_true
def kcB (K : PySem.W.Frag) (x : Str) (w : W) : Bool := match PySem.W.nsIn K mainGlobals x with
  | some (some u) => chk K 16 w u
  | _ => false
theorem kcB_ok {K : PySem.W.Frag} {h : Heap} {mg : Str → Option Value} {wo : World} {x : Str} {w : W} (X : K.In h) (G : h.Ns mainGlobals mg) (e : kcB K x w = true) : Kc K mg wo x w := by
  unfold kcB at e
  split at e
  · rename_i u hn
    obtain ⟨v, r, q⟩ := chk_ok 16 w u e
    exact ⟨v, u, PySem.W.mg_of X G hn, r, fun Th F ι => q mg Th wo F ι⟩
  · cases e
def tyB (K : PySem.W.Frag) (x : Str) (T : String) : Bool := He.eqO (PySem.W.nsIn K mainGlobals x) (some (some (.type T)))
theorem tyB_ok {K : PySem.W.Frag} {h : Heap} {mg : Str → Option Value} {x : Str} {T : String} (X : K.In h) (G : h.Ns mainGlobals mg) (e : tyB K x T = true) : mg x = some (.type T) := PySem.W.mg_of X G (He.eqO_ok e)
def exB (K : PySem.W.Frag) (x : Str) : Bool := He.eqO (PySem.W.findIn K (.ref (He.ga K x)) (Str.ofString "__getattribute__")) (some (some (.builtin "BaseException.__getattribute__"))) && (He.eqO (PySem.W.findIn K (.ref (He.ga K x)) (Str.ofString "__getattr__")) (some none) &&
  (decide (PySem.W.subIn K (.ref (He.ga K x)) (.type "BaseException") = some true) && (PySem.W.hasDictIn K (He.ga K x) && (He.eqO (PySem.W.findIn K (.ref (He.ga K x)) (Str.ofString "__class__")) (some (some (.builtin "object.__class__"))) &&
  (He.eqO (PySem.W.specialIn K (.builtin "object.__class__") (Str.ofString "__get__")) (some (some (.builtin "getset_descriptor.__get__"))) && (decide (PySem.W.takesIn K (.builtin "object.__class__") = some true) && decide (PySem.W.mroIn K (He.ga K x) (.type "object") = some true)))))))
theorem exB_ok {K : PySem.W.Frag} {x : Str} (h : exB K x = true) : ExcC K (He.ga K x) := by
  unfold exB at h
  simp only [Bool.and_eq_true, decide_eq_true_eq] at h
  obtain ⟨h1, h2, h3, h4, h5, h6, h7, h8⟩ := h
  exact ⟨He.eqO_ok h1, He.eqO_ok h2, h3, h4, He.eqO_ok h5, He.eqO_ok h6, h7, h8⟩
def exfB (K : PySem.W.Frag) (bs nm c : Str) (b : Bool) : Bool := exB K c && (decide (PySem.W.exmOne K (.ref (He.ga K c)) (.ref (He.ga K bs)) = some true) && decide (PySem.W.kitOne K (.ref (He.ga K c)) (.ref (He.ga K nm)) = some b))
theorem exfB_ok {K : PySem.W.Frag} {mg : Str → Option Value} {bs nm c : Str} {b : Bool} (hm : mg c = some (.ref (He.ga K c))) (h : exfB K bs nm c b = true) : ExcF K mg (He.ga K bs) (He.ga K nm) c b := by
  intro D hD
  rw [hm] at hD
  cases hD
  unfold exfB at h
  simp only [Bool.and_eq_true, decide_eq_true_eq] at h
  exact ⟨exB_ok h.1, h.2.1, h.2.2⟩
theorem nm_by {K : PySem.W.Frag} {mg : Str → Option Value} {x a bs nm : Str} {st : Stmt} {tbl : List (Str × Bool)} {g CS CN : Addr} {fd : FuncData} (F : FunD K x x (defArgs st) (defBody st) (defScope st) [] [] g fd) (hm : mg x = some (.ref g))
    (hb : Binds K fd [a] []) (h1 : mg bs = some (.ref CS)) (h2 : mg nm = some (.ref CN)) (h3 : ∀ cn b, tbl.lookup cn = some b → ExcF K mg CS CN cn b) : Nm K mg x st a bs nm tbl := by
  obtain ⟨⟨oc, od, dV, kV, doc, pm, an, cdv, ct, osl, e, l, c, _⟩, kp⟩ := F
  subst e
  exact ⟨g, oc, od, dV, kV, doc, pm, an, cdv, ct, osl, CS, CN, hm, kp, l, c, hb, h1, h2, h3⟩
theorem tbl1 {Φ : Str → Bool → Prop} {c : Str} {b : Bool} (h : Φ c b) : ∀ cn b', List.lookup cn [(c, b)] = some b' → Φ cn b' := by
  intro cn b' e
  rw [List.lookup_cons] at e
  split at e
  · rename_i he
    cases e
    have : cn = c := by simpa using he
    subst this
    exact h
  · cases e
theorem excOk_by {K : PySem.W.Frag} {mg : Str → Option Value} {x : Str} (hm : mg x = some (.ref (He.ga K x))) (h : He.Fa.ok K (.exc x) = true) : ExcOk K mg x := by
  obtain ⟨h1, h2, h3, h4⟩ := He.exc_ok h
  exact ⟨_, hm, h1, h2, h3, h4⟩
/-- the lambdas' names of a def -/
def thOf (K : PySem.W.Frag) (x : Str) (st : Stmt) : Tabl := [((He.cT K (x, none)).2, lamQ x st (He.ga K x) (.ref (He.cT K (x, none)).1))]
/-- the same of one function object -/
structure Dx (K : PySem.W.Frag) (base : Heap) (mg : Str → Option Value) (T : Tabl) (x : Str) (st : Stmt) (f : Addr) (fd : FuncData) : Prop where
  ex : ∃ oc od dV kV doc pm an c P ct osl, fd = PySem.W.fnOf x x (defArgs st) (defBody st) (defScope st) dV kV doc pm an (.ref c) ct ∧ K.lookup f = some ⟨oc, od, .func fd, osl⟩ ∧ PySem.W.codeIn K (.ref c) x = true ∧
    LamX.TabB base mg c P ∧ (P, lamQ x st f (.ref c)) ∈ T ∧ ∀ q ∈ T, q.1 = P → q.2 = lamQ x st f (.ref c)
theorem Dx.fnok {Th : Tabl} {P : Program} {w : World} {K : PySem.W.Frag} {mg : Str → Option Value} {base : Heap} {x : Str} {st : Stmt} {N ps : List Str} {k : Nat} {m : SM} {f : Addr} {fd : FuncData} (d : Dx K base mg Th x st f fd) (S : FnScope N ps (defScope st))
    (hbody : ∀ (c Pt : Addr) (A : Around) (outer : List Env) (s : Shared) (H : Hp) (E : XK), LamX.TabB base mg c Pt → (Pt, lamQ x st f (.ref c)) ∈ Th → (∀ q ∈ Th, q.1 = Pt → q.2 = lamQ x st f (.ref c)) → Room k (A.deeper (envOfC x (defScope st) s.heap.objs.size f (.ref c))) → Tk (cxOf (L2.CX P w) P w K mg base N x (defScope st) f (.ref c) A outer s H E) E →
      XSs Th (cxOf (L2.CX P w) P w K mg base N x (defScope st) f (.ref c) A outer s H E) E (defBody st) m) : FnOk P w K mg base (L2.CX P w) (k + 1) f fd ps (spM ⟨K, mg, Th, w⟩ ps.length (fBody N.length ps.length m)) := by
  obtain ⟨oc, od, dV, kV, doc, pm, an, c, Pt, ct, osl, e, lk, hc, tb, hT, hu⟩ := d
  subst e
  refine ⟨fun vs H Q E h => ?_, fun A outer s H args us vs Q E hr he hbt hv h => ?_⟩
  · obtain ⟨d, h, ws, _, hl, _⟩ := h
    exact hl
  · obtain ⟨d, hq, ws, rfl, hl, r, hR, p⟩ := h
    refine LamX.run_ofS lk hc S hr he hbt hv hl (fun hr' => ?_)
    obtain ⟨t, pt, sm⟩ := hbody c Pt A outer s d.H E tb hT hu hr' (takes_of rfl rfl rfl rfl)
    refine ⟨t, pt, ?_⟩
    have hl' : ws.length = ps.length := by rw [r.length]; exact hl
    unfold fBody at p
    rw [if_pos hl'] at p
    have sr := sr_start (G := ⟨K, mg, Th, w⟩) (d := d) (N := N) r
    rw [hl'] at sr
    refine sm d _ _ hq _ sr hR ((Po.then p).imp fun d1 f h1 e1 hr1 p1 => ?_)
    cases f with
    | nx σ1 => exact fun σ2 _ => p1.ok hr1 _ .non
    | rt w => exact p1.ok hr1
    | bk _ => exact p1.elim
    | ct _ => exact p1.elim
theorem dx_by {K : PySem.W.Frag} {mg : Str → Option Value} {base : Heap} {x : Str} {st : Stmt} {fd : FuncData} (F : FunD K x x (defArgs st) (defBody st) (defScope st) [] [] (He.fAd K (x, none)) fd)
    (tb : LamX.TabB base mg (He.cT K (x, none)).1 (He.cT K (x, none)).2) : Dx K base mg (thOf K x st) x st (He.ga K x) fd := by
  obtain ⟨⟨oc, od, dV, kV, doc, pm, an, cdv, ct, osl, e, l, c, _⟩, kp⟩ := F
  obtain ⟨cc, rfl⟩ := He.codeIn_ref c
  have ec : He.codeOf K (x, none) = cc := He.codeOf_eq l (by rw [e])
  have e1 : (He.cT K (x, none)).1 = cc := ec
  refine ⟨oc, od, dV, kV, doc, pm, an, cc, (He.cT K (x, none)).2, ct, osl, e, l, c, by rw [← e1]; exact tb, ?_, ?_⟩
  · unfold thOf; rw [e1]; exact List.mem_cons_self
  · intro q hq _
    unfold thOf at hq
    rw [e1] at hq
    obtain rfl := List.mem_singleton.mp hq
    rfl
theorem dl_by {K : PySem.W.Frag} {mg : Str → Option Value} {base : Heap} {x : Str} {st : Stmt} {ps : List Str} {fd : FuncData} (F : FunD K x x (defArgs st) (defBody st) (defScope st) [] [] (He.fAd K (x, none)) fd) (hm : mg x = some (.ref (He.ga K x)))
    (hb : Binds K fd ps []) (tb : LamX.TabB base mg (He.cT K (x, none)).1 (He.cT K (x, none)).2) : Dl K mg base (thOf K x st) x st ps := by
  obtain ⟨⟨oc, od, dV, kV, doc, pm, an, cdv, ct, osl, e, l, c, _⟩, kp⟩ := F
  subst e
  obtain ⟨cc, rfl⟩ := He.codeIn_ref c
  have ec : He.codeOf K (x, none) = cc := He.codeOf_eq l rfl
  have e1 : (He.cT K (x, none)).1 = cc := ec
  refine ⟨He.ga K x, oc, od, dV, kV, doc, pm, an, cc, (He.cT K (x, none)).2, ct, osl, hm, kp, l, c, hb, by rw [← e1]; exact tb, ?_, ?_⟩
  · unfold thOf; rw [e1]; exact List.mem_cons_self
  · intro q hq _
    unfold thOf at hq
    rw [e1] at hq
    obtain rfl := List.mem_singleton.mp hq
    rfl
end Mo
end

section
set_option Elab.async false
set_option linter.all false
set_option autoImplicit false
set_option maxRecDepth 100000
set_option maxHeartbeats 4000000
namespace P06
open PySem PySem.Spec PyProof.Rows L2 Mo
def c_BREAKERS : W := (.tup [(.tup [(.tup [(.str "blocks"), (.str "far")]), (.tup [(.tup [(.str "box"), (.int 0), (.int 1)]), (.tup [(.str "look"), (.int 1), (.int 0)]), (.tup [(.str "block"), (.tup [(.tup [(.str "box"), (.int 2), (.int 2)]), (.tup [(.str "aim"), (.int 1), (.int 2)])])]), (.tup [(.str "show"), (.int 1)])])]), (.tup [(.tup [(.str "blocks"), (.str "hands"), (.str "share")]), (.tup [(.tup [(.str "box"), (.int 0), (.int 1)]), (.tup [(.str "hands"), (.tup [(.tup [(.str "block"), (.tup [(.tup [(.str "move"), (.int 1), (.int 0)])])])]), (.tup [(.tup [(.str "show"), (.int 0)])])])])]), (.tup [(.tup [(.str "blocks"), (.str "move looked")]), (.tup [(.tup [(.str "box"), (.int 0), (.int 1)]), (.tup [(.str "look"), (.int 1), (.int 0)]), (.tup [(.str "block"), (.tup [(.tup [(.str "move"), (.int 2), (.int 0)])])]), (.tup [(.str "show"), (.int 1)])])]), (.tup [(.tup [(.str "blocks"), (.str "two names")]), (.tup [(.tup [(.str "box"), (.int 0), (.int 1)]), (.tup [(.str "block"), (.tup [(.tup [(.str "move"), (.int 1), (.int 0)])])]), (.tup [(.str "show"), (.int 0)])])]), (.tup [(.tup [(.str "blocks"), (.str "use lent")]), (.tup [(.tup [(.str "box"), (.int 0), (.int 1)]), (.tup [(.str "lend"), (.int 1), (.int 0)]), (.tup [(.str "block"), (.tup [(.tup [(.str "move"), (.int 2), (.int 0)])])]), (.tup [(.str "show"), (.int 1)])])]), (.tup [(.tup [(.str "drop"), (.str "drop looked")]), (.tup [(.tup [(.str "box"), (.int 0), (.int 1)]), (.tup [(.str "look"), (.int 1), (.int 0)]), (.tup [(.str "drop"), (.int 0)]), (.tup [(.str "show"), (.int 1)])])]), (.tup [(.tup [(.str "drop"), (.str "hands"), (.str "share")]), (.tup [(.tup [(.str "box"), (.int 0), (.int 1)]), (.tup [(.str "hands"), (.tup [(.tup [(.str "drop"), (.int 0)])]), (.tup [(.tup [(.str "show"), (.int 0)])])])])]), (.tup [(.tup [(.str "drop"), (.str "move looked")]), (.tup [(.tup [(.str "box"), (.int 0), (.int 1)]), (.tup [(.str "look"), (.int 1), (.int 0)]), (.tup [(.str "move"), (.int 2), (.int 0)]), (.tup [(.str "drop"), (.int 2)]), (.tup [(.str "show"), (.int 1)])])]), (.tup [(.tup [(.str "drop"), (.str "two names")]), (.tup [(.tup [(.str "box"), (.int 0), (.int 1)]), (.tup [(.str "move"), (.int 1), (.int 0)]), (.tup [(.str "drop"), (.int 1)]), (.tup [(.str "show"), (.int 0)])])]), (.tup [(.tup [(.str "drop"), (.str "use lent")]), (.tup [(.tup [(.str "box"), (.int 0), (.int 1)]), (.tup [(.str "lend"), (.int 1), (.int 0)]), (.tup [(.str "drop"), (.int 0)]), (.tup [(.str "show"), (.int 1)])])]), (.tup [(.tup [(.str "hands"), (.str "set"), (.str "share")]), (.tup [(.tup [(.str "box"), (.int 0), (.int 1)]), (.tup [(.str "hands"), (.tup [(.tup [(.str "set"), (.int 0), (.int 2)])]), (.tup [(.tup [(.str "show"), (.int 0)])])])])]), (.tup [(.tup [(.str "lend looked"), (.str "set")]), (.tup [(.tup [(.str "box"), (.int 0), (.int 1)]), (.tup [(.str "look"), (.int 1), (.int 0)]), (.tup [(.str "lend"), (.int 2), (.int 0)]), (.tup [(.str "set"), (.int 2), (.int 2)]), (.tup [(.str "show"), (.int 1)])])]), (.tup [(.tup [(.str "move looked"), (.str "set")]), (.tup [(.tup [(.str "box"), (.int 0), (.int 1)]), (.tup [(.str "look"), (.int 1), (.int 0)]), (.tup [(.str "move"), (.int 2), (.int 0)]), (.tup [(.str "set"), (.int 2), (.int 2)]), (.tup [(.str "show"), (.int 1)])])]), (.tup [(.tup [(.str "set"), (.str "set looked")]), (.tup [(.tup [(.str "box"), (.int 0), (.int 1)]), (.tup [(.str "look"), (.int 1), (.int 0)]), (.tup [(.str "set"), (.int 0), (.int 2)]), (.tup [(.str "show"), (.int 1)])])]), (.tup [(.tup [(.str "set"), (.str "two names")]), (.tup [(.tup [(.str "box"), (.int 0), (.int 1)]), (.tup [(.str "move"), (.int 1), (.int 0)]), (.tup [(.str "look"), (.int 2), (.int 0)]), (.tup [(.str "set"), (.int 1), (.int 2)]), (.tup [(.str "show"), (.int 2)])])]), (.tup [(.tup [(.str "set"), (.str "use lent")]), (.tup [(.tup [(.str "box"), (.int 0), (.int 1)]), (.tup [(.str "lend"), (.int 1), (.int 0)]), (.tup [(.str "set"), (.int 0), (.int 2)]), (.tup [(.str "show"), (.int 1)])])])])
def c_WORDS : W := (.tup [(.str "blocks"), (.str "drop"), (.str "drop looked"), (.str "far"), (.str "hands"), (.str "lend looked"), (.str "move looked"), (.str "set"), (.str "set looked"), (.str "share"), (.str "two names"), (.str "use lent")])
def tbl_L_law_not_made : List (Str × Bool) := [("NotMade", true)]
def b_is_word : SM := (sRet (eAnd (eCB cIsa (aCons (eVar 0) (aCons (eC (.ty "str")) aNil))) (eOp (inA false) (eVar 0) (eC c_WORDS))))
def m_is_word : FM := fBody 1 1 b_is_word
def b_is_design : SM := (sSeq (sIf (tOrM (tNotM (tTru (eCB cIsa (aCons (eVar 0) (aCons (eC (.ty "tuple")) aNil))))) (tNotM (tTru (eCB cAll (aCons (eLc (iSq (eVar 0)) [1] (gNm 1) tYs (eCall 1 m_is_word (aCons (eVar 1) aNil))) aNil))))) (sRet (eC (.bl false))) sNil)
    (sRet (eCB cAll (aCons (eLc (iZp (aCons (eVar 0) (aCons (eSl slT (eVar 0) (pSo (eC (.int 1))) pNo) aNil))) [2, 3] (gTp 2 (gsCons (gNm 2) (gsCons (gNm 3) gsNil))) tYs (eOp ltA (eVar 2) (eVar 3))) aNil))))
def m_is_design : FM := fBody 4 1 b_is_design
def b_require_design : SM := (sIf (tNotM (tTru (eCall 1 m_is_design (aCons (eVar 0) aNil)))) (sRaise "BadDesign") sNil)
def m_require_design : FM := fBody 1 1 b_require_design
def b_with_word : SM := (sRet (eCB cTuple (aCons (eCB cSorted (aCons (eOp addW (eVar 0) (eTup (aCons (eVar 1) aNil))) aNil)) aNil)))
def m_with_word : FM := fBody 2 2 b_with_word
def b_lots : SM := (sRet (eCB cTuple (aCons (eLc (iSq (eC c_BREAKERS)) [0, 1] (gTp 2 (gsCons (gNm 0) (gsCons (gNm 1) gsNil))) tYs (eVar 0)) aNil)))
def m_lots : FM := fBody 2 0 b_lots
def b_holds : SM := (sRet (eCB cAll (aCons (eLc (iSq (eVar 1)) [2] (gNm 2) tYs (eOp (inA false) (eVar 2) (eVar 0))) aNil)))
def m_holds : FM := fBody 3 2 b_holds
def b_holds_none : SM := (sRet (eNot (eCB cAny (aCons (eLc (iSq (eCall0 m_lots)) [1] (gNm 1) tYs (eCall 2 m_holds (aCons (eVar 0) (aCons (eVar 1) aNil)))) aNil))))
def m_holds_none : FM := fBody 2 1 b_holds_none
def b_is_sound : SM := (sSeq (sExpr (eCall 1 m_require_design (aCons (eVar 0) aNil)))
    (sRet (eCall 1 m_holds_none (aCons (eVar 0) aNil))))
def m_is_sound : FM := fBody 1 1 b_is_sound
def b_further_words : SM := (sRet (eLc (iSq (eC c_WORDS)) [1] (gNm 1) (tTst (eOp (inA true) (eVar 1) (eVar 0))) (eVar 1)))
def m_further_words : FM := fBody 2 1 b_further_words
def b_sound_ones_above : SM := (sSeq (sSet 1 (eLstH (aCons (eVar 0) aNil)))
    (sSeq (sFor (iSq (eCall 1 m_further_words (aCons (eVar 0) aNil))) (gNm 2) (sSeq (sSet 3 (eLc (iSq (eVar 1)) [4] (gNm 4) tYs (eCall 2 m_with_word (aCons (eVar 4) (aCons (eVar 2) aNil)))))
    (sExpr (eBM "list" mExtend (eVar 1) (aCons (eLc (iSq (eVar 3)) [4] (gNm 4) (tTru (eCall 1 m_holds_none (aCons (eVar 4) aNil))) (eVar 4)) aNil)))))
    (sRet (eVar 1))))
def m_sound_ones_above : FM := fBody 5 1 b_sound_ones_above
def b_is_greatest : SM := (sRet (eNot (eCB cAny (aCons (eLc (iSq (eCall 1 m_further_words (aCons (eVar 0) aNil))) [1] (gNm 1) tYs (eCall 1 m_holds_none (aCons (eCall 2 m_with_word (aCons (eVar 0) (aCons (eVar 1) aNil))) aNil))) aNil))))
def m_is_greatest : FM := fBody 2 1 b_is_greatest
def b_greatest_sound : SM := (sSeq (sExpr (eCall 1 m_require_design (aCons (eVar 0) aNil)))
    (sSeq (sIf (tNotM (tTru (eCall 1 m_holds_none (aCons (eVar 0) aNil)))) (sRaise "NotMade") sNil)
    (sRet (eCB cTuple (aCons (eCB cSorted (aCons (eLc (iSq (eCall 1 m_sound_ones_above (aCons (eVar 0) aNil))) [1] (gNm 1) (tTru (eCall 1 m_is_greatest (aCons (eVar 1) aNil))) (eVar 1)) aNil)) aNil)))))
def m_greatest_sound : FM := fBody 2 1 b_greatest_sound
def b_fewest_drops : SM := (sSeq (sExpr (eCall 1 m_require_design (aCons (eVar 0) aNil)))
    (sSeq (sSet 1 (eCB cList (aCons (eVar 0) aNil)))
    (sSeq (sFor (iRg1 (aCons (eCB cLen (aCons (eVar 1) aNil)) aNil)) (gNm 2) (sFor (iCb (aCons (eVar 1) (aCons (eVar 2) aNil))) (gNm 3) (sIf (tTru (eCall 1 m_holds_none (aCons (eCB cTuple (aCons (eLc (iSq (eVar 0)) [4] (gNm 4) (tTst (eOp (inA true) (eVar 4) (eVar 3))) (eVar 4)) aNil)) aNil))) (sRet (eVar 3)) sNil)))
    (sRet (eVar 0)))))
def m_fewest_drops : FM := fBody 5 1 b_fewest_drops
def b_L_law_taken : SM := (sSeq (sIf (tTst (eOp (cmpI fun i j => decide (j < i)) (eOp ixA (eVar 0) (eC (.int 3))) (eC (.int 0)))) (sSeq (sSet 2 (eOp modW (eCB cInt (aCons (eOp ixA (eVar 0) (eC (.int 3))) aNil)) (eVar 1)))
    (sSeq (sAsg (eOp fdivW (eOp ixA (eVar 0) (eC (.int 3))) (eVar 1)) (gSb stA (eVar 0) (eC (.int 3))))
    (sRet (eVar 2)))) sNil)
    (sSeq (sAsg (eOp addW (eOp ixA (eVar 0) (eC (.int 1))) (eC (.int 1))) (gSb stA (eVar 0) (eC (.int 1))))
    (sSeq (sIf (tTst (eOp (cmpI fun i j => decide (j < i)) (eOp ixA (eVar 0) (eC (.int 1))) (eCB cLen (aCons (eOp ixA (eVar 0) (eC (.int 0))) aNil)))) (sSeq (sAsg (eOp modW (eCB cInt (aCons (eOp addW (eOp mulW (eOp ixA (eVar 0) (eC (.int 2))) (eC (.int 48271))) (eC (.int 11))) aNil)) (eC (.int 2147483647))) (gSb stA (eVar 0) (eC (.int 2))))
    (sRet (eOp modW (eCB cInt (aCons (eOp fdivW (eOp ixA (eVar 0) (eC (.int 2))) (eC (.int 7))) aNil)) (eVar 1)))) sNil)
    (sSeq (sSet 3 (eOp ixA (eOp ixA (eVar 0) (eC (.int 0))) (eOp subW (eOp ixA (eVar 0) (eC (.int 1))) (eC (.int 1)))))
    (sSeq (sAsg (eOp modW (eCB cInt (aCons (eOp addW (eOp addW (eOp mulW (eOp ixA (eVar 0) (eC (.int 2))) (eC (.int 48271))) (eVar 3)) (eC (.int 11))) aNil)) (eC (.int 2147483647))) (gSb stA (eVar 0) (eC (.int 2))))
    (sSeq (sIf (tTst (eOp (cmpI fun i j => decide (j ≤ i)) (eVar 3) (eOp powW (eC (.int 10)) (eC (.int 18))))) (sAsg (eOp fdivW (eVar 3) (eVar 1)) (gSb stA (eVar 0) (eC (.int 3)))) sNil)
    (sRet (eOp modW (eCB cInt (aCons (eVar 3) aNil)) (eVar 1)))))))))
def m_L_law_taken : FM := fBody 4 2 b_L_law_taken
def b_L_law_pick : SM := (sRet (eOp ixA (eVar 1) (eCall 2 m_L_law_taken (aCons (eVar 0) (aCons (eCB cLen (aCons (eVar 1) aNil)) aNil)))))
def m_L_law_pick : FM := fBody 2 2 b_L_law_pick
def m_L_law_alike : Nat → FM
  | 0 => noM
  | k + 1 => fBody 3 2 ((sSeq (sIf (tTru (eIsaT ["tuple", "list"] (eVar 1))) (sSeq (sIf (tOrM (tNotM (tTru (eIsaT ["tuple", "list"] (eVar 0)))) (tTst (eOp (eqA true) (eCB cIsa (aCons (eVar 0) (aCons (eC (.ty "list")) aNil))) (eCB cIsa (aCons (eVar 1) (aCons (eC (.ty "list")) aNil)))))) (sRet (eC (.bl false))) sNil)
    (sSeq (sIf (tTst (eOp (eqA true) (eCB cLen (aCons (eVar 0) aNil)) (eCB cLen (aCons (eVar 1) aNil)))) (sRet (eC (.bl false))) sNil)
    (sRet (eOp (eqA false) (eLc (iRg1 (aCons (eCB cLen (aCons (eVar 1) aNil)) aNil)) [2] (gNm 2) (tNotM (tTru (eCall 2 (m_L_law_alike k) (aCons (eOp ixA (eVar 0) (eVar 2)) (aCons (eOp ixA (eVar 1) (eVar 2)) aNil))))) (eVar 2)) (eLst aNil))))) sNil)
    (sSeq (sIf (tOrM (tTst (eOp (isN false) (eVar 1) (eC .non))) (tTru (eCB cIsa (aCons (eVar 1) (aCons (eC (.ty "str")) aNil))))) (sRet (eAnd (eOp (eqA false) (eVar 0) (eVar 1)) (eOp (eqA false) (eCB cIsa (aCons (eVar 0) (aCons (eC (.ty "str")) aNil))) (eCB cIsa (aCons (eVar 1) (aCons (eC (.ty "str")) aNil)))))) sNil)
    (sRet (eAnd (eCB cIsa (aCons (eVar 0) (aCons (eC (.ty "int")) aNil))) (eAnd (eOp (eqA false) (eCB cIsa (aCons (eVar 0) (aCons (eC (.ty "bool")) aNil))) (eCB cIsa (aCons (eVar 1) (aCons (eC (.ty "bool")) aNil)))) (eOp (eqA false) (eVar 0) (eVar 1))))))))
def b_L_law_words : SM := (sSeq (sSet 0 (eLst (aCons (eC (.str "blocks")) (aCons (eC (.str "drop")) (aCons (eC (.str "drop looked")) (aCons (eC (.str "far")) (aCons (eC (.str "hands")) (aCons (eC (.str "lend looked")) (aCons (eC (.str "move looked")) (aCons (eC (.str "set")) (aCons (eC (.str "set looked")) (aCons (eC (.str "share")) aNil))))))))))))
    (sRet (eOp addW (eVar 0) (eLst (aCons (eC (.str "two names")) (aCons (eC (.str "use lent")) aNil))))))
def m_L_law_words : FM := fBody 1 0 b_L_law_words
def b_L_law_design : SM := (sSeq (sSet 1 (eCall 2 m_L_law_pick (aCons (eVar 0) (aCons (eLst (aCons (eC (.int 2)) (aCons (eC (.int 2)) (aCons (eC (.int 3)) aNil)))) aNil))))
    (sSeq (sSet 2 (eLc (iSq (eCall0 m_L_law_words)) [3] (gNm 3) (tTst (eOp (eqA false) (eCall 2 m_L_law_taken (aCons (eVar 0) (aCons (eVar 1) aNil))) (eC (.int 0)))) (eVar 3)))
    (sSeq (sIf (tTst (eOp (eqA false) (eCall 2 m_L_law_taken (aCons (eVar 0) (aCons (eC (.int 2)) aNil))) (eC (.int 0)))) (sSet 2 (eOp addW (eVar 2) (eLc (iSq (eLst (aCons (eC (.str "blocks")) (aCons (eC (.str "drop")) (aCons (eC (.str "hands")) (aCons (eC (.str "set")) aNil)))))) [3] (gNm 3) (tTst (eOp (inA true) (eVar 3) (eVar 2))) (eVar 3)))) sNil)
    (sRet (eCB cTuple (aCons (eCB cSorted (aCons (eVar 2) aNil)) aNil))))))
def m_L_law_design : FM := fBody 4 1 b_L_law_design
def b_L_law_lots : SM := (sSeq (sSet 0 (eLst (aCons (eTup (aCons (eC (.str "blocks")) (aCons (eC (.str "far")) aNil))) (aCons (eTup (aCons (eC (.str "blocks")) (aCons (eC (.str "hands")) (aCons (eC (.str "share")) aNil)))) (aCons (eTup (aCons (eC (.str "blocks")) (aCons (eC (.str "move looked")) aNil))) (aCons (eTup (aCons (eC (.str "blocks")) (aCons (eC (.str "two names")) aNil))) aNil))))))
    (sSeq (sSet 0 (eOp addW (eVar 0) (eLst (aCons (eTup (aCons (eC (.str "blocks")) (aCons (eC (.str "use lent")) aNil))) (aCons (eTup (aCons (eC (.str "drop")) (aCons (eC (.str "drop looked")) aNil))) (aCons (eTup (aCons (eC (.str "drop")) (aCons (eC (.str "hands")) (aCons (eC (.str "share")) aNil)))) (aCons (eTup (aCons (eC (.str "drop")) (aCons (eC (.str "move looked")) aNil))) aNil)))))))
    (sSeq (sSet 0 (eOp addW (eVar 0) (eLst (aCons (eTup (aCons (eC (.str "drop")) (aCons (eC (.str "two names")) aNil))) (aCons (eTup (aCons (eC (.str "drop")) (aCons (eC (.str "use lent")) aNil))) (aCons (eTup (aCons (eC (.str "hands")) (aCons (eC (.str "set")) (aCons (eC (.str "share")) aNil)))) (aCons (eTup (aCons (eC (.str "lend looked")) (aCons (eC (.str "set")) aNil))) aNil)))))))
    (sRet (eOp addW (eVar 0) (eLst (aCons (eTup (aCons (eC (.str "move looked")) (aCons (eC (.str "set")) aNil))) (aCons (eTup (aCons (eC (.str "set")) (aCons (eC (.str "set looked")) aNil))) (aCons (eTup (aCons (eC (.str "set")) (aCons (eC (.str "two names")) aNil))) (aCons (eTup (aCons (eC (.str "set")) (aCons (eC (.str "use lent")) aNil))) aNil))))))))))
def m_L_law_lots : FM := fBody 1 0 b_L_law_lots
def b_L_law_lots_in : SM := (sRet (eLc (iSq (eCall0 m_L_law_lots)) [1] (gNm 1) (tTst (eOp (eqA false) (eLc (iSq (eVar 1)) [2] (gNm 2) (tTst (eOp (inA true) (eVar 2) (eVar 0))) (eVar 2)) (eLst aNil))) (eVar 1)))
def m_L_law_lots_in : FM := fBody 3 1 b_L_law_lots_in
def b_L_law_groups : SM := (sSeq (sSet 1 (eLst (aCons (eTup aNil) aNil)))
    (sSeq (sFor (iSq (eVar 0)) (gNm 2) (sSet 1 (eOp addW (eVar 1) (eLc (iSq (eVar 1)) [3] (gNm 3) tYs (eOp addW (eVar 3) (eTup (aCons (eVar 2) aNil)))))))
    (sRet (eVar 1))))
def m_L_law_groups : FM := fBody 4 1 b_L_law_groups
def b_law : SM := (sSeq (sSet 1 (eLstH (aCons (eVar 0) (aCons (eC (.int 0)) (aCons (eC (.int 14296)) (aCons (eC (.int 0)) aNil))))))
    (sSeq (sAsg (eTup (aCons (eCall 1 m_L_law_design (aCons (eVar 1) aNil)) (aCons (eCall 1 m_L_law_design (aCons (eVar 1) aNil)) aNil))) (gTp 2 (gsCons (gNm 2) (gsCons (gNm 3) gsNil))))
    (sSeq (sSet 4 (eCB cTuple (aCons (eLc (iSq (eVar 2)) [11] (gNm 11) (tTst (eOp (eqA false) (eCall 2 m_L_law_taken (aCons (eVar 1) (aCons (eC (.int 3)) aNil))) (eC (.int 0)))) (eVar 11)) aNil)))
    (sSeq (sIf (tTst (eOp (eqA false) (eCall 1 m_L_law_lots_in (aCons (eVar 4) aNil)) (eLst aNil))) (sSeq (sSet 5 (eLc (iSq (eCall0 m_L_law_words)) [11] (gNm 11) (tTst (eOp (inA true) (eVar 11) (eVar 4))) (eVar 11)))
    (sSeq (sSet 6 (eLc (iSq (eCall 1 m_L_law_groups (aCons (eVar 5) aNil))) [8] (gNm 8) (tTst (eOp (eqA false) (eCall 1 m_L_law_lots_in (aCons (eOp addW (eVar 4) (eVar 8)) aNil)) (eLst aNil))) (eVar 8)))
    (sSeq (sSet 7 (eLstH aNil))
    (sSeq (sFor (iSq (eVar 6)) (gNm 8) (sIf (tTst (eOp (eqA false) (eLc (iSq (eVar 5)) [11] (gNm 11) (tAndM (tTst (eOp (inA true) (eVar 11) (eVar 8))) (tTst (eOp (eqA false) (eCall 1 m_L_law_lots_in (aCons (eOp addW (eOp addW (eVar 4) (eVar 8)) (eTup (aCons (eVar 11) aNil))) aNil)) (eLst aNil)))) (eVar 11)) (eLst aNil))) (sExpr (eBM "list" mAppend (eVar 7) (aCons (eCB cTuple (aCons (eCB cSorted (aCons (eOp addW (eVar 4) (eVar 8)) aNil)) aNil)) aNil))) sNil))
    (sIf (tNotM (tTru (eCall 2 (m_L_law_alike 8) (aCons (eCall 1 m_greatest_sound (aCons (eVar 4) aNil)) (aCons (eCB cTuple (aCons (eCB cSorted (aCons (eVar 7) aNil)) aNil)) aNil))))) (sRet (eC (.bl false))) sNil))))) sNil)
    (sSeq (sIf (tOrM (tTst (eOp (eqA true) (eCall 1 m_is_sound (aCons (eVar 3) aNil)) (eOp (eqA false) (eCall 1 m_L_law_lots_in (aCons (eVar 3) aNil)) (eLst aNil)))) (tAndM (tNotM (tTru (eCall 1 m_is_sound (aCons (eVar 3) aNil)))) (tNotM (tTru (eNM tbl_L_law_not_made (eCall 1 m_greatest_sound (aCons (eVar 3) aNil))))))) (sRet (eC (.bl false))) sNil)
    (sSeq (sSet 9 (eC .non))
    (sSeq (sFor (iSq (eCB cSorted (aCons (eLc (iSq (eCall 1 m_L_law_groups (aCons (eVar 3) aNil))) [8] (gNm 8) tYs (eTup (aCons (eCB cLen (aCons (eVar 8) aNil)) (aCons (eVar 8) aNil)))) aNil))) (gTp 2 (gsCons (gNm 10) (gsCons (gNm 8) gsNil))) (sIf (tAndM (tTst (eOp (isN false) (eVar 9) (eC .non))) (tTst (eOp (eqA false) (eCall 1 m_L_law_lots_in (aCons (eLc (iSq (eVar 3)) [11] (gNm 11) (tTst (eOp (inA true) (eVar 11) (eVar 8))) (eVar 11)) aNil)) (eLst aNil)))) (sSet 9 (eVar 8)) sNil))
    (sRet (eAnd (eCall 2 (m_L_law_alike 8) (aCons (eCall 1 m_fewest_drops (aCons (eVar 3) aNil)) (aCons (eVar 9) aNil))) (eOr (eOp (cmpI fun i j => decide (j < i)) (eCB cLen (aCons (eVar 4) aNil)) (eC (.int 0))) (eOp (eqA false) (eCB cLen (aCons (eCall 1 m_greatest_sound (aCons (eTup aNil) aNil)) aNil)) (eC (.int 15)))))))))))))
def m_law : FM := fBody 12 1 b_law
end P06
end

section
set_option Elab.async false
set_option linter.all false
set_option maxRecDepth 100000
namespace P06
open PySem PySem.Spec PyProof.Rows L2 Mo
def rowO (ns : List Int) (p s r : Int) : O := .lst [.scr (ns.map W.int), .int p, .int s, .int r]
theorem taken1 (ns : List Int) (p s r many : Int) (hs : Hq) (h : 0 < r) (hm : 0 < many) (hm2 : many.natAbs < 1073741824) : m_L_law_taken [.ref 0, .int many] (rowO ns p s r :: hs) = .ok (.int (r.fmod many)) (rowO ns p s (r.fdiv many) :: hs) := by
  have h0 : many ≠ 0 := by omega
  simp [fBody, sSeq, sIf, tTst, eOp, eVar, eC, ixA, dkW, ixW, Re.bind, cmpI, sSet, eCB, aCons, aNil, cInt, cLen, lenW, modW, fdivW, mulW, addW, subW, powW, Mo.intOp, itemsW, atI, ixN, sAsg, gSb, stA, stL, sRet, sNil, m_L_law_taken, b_L_law_taken, rowO, h, h0, hm2]
theorem taken2 (ns : List Int) (p s r many : Int) (hs : Hq) (h : ¬ 0 < r) (hp : (ns.length : Int) < p + 1) (hm : 0 < many) (hm2 : many.natAbs < 1073741824) :
    m_L_law_taken [.ref 0, .int many] (rowO ns p s r :: hs) = .ok (.int ((((s * 48271 + 11).fmod 2147483647).fdiv 7).fmod many)) (rowO ns (p + 1) ((s * 48271 + 11).fmod 2147483647) r :: hs) := by
  have h0 : many ≠ 0 := by omega
  simp [fBody, sSeq, sIf, tTst, eOp, eVar, eC, ixA, dkW, ixW, Re.bind, cmpI, sSet, eCB, aCons, aNil, cInt, cLen, lenW, modW, fdivW, mulW, addW, subW, powW, Mo.intOp, itemsW, atI, ixN, sAsg, gSb, stA, stL, sRet, sNil, m_L_law_taken, b_L_law_taken, rowO, h, h0, hm2, hp]
theorem taken3 (ns : List Int) (p : Nat) (s r many c : Int) (hs : Hq) (h : ¬ 0 < r) (hp : ns[p]? = some c) (hm : 0 < many) (hm2 : many.natAbs < 1073741824) :
    m_L_law_taken [.ref 0, .int many] (rowO ns p s r :: hs) = .ok (.int (c.fmod many)) (rowO ns ((p : Int) + 1) ((s * 48271 + c + 11).fmod 2147483647) (if c ≥ 10 ^ 18 then c.fdiv many else r) :: hs) := by
  have h0 : many ≠ 0 := by omega
  obtain ⟨hlt, hg⟩ := List.getElem?_eq_some_iff.mp hp
  have hp2 : ¬ (ns.length : Int) < (p : Int) + 1 := by omega
  by_cases hc : (1000000000000000000 : Int) ≤ c
  · simp [fBody, sSeq, sIf, tTst, eOp, eVar, eC, ixA, dkW, ixW, Re.bind, cmpI, sSet, eCB, aCons, aNil, cInt, cLen, lenW, modW, fdivW, mulW, addW, subW, powW, Mo.intOp, itemsW, atI, ixN, sAsg, gSb, stA, stL, sRet, sNil, m_L_law_taken, b_L_law_taken, rowO, h, h0, hm2, hp2, hlt, hg, hc]
  · simp [fBody, sSeq, sIf, tTst, eOp, eVar, eC, ixA, dkW, ixW, Re.bind, cmpI, sSet, eCB, aCons, aNil, cInt, cLen, lenW, modW, fdivW, mulW, addW, subW, powW, Mo.intOp, itemsW, atI, ixN, sAsg, gSb, stA, stL, sRet, sNil, m_L_law_taken, b_L_law_taken, rowO, h, h0, hm2, hp2, hlt, hg, hc]
theorem taken (ns : List Int) (p : Nat) (s r many : Int) (hs : Hq) (hm : 0 < many) (hm2 : many.natAbs < 1073741824) :
    ∃ (v : Int) (p' : Nat) (s' r' : Int), 0 ≤ v ∧ v < many ∧ m_L_law_taken [.ref 0, .int many] (rowO ns p s r :: hs) = .ok (.int v) (rowO ns p' s' r' :: hs) := by
  by_cases h : 0 < r
  · exact ⟨_, p, s, _, Int.fmod_nonneg_of_pos _ hm, Int.fmod_lt_of_pos _ hm, taken1 ns p s r many hs h hm hm2⟩
  · by_cases hp : p < ns.length
    · exact ⟨_, p + 1, _, _, Int.fmod_nonneg_of_pos _ hm, Int.fmod_lt_of_pos _ hm, taken3 ns p s r many ns[p] hs h (by simp [hp]) hm hm2⟩
    · exact ⟨_, p + 1, _, r, Int.fmod_nonneg_of_pos _ hm, Int.fmod_lt_of_pos _ hm, taken2 ns p s r many hs h (by omega) hm hm2⟩
theorem lim_lt {n : Nat} (h : n ≤ 10000) : lim n = true := by
  unfold lim
  exact decide_eq_true (by omega)
/-- a comprehension whose test changes the heap within I -/
theorem lc_sub {ws : List W} {σ : Sg} {sl : Nat} {tt : TM} {I : Hq → Prop} (hsl : sl < σ.length) (ht : ∀ w ∈ ws, ∀ h, I h → ∃ b h', tt (σ.set sl (some w)) h = .ok b h' ∧ I h') (hw : ws.length ≤ 5000) :
    ∀ (k i : Nat) (acc : List W) (h : Hq), ws.length < k + i → i ≤ ws.length → acc.length ≤ i → I h → ∃ sub h', lcM (fixed ws) (gNm sl) tt (eVar sl) σ k i acc h = .ok (acc ++ sub) h' ∧ sub.Sublist (ws.drop i) ∧ I h' := by
  intro k
  induction k with
  | zero => intro i acc h hk hi; omega
  | succ k ih =>
    intro i acc h hk hi ha hI
    unfold lcM
    simp only [fixed]
    try rw [show (fun _ => some ws : Cur) = fixed ws from rfl]
    cases e : ws[i]? with
    | none =>
      simp only
      refine ⟨[], h, by rw [List.append_nil], List.nil_sublist _, hI⟩
    | some w =>
      obtain ⟨hlt, hg⟩ := List.getElem?_eq_some_iff.mp e
      have hd : ws.drop i = w :: ws.drop (i + 1) := by rw [← hg]; exact List.drop_eq_getElem_cons hlt
      obtain ⟨b, h2, t1, I2⟩ := ht w (by rw [← hg]; exact List.getElem_mem hlt) h hI
      simp only [gNm, Re.quiet, Re.bind, t1]
      cases b with
      | true =>
        have he : eVar sl (σ.set sl (some w)) h2 = .ok w h2 := by simp [eVar, hsl]
        simp only [he]
        rw [if_pos (lim_lt (by omega))]
        obtain ⟨sub, h', r1, r2, r3⟩ := ih (i + 1) (acc ++ [w]) h2 (by omega) (by omega) (by simp; omega) I2
        refine ⟨w :: sub, h', by rw [r1, List.append_assoc]; rfl, by rw [hd]; exact r2.cons_cons w, r3⟩
      | false =>
        obtain ⟨sub, h', r1, r2, r3⟩ := ih (i + 1) acc h2 (by omega) (by omega) (by omega) I2
        exact ⟨sub, h', r1, by rw [hd]; exact r2.cons w, r3⟩
/-- a comprehension whose test is a function -/
theorem lc_filter {ws : List W} {σ : Sg} {sl : Nat} {tt : TM} {h : Hq} {f : W → Bool} (hsl : sl < σ.length) (ht : ∀ w ∈ ws, tt (σ.set sl (some w)) h = .ok (f w) h) (hw : ws.length ≤ 5000) :
    ∀ (k i : Nat) (acc : List W), ws.length < k + i → i ≤ ws.length → acc.length ≤ i → lcM (fixed ws) (gNm sl) tt (eVar sl) σ k i acc h = .ok (acc ++ (ws.drop i).filter f) h := by
  intro k
  induction k with
  | zero => intro i acc hk hi; omega
  | succ k ih =>
    intro i acc hk hi ha
    unfold lcM
    simp only [fixed]
    try rw [show (fun _ => some ws : Cur) = fixed ws from rfl]
    cases e : ws[i]? with
    | none =>
      simp only
      rw [List.drop_eq_nil_of_le (List.getElem?_eq_none_iff.mp e)]
      simp
    | some w =>
      obtain ⟨hlt, hg⟩ := List.getElem?_eq_some_iff.mp e
      have hd : ws.drop i = w :: ws.drop (i + 1) := by rw [← hg]; exact List.drop_eq_getElem_cons hlt
      have t1 := ht w (by rw [← hg]; exact List.getElem_mem hlt)
      simp only [gNm, Re.quiet, Re.bind, t1]
      rw [hd]
      cases hb : f w with
      | true =>
        have he : eVar sl (σ.set sl (some w)) h = .ok w h := by simp [eVar, hsl]
        simp only [he]
        rw [if_pos (lim_lt (by omega)), ih (i + 1) (acc ++ [w]) (by omega) (by omega) (by simp; omega), List.filter_cons_of_pos hb, List.append_assoc]
        rfl
      | false =>
        simp only
        rw [ih (i + 1) acc (by omega) (by omega) (by omega), List.filter_cons_of_neg (by simp [hb])]
theorem okS_strs (xs : List Str) (hx : ∀ x ∈ xs, PyData.strOk x = true) : okS (xs.map PyData.str) = true := by
  unfold okS
  simp only [Bool.and_eq_true, Bool.or_eq_true, List.all_eq_true, List.mem_map, forall_exists_index, and_imp, forall_apply_eq_imp_iff₂]
  refine ⟨.inl (.inl (.inl (.inr fun x _ => rfl))), fun x hm => ⟨?_, fun y _ => ?_⟩⟩
  · simp [SeqAt.shaped, PyData.canLay0, PyData.depth, hx x hm]
  · simp [cm]
theorem datS_str (h : Hq) (x : Str) (hx : PyData.strOk x = true) : datS h (.str x) = some (.str x) := by
  simp [datS, dat, SeqAt.shaped, PyData.canLay0, PyData.depth, hx]
theorem mapM_strs (h : Hq) : ∀ xs : List Str, (∀ x ∈ xs, PyData.strOk x = true) → (xs.map W.str).mapM (datS h) = some (xs.map PyData.str)
  | [], _ => rfl
  | x :: xs, hx => by
    rw [List.map_cons, List.mapM_cons, datS_str h x (hx x List.mem_cons_self), mapM_strs h xs fun y hy => hx y (List.mem_cons_of_mem _ hy)]
    rfl
/-- sorted of texts: any rising arrangement is the answer -/
theorem sortW_strs (h : Hq) (xs ys : List Str) (hx : ∀ x ∈ xs, PyData.strOk x = true) (p : ys.Perm xs) (s : ys.Pairwise fun a b => codeS a.cps.toList ≤ codeS b.cps.toList) : sortW h (xs.map W.str) = some (ys.map W.str) := by
  have e : ∃ zs, sortW h (xs.map W.str) = some zs := by
    unfold sortW
    rw [mapM_strs h xs hx, Option.bind_some, okS_strs xs hx, Bool.or_true, if_pos rfl]
    exact ⟨_, rfl⟩
  obtain ⟨zs, e⟩ := e
  rw [e, sortW_eq e (p.map W.str) (List.pairwise_map.mpr (s.imp_of_mem fun {a b} ha hb hab => by
    have c : ∀ a ∈ ys, codeW h (.str a) = codeS a.cps.toList := fun a ha => by unfold codeW; rw [datS_str h a (hx a (p.mem_iff.mp ha))]; rfl
    rw [c a ha, c b hb]; exact hab))]
theorem pick3 (ns : List Int) (p : Nat) (s r : Int) (hs : Hq) :
    ∃ (v : Int) (p' : Nat) (s' r' : Int), (v = 2 ∨ v = 3) ∧ m_L_law_pick [.ref 0, .lst [.int 2, .int 2, .int 3]] (rowO ns p s r :: hs) = .ok (.int v) (rowO ns p' s' r' :: hs) := by
  obtain ⟨v, p', s', r', h0, h1, e⟩ := taken ns p s r 3 hs (by omega) (by decide)
  have hv : v = 0 ∨ v = 1 ∨ v = 2 := by omega
  rcases hv with rfl | rfl | rfl
  · exact ⟨2, p', s', r', .inl rfl, by simp [fBody, sSeq, sIf, tTst, eOp, eVar, eC, ixA, dkW, ixW, Re.bind, cmpI, sSet, eCB, aCons, aNil, cInt, cLen, lenW, modW, fdivW, mulW, addW, subW, powW, Mo.intOp, itemsW, atI, ixN, sAsg, gSb, stA, stL, sRet, sNil, m_L_law_pick, b_L_law_pick, eCall, e]⟩
  · exact ⟨2, p', s', r', .inl rfl, by simp [fBody, sSeq, sIf, tTst, eOp, eVar, eC, ixA, dkW, ixW, Re.bind, cmpI, sSet, eCB, aCons, aNil, cInt, cLen, lenW, modW, fdivW, mulW, addW, subW, powW, Mo.intOp, itemsW, atI, ixN, sAsg, gSb, stA, stL, sRet, sNil, m_L_law_pick, b_L_law_pick, eCall, e]⟩
  · exact ⟨3, p', s', r', .inr rfl, by simp [fBody, sSeq, sIf, tTst, eOp, eVar, eC, ixA, dkW, ixW, Re.bind, cmpI, sSet, eCB, aCons, aNil, cInt, cLen, lenW, modW, fdivW, mulW, addW, subW, powW, Mo.intOp, itemsW, atI, ixN, sAsg, gSb, stA, stL, sRet, sNil, m_L_law_pick, b_L_law_pick, eCall, e]⟩
def words : List Str := ["blocks", "drop", "drop looked", "far", "hands", "lend looked", "move looked", "set", "set looked", "share", "two names", "use lent"]
theorem m_words (h : Hq) : m_L_law_words [] h = .ok (.lst (words.map W.str)) h := by
  simp [m_L_law_words, b_L_law_words, fBody, sSeq, sSet, sRet, eLst, aCons, aNil, eC, eOp, eVar, addW, Re.bind, lim, words]
def RowI (ns : List Int) (hs : Hq) (h : Hq) : Prop := ∃ (p : Nat) (s r : Int), h = rowO ns p s r :: hs
theorem draw_words (ns : List Int) (hs : Hq) (p : Nat) (s r v : Int) (hv : v = 2 ∨ v = 3) : ∃ sub p' s' r', List.Sublist sub words ∧
    eLc (iSq (eCall0 m_L_law_words)) [3] (gNm 3) (tTst (eOp (eqA false) (eCall 2 m_L_law_taken (aCons (eVar 0) (aCons (eVar 1) aNil))) (eC (.int 0)))) (eVar 3) [some (.ref 0), some (.int v), none, none] (rowO ns p s r :: hs) = .ok (.lst (sub.map W.str)) (rowO ns (p' : Nat) s' r' :: hs) := by
  have ht : ∀ w ∈ words.map W.str, ∀ h, RowI ns hs h → ∃ b h', (tTst (eOp (eqA false) (eCall 2 m_L_law_taken (aCons (eVar 0) (aCons (eVar 1) aNil))) (eC (.int 0)))) ((wipeW [some (.ref 0), some (.int v), none, none] [3]).set 3 (some w)) h = .ok b h' ∧ RowI ns hs h' := by
    rintro w _ h ⟨p, s, r, rfl⟩
    obtain ⟨v1, p', s', r', h0, h1, e⟩ := taken ns p s r v hs (by omega) (by omega)
    refine ⟨v1 == 0, _, ?_, p', s', r', rfl⟩
    simp [fBody, sSeq, sIf, tTst, eOp, eVar, eC, ixA, dkW, ixW, Re.bind, cmpI, sSet, eCB, aCons, aNil, cInt, cLen, lenW, modW, fdivW, mulW, addW, subW, powW, Mo.intOp, itemsW, atI, ixN, sAsg, gSb, stA, stL, sRet, sNil, eCall, wipeW, e, eqA, eqS, scalW, eqW]
  obtain ⟨sub, h', r1, r2, p', s', r', rfl⟩ := lc_sub (ws := words.map W.str) (σ := wipeW [some (.ref 0), some (.int v), none, none] [3]) (sl := 3) (I := RowI ns hs) (by simp [wipeW]) ht (by decide) 13 0 [] (rowO ns p s r :: hs) (by decide) (by decide) (by decide) ⟨p, s, r, rfl⟩
  rw [List.drop_zero] at r2
  obtain ⟨l, hl, rfl⟩ := List.sublist_map_iff.mp r2
  refine ⟨l, p', s', r', hl, ?_⟩
  have hi : iSq (eCall0 m_L_law_words) [some (.ref 0), some (.int v), none, none] (rowO ns p s r :: hs) = .ok (fixed (words.map W.str)) (rowO ns p s r :: hs) := by
    simp only [iSq, eCall0, m_words, Re.quiet, Re.bind]
  unfold eLc lcA
  rw [hi]
  simp only [Re.bind, show fixed (words.map W.str) (rowO ns p s r :: hs) = some (words.map W.str) from rfl]
  rw [show (words.map W.str).length + 1 = 13 from rfl]
  have r1' := r1
  simp only [List.nil_append] at r1'
  rw [r1']
def four : List Str := ["blocks", "drop", "hands", "set"]
theorem inW_strs (x : Str) : ∀ l : List Str, inW (.str x) (l.map W.str) = decide (x ∈ l)
  | [] => rfl
  | y :: l => by
    have ih := inW_strs x l
    unfold inW at ih ⊢
    rw [List.map_cons, List.any_cons, ih]
    simp only [eqW, List.mem_cons, Bool.decide_or]
    congr 1
    by_cases h : y = x
    · subst h; simp
    · have : x ≠ y := fun z => h z.symm
      simp [h, this]
theorem flat_strs : ∀ l : List Str, (l.map W.str).all flatW = true
  | [] => rfl
  | y :: l => by rw [List.map_cons, List.all_cons, flat_strs l]; rfl
theorem words_nodup : words.Nodup := by decide
theorem words_rise : words.Pairwise fun a b => codeS a.cps.toList ≤ codeS b.cps.toList := by decide +kernel
theorem words_ok : ∀ x ∈ words, PyData.strOk x = true := by decide +kernel
theorem sort_found (h : Hq) (l : List Str) (hn : l.Nodup) (hs : ∀ x ∈ l, x ∈ words) : sortW h (l.map W.str) = some ((words.filter fun x => decide (x ∈ l)).map W.str) := by
  refine sortW_strs h l _ (fun x hx => words_ok x (hs x hx)) ?_ (words_rise.sublist List.filter_sublist)
  refine (List.perm_ext_iff_of_nodup (words_nodup.sublist List.filter_sublist) hn).mpr fun x => ?_
  rw [List.mem_filter]
  exact ⟨fun h => of_decide_eq_true h.2, fun h => ⟨hs x h, decide_eq_true h⟩⟩
theorem draw_four (l : List Str) (v : Int) (h : Hq) (hl : l.length ≤ 100) :
    eLc (iSq (eLst (aCons (eC (.str "blocks")) (aCons (eC (.str "drop")) (aCons (eC (.str "hands")) (aCons (eC (.str "set")) aNil)))))) [3] (gNm 3) (tTst (eOp (inA true) (eVar 3) (eVar 2))) (eVar 3) [some (.ref 0), some (.int v), some (.lst (l.map W.str)), none] h = .ok (.lst ((four.filter fun x => decide (x ∉ l)).map W.str)) h := by
  have ht : ∀ w ∈ four.map W.str, (tTst (eOp (inA true) (eVar 3) (eVar 2))) ((wipeW [some (.ref 0), some (.int v), some (.lst (l.map W.str)), none] [3]).set 3 (some w)) h = .ok (!inW w (l.map W.str)) h := by
    intro w hw
    obtain ⟨x, hx, rfl⟩ := List.mem_map.mp hw
    have := flat_strs l
    simp [fBody, sSeq, sIf, tTst, eOp, eVar, eC, ixA, dkW, ixW, Re.bind, cmpI, sSet, eCB, aCons, aNil, cInt, cLen, lenW, modW, fdivW, mulW, addW, subW, powW, Mo.intOp, itemsW, atI, ixN, sAsg, gSb, stA, stL, sRet, sNil, wipeW, inA, inQ, this, flatW]
  have r := lc_filter (ws := four.map W.str) (σ := wipeW [some (.ref 0), some (.int v), some (.lst (l.map W.str)), none] [3]) (sl := 3) (by simp [wipeW]) ht (by decide) 5 0 [] (by decide) (by decide) (by decide)
  rw [List.drop_zero, List.nil_append, List.filter_map] at r
  have hi : iSq (eLst (aCons (eC (.str "blocks")) (aCons (eC (.str "drop")) (aCons (eC (.str "hands")) (aCons (eC (.str "set")) aNil))))) [some (.ref 0), some (.int v), some (.lst (l.map W.str)), none] h = .ok (fixed (four.map W.str)) h := by
    simp [iSq, eLst, aCons, aNil, eC, Re.bind, lim, four]
  unfold eLc lcA
  rw [hi]
  simp only [Re.bind, show fixed (four.map W.str) h = some (four.map W.str) from rfl]
  rw [show (four.map W.str).length + 1 = 5 from rfl, r]
  simp only
  congr 3
  refine List.filter_congr fun x _ => ?_
  show (!inW (.str x) (l.map W.str)) = _
  rw [inW_strs]
  simp
theorem eOp_ok {f : OpM} {ma mb : EM} {σ : Sg} {h h1 h2 : Hq} {x y : W} {r : Re W} (a : ma σ h = .ok x h1) (b : mb σ h1 = .ok y h2) (c : f x y h2 = r) : eOp f ma mb σ h = r := by
  show (ma σ h).bind _ = r
  rw [a]
  show (mb σ h1).bind _ = r
  rw [b]
  exact c
theorem sSet_ok {i : Nat} {m : EM} {σ σ' : Sg} {h h1 : Hq} {w : W} (a : m σ h = .ok w h1) (e : σ.set i (some w) = σ') : sSet i m σ h = .ok (.nx σ') h1 := by
  show (m σ h).bind _ = _
  rw [a, ← e]
  rfl
theorem design (ns : List Int) (hs : Hq) (p : Nat) (s r : Int) : ∃ (D : List Str) (p' : Nat) (s' r' : Int), D.Sublist words ∧ m_L_law_design [.ref 0] (rowO ns p s r :: hs) = .ok (.tup (D.map W.str)) (rowO ns p' s' r' :: hs) := by
  obtain ⟨v, p1, s1, r1, hv, e1⟩ := pick3 ns p s r hs
  obtain ⟨l, p2, s2, r2, hl, e2⟩ := draw_words ns hs p1 s1 r1 v hv
  obtain ⟨v2, p3, s3, r3, h0, h1, e3⟩ := taken ns p2 s2 r2 2 hs (by omega) (by decide)
  have hll : l.length ≤ 100 := Nat.le_trans hl.length_le (by decide)
  have hln : l.Nodup := words_nodup.sublist hl
  have hlw : ∀ x ∈ l, x ∈ words := fun x hx => hl.subset hx
  have fin : ∀ (f : List Str) (σ : Sg), f.Nodup → (∀ x ∈ f, x ∈ words) → σ[2]? = some (some (.lst (f.map W.str))) → (sRet (eCB cTuple (aCons (eCB cSorted (aCons (eVar 2) aNil)) aNil))) σ (rowO ns p3 s3 r3 :: hs) = .ok (.rt (.tup ((words.filter fun x => decide (x ∈ f)).map W.str))) (rowO ns p3 s3 r3 :: hs) := by
    intro f σ hf hw hσ
    have := sort_found (rowO ns p3 s3 r3 :: hs) f hf hw
    simp [sRet, eCB, cTuple, cSorted, aCons, aNil, eVar, Re.bind, hσ, itemsW, this]
  have st1 : sSet 1 (eCall 2 m_L_law_pick (aCons (eVar 0) (aCons (eLst (aCons (eC (.int 2)) (aCons (eC (.int 2)) (aCons (eC (.int 3)) aNil)))) aNil))) [some (.ref 0), none, none, none] (rowO ns p s r :: hs) = .ok (.nx [some (.ref 0), some (.int v), none, none]) (rowO ns p1 s1 r1 :: hs) := by
    simp [sSet, eCall, aCons, aNil, eVar, eLst, eC, Re.bind, lim, e1]
  have st2 : sSet 2 (eLc (iSq (eCall0 m_L_law_words)) [3] (gNm 3) (tTst (eOp (eqA false) (eCall 2 m_L_law_taken (aCons (eVar 0) (aCons (eVar 1) aNil))) (eC (.int 0)))) (eVar 3)) [some (.ref 0), some (.int v), none, none] (rowO ns p1 s1 r1 :: hs) = .ok (.nx [some (.ref 0), some (.int v), some (.lst (l.map W.str)), none]) (rowO ns p2 s2 r2 :: hs) := by
    simp [sSet, e2, Re.bind]
  have tst : (tTst (eOp (eqA false) (eCall 2 m_L_law_taken (aCons (eVar 0) (aCons (eC (.int 2)) aNil))) (eC (.int 0)))) [some (.ref 0), some (.int v), some (.lst (l.map W.str)), none] (rowO ns p2 s2 r2 :: hs) = .ok (v2 == 0) (rowO ns p3 s3 r3 :: hs) := by
    simp [fBody, sSeq, sIf, tTst, eOp, eVar, eC, ixA, dkW, ixW, Re.bind, cmpI, sSet, eCB, aCons, aNil, cInt, cLen, lenW, modW, fdivW, mulW, addW, subW, powW, Mo.intOp, itemsW, atI, ixN, sAsg, gSb, stA, stL, sRet, sNil, eCall, e3, eqA, eqS, scalW, eqW]
  cases hb : (v2 == 0) with
  | false =>
    refine ⟨words.filter fun x => decide (x ∈ l), p3, s3, r3, List.filter_sublist, ?_⟩
    unfold m_L_law_design fBody b_L_law_design
    simp only [sSeq, List.map_cons, List.map_nil, List.length_cons, List.length_nil, List.replicate, List.cons_append, List.nil_append, Nat.zero_add, if_true, Nat.reduceSub, st1, st2, Re.bind, sIf, tst, hb, sNil, fin l [some (.ref 0), some (.int v), some (.lst (l.map W.str)), none] hln hlw rfl]
  | true =>
    have fd : (l ++ four.filter fun x => decide (x ∉ l)).Nodup := by
      refine List.nodup_append.mpr ⟨hln, ?_, ?_⟩
      · exact List.Nodup.sublist List.filter_sublist (by decide)
      · intro a ha b hb e
        subst e
        have := (List.mem_filter.mp hb).2
        simp at this
        exact this ha
    have fw : ∀ x ∈ l ++ four.filter (fun x => decide (x ∉ l)), x ∈ words := by
      intro x hx
      rcases List.mem_append.mp hx with hx | hx
      · exact hlw x hx
      · have : ∀ y ∈ four, y ∈ words := by decide
        exact this x (List.mem_filter.mp hx).1
    have st3 := draw_four l v (rowO ns p3 s3 r3 :: hs) hll
    refine ⟨words.filter fun x => decide (x ∈ l ++ four.filter fun x => decide (x ∉ l)), p3, s3, r3, List.filter_sublist, ?_⟩
    have hlim : lim ((l.map W.str).length + ((four.filter fun x => decide (x ∉ l)).map W.str).length) = true := lim_lt (by
      rw [List.length_map, List.length_map]
      have := List.length_filter_le (fun x => decide (x ∉ l)) four
      have h4 : four.length = 4 := rfl
      omega)
    have st4 : sSet 2 (eOp addW (eVar 2) (eLc (iSq (eLst (aCons (eC (.str "blocks")) (aCons (eC (.str "drop")) (aCons (eC (.str "hands")) (aCons (eC (.str "set")) aNil)))))) [3] (gNm 3) (tTst (eOp (inA true) (eVar 3) (eVar 2))) (eVar 3))) [some (.ref 0), some (.int v), some (.lst (l.map W.str)), none] (rowO ns p3 s3 r3 :: hs) = .ok (.nx [some (.ref 0), some (.int v), some (.lst ((l ++ four.filter fun x => decide (x ∉ l)).map W.str)), none]) (rowO ns p3 s3 r3 :: hs) := by
      refine sSet_ok (w := .lst ((l ++ four.filter fun x => decide (x ∉ l)).map W.str)) (eOp_ok (x := .lst (l.map W.str)) rfl st3 ?_) rfl
      simp only [addW, hlim, if_true, List.map_append]
    unfold m_L_law_design fBody b_L_law_design
    simp only [sSeq, List.map_cons, List.map_nil, List.length_cons, List.length_nil, List.replicate, List.cons_append, List.nil_append, Nat.zero_add, if_true, Nat.reduceSub, st1, st2, Re.bind, sIf, tst, hb, st4, fin _ [some (.ref 0), some (.int v), some (.lst ((l ++ four.filter fun x => decide (x ∉ l)).map W.str)), none] fd fw rfl]
def lotsT : List (List Str) := [["blocks", "far"], ["blocks", "hands", "share"], ["blocks", "move looked"], ["blocks", "two names"], ["blocks", "use lent"], ["drop", "drop looked"], ["drop", "hands", "share"], ["drop", "move looked"], ["drop", "two names"], ["drop", "use lent"], ["hands", "set", "share"], ["lend looked", "set"], ["move looked", "set"], ["set", "set looked"], ["set", "two names"], ["set", "use lent"]]
def tupS (l : List Str) : W := .tup (l.map W.str)
theorem m_lots_law (h : Hq) : m_L_law_lots [] h = .ok (.lst (lotsT.map tupS)) h := by
  simp [m_L_law_lots, b_L_law_lots, fBody, sSeq, sSet, sRet, eLst, eTup, aCons, aNil, eC, eOp, eVar, addW, Re.bind, lim, lotsT, tupS]
end P06
end

section
set_option Elab.async false
set_option linter.all false
set_option autoImplicit false
set_option maxRecDepth 100000
set_option maxHeartbeats 4000000
/-! tools for the pure part: how the little machine's loops answer -/
namespace Mo
open PySem PySem.Spec PyProof.Rows L2
theorem lim_le {n : Nat} (h : n ≤ 1000000) : lim n = true := decide_eq_true h
theorem lcM_ok {α : Type} {xs : List α} {enc : α → W} {cur : Cur} {g : GM} {tt : TM} {e : EM} {σ : Sg} {h : Hq} {S : α → Sg} {p : α → Bool} {f : α → W}
    (hc : cur h = some (xs.map enc)) (hw : xs.length ≤ 900000) (hg : ∀ x ∈ xs, g (enc x) σ h = .ok (S x) h) (ht : ∀ x ∈ xs, tt (S x) h = .ok (p x) h) (he : ∀ x ∈ xs, p x = true → e (S x) h = .ok (f x) h) :
    ∀ (k i : Nat) (acc : List W), xs.length < k + i → i ≤ xs.length → acc.length ≤ i → lcM cur g tt e σ k i acc h = .ok (acc ++ ((xs.drop i).filter p).map f) h := by
  intro k
  induction k with
  | zero => intro i acc hk hi; omega
  | succ k ih =>
    intro i acc hk hi ha
    unfold lcM
    rw [hc]
    simp only [List.getElem?_map]
    cases e : xs[i]? with
    | none =>
      simp only [Option.map_none]
      rw [List.drop_eq_nil_of_le (List.getElem?_eq_none_iff.mp e)]
      simp
    | some w =>
      obtain ⟨hlt, hgi⟩ := List.getElem?_eq_some_iff.mp e
      have hm : w ∈ xs := by rw [← hgi]; exact List.getElem_mem hlt
      have hd : xs.drop i = w :: xs.drop (i + 1) := by rw [← hgi]; exact List.drop_eq_getElem_cons hlt
      simp only [Option.map_some, hg w hm, Re.quiet, Re.bind, ht w hm]
      rw [hd]
      cases hb : p w with
      | true =>
        simp only [he w hm hb]
        rw [if_pos (lim_le (by omega)), ih (i + 1) (acc ++ [f w]) (by omega) (by omega) (by simp; omega), List.filter_cons_of_pos hb, List.append_assoc]
        rfl
      | false =>
        simp only
        rw [ih (i + 1) acc (by omega) (by omega) (by omega), List.filter_cons_of_neg (by simp [hb])]
theorem lcA_ok {α : Type} {xs : List α} {enc : α → W} {cur : Cur} {it : IM} {sl : List Nat} {g : GM} {tt : TM} {e : EM} {σ : Sg} {h0 h : Hq} {S : α → Sg} {p : α → Bool} {f : α → W}
    (hi : it σ h0 = .ok cur h) (hc : cur h = some (xs.map enc)) (hw : xs.length ≤ 900000) (hg : ∀ x ∈ xs, g (enc x) (wipeW σ sl) h = .ok (S x) h) (ht : ∀ x ∈ xs, tt (S x) h = .ok (p x) h) (he : ∀ x ∈ xs, p x = true → e (S x) h = .ok (f x) h) :
    lcA it sl g tt e σ h0 = .ok ((xs.filter p).map f) h := by
  unfold lcA
  rw [hi]
  simp only [Re.bind, hc]
  rw [lcM_ok hc hw hg ht he ((xs.map enc).length + 1) 0 [] (by simp) (by omega) (by simp)]
  simp
theorem eLc_ok {α : Type} {xs : List α} {enc : α → W} {cur : Cur} {it : IM} {sl : List Nat} {g : GM} {tt : TM} {e : EM} {σ : Sg} {h0 h : Hq} (S : α → Sg) (p : α → Bool) (f : α → W)
    (hi : it σ h0 = .ok cur h) (hc : cur h = some (xs.map enc)) (hw : xs.length ≤ 900000) (hg : ∀ x ∈ xs, g (enc x) (wipeW σ sl) h = .ok (S x) h) (ht : ∀ x ∈ xs, tt (S x) h = .ok (p x) h) (he : ∀ x ∈ xs, p x = true → e (S x) h = .ok (f x) h) :
    eLc it sl g tt e σ h0 = .ok (.lst ((xs.filter p).map f)) h := by
  unfold eLc
  rw [lcA_ok hi hc hw hg ht he]
  rfl
/-- without a test -/
theorem eLc_all {α : Type} {xs : List α} {enc : α → W} {cur : Cur} {it : IM} {sl : List Nat} {g : GM} {e : EM} {σ : Sg} {h0 h : Hq} (S : α → Sg) (f : α → W)
    (hi : it σ h0 = .ok cur h) (hc : cur h = some (xs.map enc)) (hw : xs.length ≤ 900000) (hg : ∀ x ∈ xs, g (enc x) (wipeW σ sl) h = .ok (S x) h) (he : ∀ x ∈ xs, e (S x) h = .ok (f x) h) :
    eLc it sl g tYs e σ h0 = .ok (.lst (xs.map f)) h := by
  rw [eLc_ok S (fun _ => true) f hi hc hw hg (fun _ _ => rfl) (fun x hx _ => he x hx), List.filter_eq_self.mpr (fun _ _ => rfl)]
/-- a walk of a list that stays as it is, by an invariant -/
theorem loopM_ok {α : Type} {xs : List α} {enc : α → W} {cur : Cur} {g : GM} {body : SM} {I : Nat → Sg → Hq → Prop}
    (hc : ∀ i σ h, I i σ h → cur h = some (xs.map enc))
    (hb : ∀ i (hi : i < xs.length) σ h, I i σ h → ∃ σ1 h1, ((g (enc xs[i]) σ h).bind fun σ1 h1 => body σ1 h1) = .ok (.nx σ1) h1 ∧ I (i + 1) σ1 h1) :
    ∀ (k i : Nat) (σ : Sg) (h : Hq), xs.length < k + i → i ≤ xs.length → I i σ h → ∃ σ' h', loopM cur g body k i σ h = .ok (.nx σ') h' ∧ I xs.length σ' h' := by
  intro k
  induction k with
  | zero => intro i σ h hk hi; omega
  | succ k ih =>
    intro i σ h hk hi hI
    unfold loopM
    rw [hc i σ h hI]
    simp only [List.getElem?_map]
    cases e : xs[i]? with
    | none =>
      have : i = xs.length := by have := List.getElem?_eq_none_iff.mp e; omega
      subst this
      exact ⟨σ, h, rfl, hI⟩
    | some w =>
      obtain ⟨hlt, hgi⟩ := List.getElem?_eq_some_iff.mp e
      subst hgi
      obtain ⟨σ1, h1, e1, I1⟩ := hb i hlt σ h hI
      obtain ⟨σ2, h2, e2, I2⟩ := ih (i + 1) σ1 h1 (by omega) (by omega) I1
      refine ⟨σ2, h2, ?_, I2⟩
      cases eg : g (enc xs[i]) σ h with
      | ok a h0 =>
        rw [eg] at e1; simp only [Option.map_some]; rw [eg]
        simp only [Re.bind] at e1 ⊢
        rw [e1]
        exact e2
      | ex x h0 => rw [eg] at e1; cases e1
      | no => rw [eg] at e1; cases e1
theorem sFor_ok {α : Type} {xs : List α} {enc : α → W} {cur : Cur} {it : IM} {g : GM} {body : SM} {σ : Sg} {h00 h : Hq} (I : Nat → Sg → Hq → Prop) (hi : it σ h00 = .ok cur h)
    (hc : ∀ i σ h, I i σ h → cur h = some (xs.map enc))
    (hb : ∀ i (hi : i < xs.length) σ h, I i σ h → ∃ σ1 h1, ((g (enc xs[i]) σ h).bind fun σ1 h1 => body σ1 h1) = .ok (.nx σ1) h1 ∧ I (i + 1) σ1 h1)
    (h0 : I 0 σ h) : ∃ σ' h', sFor it g body σ h00 = .ok (.nx σ') h' ∧ I xs.length σ' h' := by
  unfold sFor
  rw [hi]
  simp only [Re.bind, hc 0 σ h h0]
  exact loopM_ok hc hb ((xs.map enc).length + 1) 0 σ h (by simp) (by omega) h0
/-- a walk that returns at the first row that a test takes, and else changes nothing -/
theorem loopM_find {α : Type} {xs : List α} {enc : α → W} {cur : Cur} {g : GM} {body : SM} {h : Hq} {I : Sg → Prop} {p : α → Option W}
    (hc : cur h = some (xs.map enc))
    (hb : ∀ w ∈ xs, ∀ σ, I σ → (∃ σ1, ((g (enc w) σ h).bind fun σ1 h1 => body σ1 h1) = .ok (match p w with | some r => .rt r | none => .nx σ1) h ∧ I σ1)) :
    ∀ (k i : Nat) (σ : Sg), xs.length < k + i → i ≤ xs.length → I σ → ∃ σ', loopM cur g body k i σ h = .ok (match (xs.drop i).findSome? p with | some r => .rt r | none => .nx σ') h ∧ I σ' := by
  intro k
  induction k with
  | zero => intro i σ hk hi; omega
  | succ k ih =>
    intro i σ hk hi hI
    unfold loopM
    rw [hc]
    simp only [List.getElem?_map]
    cases e : xs[i]? with
    | none =>
      rw [List.drop_eq_nil_of_le (List.getElem?_eq_none_iff.mp e)]
      exact ⟨σ, rfl, hI⟩
    | some w =>
      obtain ⟨hlt, hgi⟩ := List.getElem?_eq_some_iff.mp e
      have hm : w ∈ xs := by rw [← hgi]; exact List.getElem_mem hlt
      have hd : xs.drop i = w :: xs.drop (i + 1) := by rw [← hgi]; exact List.drop_eq_getElem_cons hlt
      obtain ⟨σ1, e1, I1⟩ := hb w hm σ hI
      obtain ⟨σ2, e2, I2⟩ := ih (i + 1) σ1 (by omega) (by omega) I1
      rw [hd, List.findSome?_cons]
      cases eg : g (enc w) σ h with
      | ok a h0 =>
        rw [eg] at e1; simp only [Option.map_some]; rw [eg]
        simp only [Re.bind] at e1 ⊢
        rw [e1]
        cases hp : p w with
        | some r => exact ⟨σ1, rfl, I1⟩
        | none => exact ⟨σ2, e2, I2⟩
      | ex x h0 => rw [eg] at e1; cases e1
      | no => rw [eg] at e1; cases e1
theorem sFor_find {α : Type} {xs : List α} {enc : α → W} {cur : Cur} {it : IM} {g : GM} {body : SM} {σ : Sg} {h : Hq} (I : Sg → Prop) (p : α → Option W) (hi : it σ h = .ok cur h) (hc : cur h = some (xs.map enc))
    (hb : ∀ w ∈ xs, ∀ σ, I σ → (∃ σ1, ((g (enc w) σ h).bind fun σ1 h1 => body σ1 h1) = .ok (match p w with | some r => .rt r | none => .nx σ1) h ∧ I σ1)) (h0 : I σ) :
    ∃ σ', sFor it g body σ h = .ok (match xs.findSome? p with | some r => .rt r | none => .nx σ') h ∧ I σ' := by
  unfold sFor
  rw [hi]
  simp only [Re.bind, hc]
  exact loopM_find hc hb ((xs.map enc).length + 1) 0 σ (by simp) (by omega) h0
theorem blsW_map {α : Type} (f : α → Bool) : ∀ l : List α, blsW (l.map fun x => W.bl (f x)) = some (l.map f)
  | [] => rfl
  | x :: l => by simp [blsW, blsW_map f l]
theorem fBody_ok {N n : Nat} {m : SM} {ws : List W} {σ : Sg} {h h1 : Hq} {w : W} (hn : ws.length = n) (hσ : ws.map some ++ List.replicate (N - n) none = σ) (e : m σ h = .ok (.rt w) h1) : fBody N n m ws h = .ok w h1 := by
  unfold fBody
  rw [if_pos hn, hσ, e]
  rfl
theorem fBody_nx {N n : Nat} {m : SM} {ws : List W} {σ σ' : Sg} {h h1 : Hq} (hn : ws.length = n) (hσ : ws.map some ++ List.replicate (N - n) none = σ) (e : m σ h = .ok (.nx σ') h1) : fBody N n m ws h = .ok .non h1 := by
  unfold fBody
  rw [if_pos hn, hσ, e]
  rfl
theorem fBody_ex {N n : Nat} {m : SM} {ws : List W} {σ : Sg} {h h1 : Hq} {x : Exn} (hn : ws.length = n) (hσ : ws.map some ++ List.replicate (N - n) none = σ) (e : m σ h = .ex x h1) : fBody N n m ws h = .ex x h1 := by
  unfold fBody
  rw [if_pos hn, hσ, e]
  rfl
theorem sSeq_ex {m r : SM} {σ : Sg} {h h1 : Hq} {x : Exn} (e : m σ h = .ex x h1) : sSeq m r σ h = .ex x h1 := by
  unfold sSeq; rw [e]; rfl
theorem sSeq_nx {m r : SM} {σ σ1 : Sg} {h h1 : Hq} (e : m σ h = .ok (.nx σ1) h1) : sSeq m r σ h = r σ1 h1 := by
  unfold sSeq; rw [e]; rfl
theorem sSeq_rt {m r : SM} {σ : Sg} {h h1 : Hq} {w : W} (e : m σ h = .ok (.rt w) h1) : sSeq m r σ h = .ok (.rt w) h1 := by
  unfold sSeq; rw [e]; rfl
theorem sRet_ok {m : EM} {σ : Sg} {h h1 : Hq} {w : W} (e : m σ h = .ok w h1) : sRet m σ h = .ok (.rt w) h1 := by
  unfold sRet; rw [e]; rfl
theorem sSet_nx {i : Nat} {m : EM} {σ : Sg} {h h1 : Hq} {w : W} (e : m σ h = .ok w h1) : sSet i m σ h = .ok (.nx (σ.set i (some w))) h1 := by
  unfold sSet; rw [e]; rfl
theorem sExpr_ok {m : EM} {σ : Sg} {h h1 : Hq} {w : W} (e : m σ h = .ok w h1) : sExpr m σ h = .ok (.nx σ) h1 := by
  unfold sExpr; rw [e]; rfl
theorem sIf_t {t : TM} {m n : SM} {σ : Sg} {h h1 : Hq} (e : t σ h = .ok true h1) : sIf t m n σ h = m σ h1 := by
  unfold sIf; rw [e]; rfl
theorem sIf_f {t : TM} {m n : SM} {σ : Sg} {h h1 : Hq} (e : t σ h = .ok false h1) : sIf t m n σ h = n σ h1 := by
  unfold sIf; rw [e]; rfl
theorem sIf_b {t : TM} {m n : SM} {σ : Sg} {h h1 : Hq} {b : Bool} (e : t σ h = .ok b h1) : sIf t m n σ h = if b = true then m σ h1 else n σ h1 := by
  unfold sIf; rw [e]; cases b <;> rfl
theorem eCB_1 {m : CM} {a : EM} {σ : Sg} {h h1 : Hq} {w : W} (e : a σ h = .ok w h1) : eCB m (aCons a aNil) σ h = m [w] h1 := by
  unfold eCB aCons aNil; rw [e]; rfl
theorem eCall_1 {m : FM} {a : EM} {σ : Sg} {h h1 : Hq} {w : W} (e : a σ h = .ok w h1) : eCall 1 m (aCons a aNil) σ h = m [w] h1 := by
  unfold eCall aCons aNil; rw [e]; rfl
theorem eCall_2 {m : FM} {a b : EM} {σ : Sg} {h h1 h2 : Hq} {w u : W} (e : a σ h = .ok w h1) (e2 : b σ h1 = .ok u h2) : eCall 2 m (aCons a (aCons b aNil)) σ h = m [w, u] h2 := by
  unfold eCall aCons aNil; rw [e]; simp only [Re.bind]; rw [e2]; rfl
theorem iSq_tup {m : EM} {σ : Sg} {h h1 : Hq} {ws : List W} (e : m σ h = .ok (.tup ws) h1) : iSq m σ h = .ok (fixed ws) h1 := by
  unfold iSq; rw [e]; rfl
theorem iSq_lst {m : EM} {σ : Sg} {h h1 : Hq} {ws : List W} (e : m σ h = .ok (.lst ws) h1) : iSq m σ h = .ok (fixed ws) h1 := by
  unfold iSq; rw [e]; rfl
theorem iSq_ref {m : EM} {σ : Sg} {h h1 : Hq} {n : Nat} {ws : List W} (e : m σ h = .ok (.ref n) h1) (e2 : h1[n]? = some (.lst ws)) : iSq m σ h = .ok (cell n) h1 := by
  unfold iSq; rw [e]; simp only [Re.bind, e2]
theorem cell_ok {h : Hq} {n : Nat} {ws : List W} (e : h[n]? = some (.lst ws)) : cell n h = some ws := by
  unfold cell; rw [e]
theorem eNot_ok {m : EM} {σ : Sg} {h h1 : Hq} {b : Bool} (e : m σ h = .ok (.bl b) h1) : eNot m σ h = .ok (.bl (!b)) h1 := by
  unfold eNot; rw [e]; rfl
theorem tTru_bl {m : EM} {σ : Sg} {h h1 : Hq} {b : Bool} (e : m σ h = .ok (.bl b) h1) : tTru m σ h = .ok b h1 := by
  unfold tTru; rw [e]; rfl
theorem tTst_ok {m : EM} {σ : Sg} {h h1 : Hq} {b : Bool} (e : m σ h = .ok (.bl b) h1) : tTst m σ h = .ok b h1 := by
  unfold tTst; rw [e]; rfl
theorem tNot_ok {m : TM} {σ : Sg} {h h1 : Hq} {b : Bool} (e : m σ h = .ok b h1) : tNotM m σ h = .ok (!b) h1 := by
  unfold tNotM; rw [e]; rfl
theorem tAnd_ok {m n : TM} {σ : Sg} {h h1 h2 : Hq} {b c : Bool} (e : m σ h = .ok b h1) (e2 : b = true → n σ h1 = .ok c h2) (e3 : b = false → h1 = h2) : tAndM m n σ h = .ok (b && c) h2 := by
  unfold tAndM; rw [e]; cases b with
  | true => exact e2 rfl
  | false => rw [e3 rfl]; rfl
theorem tOr_ok {m n : TM} {σ : Sg} {h h1 h2 : Hq} {b c : Bool} (e : m σ h = .ok b h1) (e2 : b = false → n σ h1 = .ok c h2) (e3 : b = true → h1 = h2) : tOrM m n σ h = .ok (b || c) h2 := by
  unfold tOrM; rw [e]; cases b with
  | false => exact e2 rfl
  | true => rw [e3 rfl]; rfl
theorem eBM_1 {T : String} {m : MM} {mo a : EM} {σ : Sg} {h h1 h2 : Hq} {w u : W} (e : mo σ h = .ok w h1) (er : rcvW T h1 w = true) (e2 : a σ h1 = .ok u h2) : eBM T m mo (aCons a aNil) σ h = m w [u] h2 := by
  unfold eBM aCons aNil; rw [e]; simp only [Re.bind, er, if_true]; rw [e2]
theorem mExtend_ok {h : Hq} {n : Nat} {xs zs : List W} (e : h[n]? = some (.lst xs)) (hl : xs.length + zs.length ≤ 1000000) : mExtend (.ref n) [.lst zs] h = .ok .non (h.set n (.lst (xs ++ zs))) := by
  simp only [mExtend, e, lsW, lim_le hl, if_true]
theorem mAppend_ok {h : Hq} {n : Nat} {xs : List W} {y : W} (e : h[n]? = some (.lst xs)) (hl : xs.length ≤ 1000000) : mAppend (.ref n) [y] h = .ok .non (h.set n (.lst (xs ++ [y]))) := by
  simp only [mAppend, e, lim_le hl, if_true]
theorem rcv_lst {h : Hq} {n : Nat} {xs : List W} (e : h[n]? = some (.lst xs)) : rcvW "list" h (.ref n) = true := by
  simp only [rcvW, e]; rfl
theorem h62 : (2:Int)^62 = 4611686018427387904 := by simp
theorem aCons_ok {m : EM} {r : AM} {σ : Sg} {h h1 h2 : Hq} {w : W} {ws : List W} (e : m σ h = .ok w h1) (e2 : r σ h1 = .ok ws h2) : aCons m r σ h = .ok (w :: ws) h2 := by
  unfold aCons; rw [e]; simp only [Re.bind]; rw [e2]
theorem eTup_ok {am : AM} {σ : Sg} {h h1 : Hq} {ws : List W} (e : am σ h = .ok ws h1) (hl : ws.length ≤ 1000000) : eTup am σ h = .ok (.tup ws) h1 := by
  unfold eTup; rw [e]; simp only [Re.bind, lim_le hl, if_true]
theorem eLst_ok {am : AM} {σ : Sg} {h h1 : Hq} {ws : List W} (e : am σ h = .ok ws h1) (hl : ws.length ≤ 1000000) : eLst am σ h = .ok (.lst ws) h1 := by
  unfold eLst; rw [e]; simp only [Re.bind, lim_le hl, if_true]
theorem sAsg_ok {m : EM} {g : GM} {σ σ' : Sg} {h h1 h2 : Hq} {w : W} (e : m σ h = .ok w h1) (e2 : g w σ h1 = .ok σ' h2) : sAsg m g σ h = .ok (.nx σ') h2 := by
  unfold sAsg; rw [e]; simp only [Re.bind]; rw [e2]
def rg (B : Int) (m : AM) : IM := fun σ h => (m σ h).bind fun ws h1 => match ws with
  | [.int n] => if decide (-B ≤ n) && decide (n < B) then .ok (fixed ((List.range n.toNat).map fun i => W.int (i : Nat))) h1 else .no
  | _ => .no
theorem rg_ok (B : Int) {am : AM} {σ : Sg} {h h1 : Hq} {n : Nat} (e : am σ h = .ok [.int (n : Nat)] h1) (h0 : -B ≤ n) (h2 : n < B) : rg B am σ h = .ok (fixed ((List.range n).map fun i => W.int (i : Nat))) h1 := by
  unfold rg
  rw [e]
  dsimp only [Re.bind]
  refine (if_pos (Bool.and_eq_true_iff.mpr ⟨decide_eq_true h0, decide_eq_true h2⟩)).trans ?_
  rw [Int.toNat_natCast]
theorem rg_eq : iRg1 = rg (2^62) := rfl
theorem iRg1_ok {am : AM} {σ : Sg} {h h1 : Hq} {n : Nat} (e : am σ h = .ok [.int (n : Nat)] h1) (hn : n ≤ 1000000) : iRg1 am σ h = .ok (fixed ((List.range n).map fun i => W.int (i : Nat))) h1 := by
  rw [rg_eq]
  exact rg_ok _ e (by rw [h62]; omega) (by rw [h62]; omega)
end Mo
end

section
set_option Elab.async false
set_option linter.all false
set_option autoImplicit false
set_option maxRecDepth 100000
set_option maxHeartbeats 4000000
namespace P06
open PySem PySem.Spec PyProof.Rows L2 Mo
theorem inA_tup (neg : Bool) (x : Str) (l : List Str) (h : Hq) : inA neg (.str x) (tupS l) h = .ok (.bl (if neg then !decide (x ∈ l) else decide (x ∈ l))) h := by
  simp [inA, dkW, tupS, inQ, itemsW, flatW, flat_strs, inW_strs]
theorem inA_lst (neg : Bool) (x : Str) (l : List Str) (h : Hq) : inA neg (.str x) (.lst (l.map W.str)) h = .ok (.bl (if neg then !decide (x ∈ l) else decide (x ∈ l))) h := by
  simp [inA, dkW, inQ, itemsW, flatW, flat_strs, inW_strs]
theorem holds_ok (D l : List Str) (hl : l.length ≤ 1000) (h : Hq) : m_holds [tupS D, tupS l] h = .ok (.bl (l.all fun x => decide (x ∈ D))) h := by
  have k := eLc_all (xs := l) (enc := W.str) (it := iSq (eVar 1)) (sl := [2]) (g := gNm 2) (e := eOp (inA false) (eVar 2) (eVar 0)) (σ := [some (tupS D), some (tupS l), none]) (h := h)
    (fun x => [some (tupS D), some (tupS l), some (.str x)]) (fun x => .bl (decide (x ∈ D))) (cur := fixed (l.map W.str)) rfl rfl (by omega) (fun x _ => rfl) (fun x _ => eOp_ok rfl rfl (inA_tup false x D h))
  refine fBody_ok rfl rfl (sRet_ok ((eCB_1 k).trans ?_))
  simp [cAll, lsW, blsW_map]
theorem lots_ok (h : Hq) : m_lots [] h = .ok (.tup (lotsT.map tupS)) h := rfl
def sound (D : List Str) : Bool := !(lotsT.any fun l => l.all fun x => decide (x ∈ D))
theorem lots_small : ∀ l ∈ lotsT, l.length ≤ 1000 := by decide
theorem holds_none_ok (D : List Str) (h : Hq) : m_holds_none [tupS D] h = .ok (.bl (sound D)) h := by
  have k := eLc_all (xs := lotsT) (enc := tupS) (it := iSq (eCall0 m_lots)) (sl := [1]) (g := gNm 1) (e := eCall 2 m_holds (aCons (eVar 0) (aCons (eVar 1) aNil))) (σ := [some (tupS D), none]) (h := h)
    (fun l => [some (tupS D), some (tupS l)]) (fun l => .bl (l.all fun x => decide (x ∈ D))) (cur := fixed (lotsT.map tupS)) (iSq_tup (by unfold eCall0; rw [lots_ok]; rfl)) rfl (by decide) (fun x _ => rfl) (fun l hl => (eCall_2 rfl rfl).trans (holds_ok D l (lots_small l hl) h))
  refine fBody_ok rfl rfl (sRet_ok (eNot_ok ((eCB_1 k).trans ?_)))
  simp [cAny, lsW, blsW_map, sound]
def can (P : List Str) : List Str := words.filter fun x => decide (x ∈ P)
/-- a drawn set of words: its texts are words, none twice -/
structure Ws (P : List Str) : Prop where
  nd : P.Nodup
  mem : ∀ x ∈ P, x ∈ words
theorem Ws.len {P : List Str} (w : Ws P) : P.length ≤ 12 := by
  have p : (words.filter fun x => decide (x ∈ P)).Perm P := (List.perm_ext_iff_of_nodup (words_nodup.sublist List.filter_sublist) w.nd).mpr fun x => by
    rw [List.mem_filter]
    exact ⟨fun h => of_decide_eq_true h.2, fun h => ⟨w.mem x h, decide_eq_true h⟩⟩
  rw [← p.length_eq]
  exact List.length_filter_le _ _
theorem can_mem (P : List Str) (x : Str) : x ∈ can P ↔ x ∈ words ∧ x ∈ P := by simp [can]
theorem can_ws (P : List Str) : Ws (can P) := ⟨words_nodup.sublist List.filter_sublist, fun x hx => ((can_mem P x).mp hx).1⟩
theorem can_congr {P Q : List Str} (e : ∀ x ∈ words, x ∈ P ↔ x ∈ Q) : can P = can Q := by
  unfold can
  refine List.filter_congr fun x hx => ?_
  simp [e x hx]
theorem with_word_ok (D : List Str) (w : Str) (hd : Ws (D ++ [w])) (h : Hq) : m_with_word [tupS D, .str w] h = .ok (tupS (can (D ++ [w]))) h := by
  have hl := hd.len
  have s := sort_found h (D ++ [w]) hd.nd hd.mem
  refine fBody_ok rfl rfl (sRet_ok ?_)
  have e : eOp addW (eVar 0) (eTup (aCons (eVar 1) aNil)) [some (tupS D), some (.str w)] h = .ok (tupS (D ++ [w])) h := by
    refine eOp_ok (x := tupS D) (y := .tup [.str w]) rfl rfl ?_
    have : lim (D.length + 1) = true := lim_le (by simp at hl; omega)
    simp [addW, tupS, this]
  have e2 : eCB cSorted (aCons (eOp addW (eVar 0) (eTup (aCons (eVar 1) aNil))) aNil) [some (tupS D), some (.str w)] h = .ok (.lst ((can (D ++ [w])).map W.str)) h := by
    rw [eCB_1 e]
    simp only [cSorted, tupS, itemsW, s]
    rfl
  exact (eCB_1 e2).trans rfl
theorem further_ok (D : List Str) (h : Hq) : m_further_words [tupS D] h = .ok (.lst ((words.filter fun x => !decide (x ∈ D)).map W.str)) h := by
  have k := eLc_ok (xs := words) (enc := W.str) (it := iSq (eC c_WORDS)) (sl := [1]) (g := gNm 1) (tt := tTst (eOp (inA true) (eVar 1) (eVar 0))) (e := eVar 1) (σ := [some (tupS D), none]) (h := h)
    (fun x => [some (tupS D), some (.str x)]) (fun x => !decide (x ∈ D)) W.str (cur := fixed (words.map W.str)) rfl rfl (by decide) (fun x _ => rfl) (fun x _ => tTst_ok (eOp_ok rfl rfl (inA_tup true x D h))) (fun x _ _ => rfl)
  exact fBody_ok rfl rfl (sRet_ok k)
theorem sound_congr {P Q : List Str} (e : ∀ x ∈ words, x ∈ P ↔ x ∈ Q) : sound P = sound Q := by
  unfold sound
  congr 1
  have lw : ∀ l ∈ lotsT, ∀ x ∈ l, x ∈ words := by decide
  have : ∀ ls : List (List Str), (∀ l ∈ ls, ∀ x ∈ l, x ∈ words) → (ls.any fun l => l.all fun x => decide (x ∈ P)) = ls.any fun l => l.all fun x => decide (x ∈ Q) := by
    intro ls hl
    induction ls with
    | nil => rfl
    | cons l ls ih =>
      rw [List.any_cons, List.any_cons, ih fun l h => hl l (List.mem_cons_of_mem _ h)]
      congr 1
      have h1 := hl l List.mem_cons_self
      clear ih hl
      induction l with
      | nil => rfl
      | cons x l ih => 
        rw [List.all_cons, List.all_cons, ih fun x h => h1 x (List.mem_cons_of_mem _ h)]
        congr 1
        simp [e x (h1 x List.mem_cons_self)]
  exact this lotsT lw
theorem sound_can (P : List Str) : sound (can P) = sound P := sound_congr fun x hx => by simp [can_mem, hx]
theorem can_can_app (P Q : List Str) : can (can P ++ Q) = can (P ++ Q) := can_congr fun x hx => by simp [can_mem, hx]
theorem sound_mono {P Q : List Str} (h : ∀ x ∈ P, x ∈ Q) (s : sound Q = true) : sound P = true := by
  unfold sound at s ⊢
  simp only [Bool.not_eq_true', List.any_eq_false, List.all_eq_true, decide_eq_true_eq, Bool.not_eq_true] at s ⊢
  intro l hl c
  exact s l hl fun x hx => h x (c x hx)

/-! the sound designs above one -/
def stepO (F : List (List Str)) (w : Str) : List (List Str) := F ++ (F.map fun o => can (o ++ [w])).filter sound
def onesO (D l : List Str) : List (List Str) := l.foldl stepO [D]
theorem ones_len : ∀ (l : List Str) (F : List (List Str)), (l.foldl stepO F).length ≤ F.length * 2 ^ l.length
  | [], F => by simp
  | w :: l, F => by
    have := ones_len l (stepO F w)
    have h2 : (stepO F w).length ≤ 2 * F.length := by
      unfold stepO
      rw [List.length_append]
      have := List.length_filter_le sound (F.map fun o => can (o ++ [w]))
      rw [List.length_map] at this
      omega
    rw [List.foldl_cons, List.length_cons, Nat.pow_succ]
    refine Nat.le_trans this (Nat.le_trans (Nat.mul_le_mul_right _ h2) ?_)
    rw [Nat.mul_comm 2, Nat.mul_assoc, Nat.mul_comm 2]
    exact Nat.le_refl _
theorem ones_mem : ∀ (l : List Str) (F : List (List Str)) (A : List Str), (∀ o ∈ F, Ws o ∧ ∀ x ∈ o, x ∈ A) → ∀ o ∈ l.foldl stepO F, Ws o ∧ ∀ x ∈ o, x ∈ A ++ l
  | [], F, A, h, o, ho => by rw [List.append_nil]; exact h o ho
  | w :: l, F, A, h, o, ho => by
    have := ones_mem l (stepO F w) (A ++ [w]) (fun o ho => by
      rcases List.mem_append.mp ho with ho | ho
      · exact ⟨(h o ho).1, fun x hx => List.mem_append_left _ ((h o ho).2 x hx)⟩
      · obtain ⟨q, hq, rfl⟩ := List.mem_map.mp (List.mem_filter.mp ho).1
        refine ⟨can_ws _, fun x hx => ?_⟩
        rcases List.mem_append.mp ((can_mem _ x).mp hx).2 with h1 | h1
        · exact List.mem_append_left _ ((h q hq).2 x h1)
        · exact List.mem_append_right _ h1) o ho
    rw [List.append_assoc] at this
    exact this
theorem ones_take (D l : List Str) (i : Nat) (hi : i < l.length) : onesO D (l.take (i + 1)) = stepO (onesO D (l.take i)) l[i] := by
  unfold onesO
  rw [← List.take_append_getElem hi, List.foldl_append]
  rfl
theorem get_last (h : Hq) (o : O) : (h ++ [o])[h.length]? = some o := by simp
theorem set_last (h : Hq) (o u : O) : (h ++ [o]).set h.length u = h ++ [u] := by simp
theorem rest_props (D : List Str) (hD : Ws D) (l : List Str) (hl : l = words.filter fun x => !decide (x ∈ D)) (i : Nat) (hi : i < l.length) (o : List Str) (ho : o ∈ onesO D (l.take i)) : Ws (o ++ [l[i]]) := by
  have hn : l.Nodup := by rw [hl]; exact words_nodup.sublist List.filter_sublist
  have hw : l[i] ∈ words ∧ l[i] ∉ D := by
    have : l[i] ∈ words.filter fun x => !decide (x ∈ D) := by rw [← hl]; exact List.getElem_mem hi
    have := List.mem_filter.mp this
    exact ⟨this.1, by simpa using this.2⟩
  obtain ⟨w, m⟩ := ones_mem (l.take i) [D] D (fun o ho => by
    obtain rfl := List.mem_singleton.mp ho
    exact ⟨hD, fun x hx => hx⟩) o ho
  have hni : l[i] ∉ o := fun h => by
    rcases List.mem_append.mp (m _ h) with h1 | h1
    · exact hw.2 h1
    · obtain ⟨j, hj, e⟩ := List.mem_iff_getElem.mp h1
      have hj' : j < i := by simp at hj; omega
      rw [List.getElem_take] at e
      exact absurd ((List.getElem_inj hn).mp e) (by omega)
  refine ⟨List.nodup_append.mpr ⟨w.nd, by simp, fun a ha b hb e => ?_⟩, fun x hx => ?_⟩
  · obtain rfl := List.mem_singleton.mp hb
    subst e; exact hni ha
  · rcases List.mem_append.mp hx with h | h
    · exact w.mem x h
    · obtain rfl := List.mem_singleton.mp h; exact hw.1
theorem rest_len (D : List Str) : (words.filter fun x => !decide (x ∈ D)).length ≤ 12 := List.length_filter_le _ _
theorem pow12 {n : Nat} (h : n ≤ 12) : 2 ^ n ≤ 4096 := Nat.pow_le_pow_right (by decide) h
theorem ones_small (D l : List Str) (h : l.length ≤ 12) : (onesO D l).length ≤ 4096 := by
  have := ones_len l [D]
  have p := pow12 h
  simp only [List.length_cons, List.length_nil, Nat.zero_add, Nat.one_mul] at this
  exact Nat.le_trans this p
theorem above_ok (D : List Str) (hD : Ws D) (h : Hq) : m_sound_ones_above [tupS D] h = .ok (.ref h.length) (h ++ [.lst ((onesO D (words.filter fun x => !decide (x ∈ D))).map tupS)]) := by
  generalize hl : (words.filter fun x => !decide (x ∈ D)) = l
  have hl' : l.length ≤ 12 := by rw [← hl]; exact rest_len D
  let H : Nat → Hq := fun i => h ++ [.lst ((onesO D (l.take i)).map tupS)]
  have loop := sFor_ok (xs := l) (enc := W.str) (cur := fixed (l.map W.str)) (it := iSq (eCall 1 m_further_words (aCons (eVar 0) aNil))) (g := gNm 2)
    (body := sSeq (sSet 3 (eLc (iSq (eVar 1)) [4] (gNm 4) tYs (eCall 2 m_with_word (aCons (eVar 4) (aCons (eVar 2) aNil)))))
      (sExpr (eBM "list" mExtend (eVar 1) (aCons (eLc (iSq (eVar 3)) [4] (gNm 4) (tTru (eCall 1 m_holds_none (aCons (eVar 4) aNil))) (eVar 4)) aNil))))
    (σ := [some (tupS D), some (.ref h.length), none, none, none]) (h := H 0)
    (fun i σ h' => h' = H i ∧ ∃ a b, σ = [some (tupS D), some (.ref h.length), a, b, none])
    (iSq_lst (by rw [eCall_1 rfl, further_ok, hl])) (fun _ _ _ _ => rfl)
    (fun i hi σ h' ⟨e, a, b, eσ⟩ => by
      subst e eσ
      have hsm := ones_small D (l.take i) (by simp; omega)
      have k1 := eLc_all (xs := onesO D (l.take i)) (enc := tupS) (it := iSq (eVar 1)) (sl := [4]) (g := gNm 4) (e := eCall 2 m_with_word (aCons (eVar 4) (aCons (eVar 2) aNil)))
        (σ := [some (tupS D), some (.ref h.length), some (.str l[i]), b, none]) (h := H i) (fun o => [some (tupS D), some (.ref h.length), some (.str l[i]), b, some (tupS o)]) (fun o => tupS (can (o ++ [l[i]])))
        (iSq_ref rfl (get_last _ _)) (cell_ok (get_last _ _)) (by omega) (fun _ _ => rfl) (fun o ho => (eCall_2 rfl rfl).trans (with_word_ok o l[i] (rest_props D hD l hl.symm i hi o ho) _))
      have k2 := eLc_ok (xs := (onesO D (l.take i)).map fun o => can (o ++ [l[i]])) (enc := tupS) (it := iSq (eVar 3)) (sl := [4]) (g := gNm 4) (tt := tTru (eCall 1 m_holds_none (aCons (eVar 4) aNil))) (e := eVar 4)
        (σ := [some (tupS D), some (.ref h.length), some (.str l[i]), some (.lst (((onesO D (l.take i)).map fun o => can (o ++ [l[i]])).map tupS)), none]) (h := H i)
        (fun o => [some (tupS D), some (.ref h.length), some (.str l[i]), some (.lst (((onesO D (l.take i)).map fun o => can (o ++ [l[i]])).map tupS)), some (tupS o)]) sound tupS
        (cur := fixed (((onesO D (l.take i)).map fun o => can (o ++ [l[i]])).map tupS)) (iSq_lst rfl) rfl (by simp; omega) (fun _ _ => rfl) (fun o ho => tTru_bl ((eCall_1 rfl).trans (holds_none_ok o _))) (fun _ _ _ => rfl)
      refine ⟨[some (tupS D), some (.ref h.length), some (.str l[i]), some (.lst (((onesO D (l.take i)).map fun o => can (o ++ [l[i]])).map tupS)), none], H (i + 1), ?_, rfl, _, _, rfl⟩
      show sSeq _ _ [some (tupS D), some (.ref h.length), some (.str l[i]), b, none] (H i) = _
      rw [show (onesO D (l.take i)).map (fun o => tupS (can (o ++ [l[i]]))) = ((onesO D (l.take i)).map fun o => can (o ++ [l[i]])).map tupS from by rw [List.map_map]; rfl] at k1
      rw [sSeq_nx (sSet_nx k1)]
      refine sExpr_ok (w := .non) ?_
      have hfl := List.length_filter_le sound ((onesO D (l.take i)).map fun o => can (o ++ [l[i]]))
      rw [List.length_map] at hfl
      refine (eBM_1 rfl (rcv_lst (get_last _ _)) k2).trans ((mExtend_ok (get_last _ _) (by simp only [List.length_map]; omega)).trans ?_)
      rw [set_last, ← List.map_append]
      show _ = Re.ok _ (h ++ [.lst ((onesO D (l.take (i + 1))).map tupS)])
      rw [ones_take D l i hi]
      rfl)
    ⟨by simp [H, onesO], _, _, rfl⟩
  obtain ⟨σ', h', e1, rfl, a, b, rfl⟩ := loop
  have st1 : sSet 1 (eLstH (aCons (eVar 0) aNil)) [some (tupS D), none, none, none, none] h = .ok (.nx [some (tupS D), some (.ref h.length), none, none, none]) (H 0) := by
    have : lim 1 = true := rfl
    simp [sSet, eLstH, aCons, aNil, eVar, Re.bind, this, H, onesO]
  refine fBody_ok rfl rfl ?_
  show sSeq _ _ [some (tupS D), none, none, none, none] h = _
  rw [sSeq_nx st1, sSeq_nx e1]
  show _ = Re.ok _ (h ++ [.lst ((onesO D l).map tupS)])
  refine (sRet_ok rfl).trans ?_
  simp only [H, List.take_length]
end P06
end

section
set_option Elab.async false
set_option linter.all false
set_option autoImplicit false
set_option maxRecDepth 100000
set_option maxHeartbeats 4000000
namespace P06
open PySem PySem.Spec PyProof.Rows L2 Mo
/-! data of lists -/
theorem mapM_enc {α : Type} {enc : α → W} {g : α → PyData} {f : W → Option PyData} : ∀ xs : List α, (∀ x ∈ xs, f (enc x) = some (g x)) → (xs.map enc).mapM f = some (xs.map g)
  | [], _ => rfl
  | x :: xs, h => by
    rw [List.map_cons, List.mapM_cons, h x List.mem_cons_self, mapM_enc xs fun y hy => h y (List.mem_cons_of_mem _ hy)]
    rfl
theorem layAll : ∀ ds : List PyData, (∀ d ∈ ds, d.canLay0 = true) → PyData.canLayAll0 ds = true
  | [], _ => by simp [PyData.canLayAll0]
  | d :: ds, h => by simp [PyData.canLayAll0, h d List.mem_cons_self, layAll ds fun x hx => h x (List.mem_cons_of_mem _ hx)]
theorem depAll {n : Nat} : ∀ ds : List PyData, (∀ d ∈ ds, d.depth ≤ n) → PyData.depthAll ds ≤ n
  | [], _ => by simp [PyData.depthAll]
  | d :: ds, h => by
    have := h d List.mem_cons_self
    have := depAll ds fun x hx => h x (List.mem_cons_of_mem _ hx)
    simp only [PyData.depthAll]
    omega
/-- data that may be compared, of a depth -/
def gd (n : Nat) (d : PyData) : Prop := d.canLay0 = true ∧ d.depth ≤ n
theorem gd_tup {n : Nat} {ds : List PyData} (h : ∀ d ∈ ds, gd n d) : gd (n + 1) (.tuple ds) :=
  ⟨by simp only [PyData.canLay0]; exact layAll ds fun d hd => (h d hd).1, by simp only [PyData.depth]; have := depAll (n := n) ds fun d hd => (h d hd).2; omega⟩
theorem gd_list {n : Nat} {ds : List PyData} (h : ∀ d ∈ ds, gd n d) : gd (n + 1) (.list ds) :=
  ⟨by simp only [PyData.canLay0]; exact layAll ds fun d hd => (h d hd).1, by simp only [PyData.depth]; have := depAll (n := n) ds fun d hd => (h d hd).2; omega⟩
theorem gd_str {x : Str} (h : PyData.strOk x = true) : gd 0 (.str x) := ⟨by simp [PyData.canLay0, h], by simp [PyData.depth]⟩
theorem gd_int {i : Int} : gd 0 (.int i) := ⟨by simp [PyData.canLay0], by simp [PyData.depth]⟩
theorem gd.mono {n m : Nat} {d : PyData} (h : gd n d) (l : n ≤ m) : gd m d := ⟨h.1, Nat.le_trans h.2 l⟩
theorem gd.shaped {n : Nat} {d : PyData} (h : gd n d) (l : n ≤ 64) : SeqAt.shaped d = true := by
  unfold SeqAt.shaped
  rw [h.1, Bool.true_and]
  exact decide_eq_true (Nat.le_trans h.2 l)
theorem datS_of {h : Hq} {w : W} {d : PyData} {n : Nat} (e : dat h 8 w = some d) (g : gd n d) (l : n ≤ 64) : datS h w = some d := by
  unfold datS; rw [e, Option.bind_some, if_pos (g.shaped l)]
theorem eqA_empty {α : Type} {enc : α → W} {g : α → PyData} (h : Hq) (xs : List α) (hd : ∀ x ∈ xs, dat h 7 (enc x) = some (g x)) (hg : ∀ x ∈ xs, gd 10 (g x)) : eqA false (.lst (xs.map enc)) (.lst []) h = .ok (.bl xs.isEmpty) h := by
  have e1 : datS h (.lst (xs.map enc)) = some (.list (xs.map g)) := datS_of (n := 11) (by show ((xs.map enc).mapM (dat h 7)).map PyData.list = _; rw [mapM_enc xs hd]; rfl) (gd_list fun d hd => by
    obtain ⟨x, hx, rfl⟩ := List.mem_map.mp hd
    exact hg x hx) (by decide)
  have e2 : datS h (.lst []) = some (.list []) := datS_of (n := 1) rfl (gd_list fun d hd => by cases hd) (by decide)
  unfold eqA scalW eqD
  rw [if_neg (by simp), e1, e2]
  cases xs with
  | nil => simp [PyData.eqv, PyData.eqvAll]
  | cons x xs => simp [PyData.eqv, PyData.eqvAll]
theorem dat_tupS (h : Hq) (k : Nat) (l : List Str) : dat h (k + 2) (tupS l) = some (.tuple (l.map PyData.str)) := by
  show ((l.map W.str).mapM (dat h (k + 1))).map PyData.tuple = _
  rw [mapM_enc (g := PyData.str) l fun x _ => rfl]
  rfl
theorem gd_tupS {l : List Str} (h : ∀ x ∈ l, PyData.strOk x = true) : gd 1 (.tuple (l.map PyData.str)) := gd_tup fun d hd => by
  obtain ⟨x, hx, rfl⟩ := List.mem_map.mp hd
  exact gd_str (h x hx)
theorem lots_words : ∀ l ∈ lotsT, ∀ x ∈ l, x ∈ words := by decide
/-- a drawn collection of words, as a tuple or a list -/
def Coll (y : W) (D : List Str) : Prop := y = tupS D ∨ y = .lst (D.map W.str)
theorem inA_coll {y : W} {D : List Str} (hy : Coll y D) (neg : Bool) (x : Str) (h : Hq) : inA neg (.str x) y h = .ok (.bl (if neg then !decide (x ∈ D) else decide (x ∈ D))) h := by
  rcases hy with rfl | rfl
  · exact inA_tup neg x D h
  · exact inA_lst neg x D h
theorem lots_in_ok {y : W} {D : List Str} (hy : Coll y D) (h : Hq) : m_L_law_lots_in [y] h = .ok (.lst ((lotsT.filter fun l => (l.filter fun x => !decide (x ∈ D)).isEmpty).map tupS)) h := by
  have k := eLc_ok (xs := lotsT) (enc := tupS) (it := iSq (eCall0 m_L_law_lots)) (sl := [1]) (g := gNm 1)
    (tt := tTst (eOp (eqA false) (eLc (iSq (eVar 1)) [2] (gNm 2) (tTst (eOp (inA true) (eVar 2) (eVar 0))) (eVar 2)) (eLst aNil))) (e := eVar 1) (σ := [some y, none, none]) (h := h)
    (fun l => [some y, some (tupS l), none]) (fun l => (l.filter fun x => !decide (x ∈ D)).isEmpty) tupS (cur := fixed (lotsT.map tupS)) (iSq_lst (by unfold eCall0; rw [m_lots_law]; rfl)) rfl (by decide) (fun x _ => rfl)
    (fun l hl => by
      have k2 := eLc_ok (xs := l) (enc := W.str) (it := iSq (eVar 1)) (sl := [2]) (g := gNm 2) (tt := tTst (eOp (inA true) (eVar 2) (eVar 0))) (e := eVar 2) (σ := [some y, some (tupS l), none]) (h := h)
        (fun x => [some y, some (tupS l), some (.str x)]) (fun x => !decide (x ∈ D)) W.str (cur := fixed (l.map W.str)) rfl rfl (by have := lots_small l hl; omega) (fun x _ => rfl) (fun x _ => tTst_ok (eOp_ok rfl rfl (inA_coll hy true x h))) (fun _ _ _ => rfl)
      exact tTst_ok (eOp_ok k2 rfl (eqA_empty h _ (g := PyData.str) (fun _ _ => rfl) fun x hx => (gd_str (words_ok x (lots_words l hl x (List.mem_filter.mp hx).1))).mono (by decide))))
    (fun _ _ _ => rfl)
  exact fBody_ok rfl rfl (sRet_ok k)
theorem lots_sound (D : List Str) : (lotsT.filter fun l => (l.filter fun x => !decide (x ∈ D)).isEmpty).isEmpty = sound D := by
  unfold sound
  rw [Bool.eq_iff_iff]
  simp only [List.isEmpty_iff, List.filter_eq_nil_iff, Bool.not_eq_true', List.any_eq_false, List.all_eq_true, decide_eq_true_eq, decide_eq_false_iff_not, Decidable.not_not, Bool.not_eq_false']
/-- the law's own test of a design -/
theorem lawsound_ok {y : W} {D : List Str} (hy : Coll y D) {σ : Sg} {h : Hq} {m : EM} (hm : m σ h = .ok y h) : eOp (eqA false) (eCall 1 m_L_law_lots_in (aCons m aNil)) (eLst aNil) σ h = .ok (.bl (sound D)) h := by
  refine eOp_ok ((eCall_1 hm).trans (lots_in_ok hy h)) rfl ?_
  refine (eqA_empty h _ (g := fun l => .tuple (l.map PyData.str)) (fun l hl => dat_tupS h 5 l) fun l hl => (gd_tupS fun x hx => words_ok x (lots_words l (List.mem_filter.mp hl).1 x hx)).mono (by decide)).trans ?_
  rw [lots_sound]
/-! the law's groups -/
def stepG (F : List (List Str)) (w : Str) : List (List Str) := F ++ F.map fun g => g ++ [w]
def groupsO (l : List Str) : List (List Str) := l.foldl stepG [[]]
theorem groups_len : ∀ (l : List Str) (F : List (List Str)), (l.foldl stepG F).length = F.length * 2 ^ l.length
  | [], F => by simp
  | w :: l, F => by
    rw [List.foldl_cons, groups_len l, List.length_cons, Nat.pow_succ]
    unfold stepG
    rw [List.length_append, List.length_map, ← Nat.two_mul, Nat.mul_comm 2, Nat.mul_assoc, Nat.mul_comm 2]
theorem groups_small (l : List Str) (h : l.length ≤ 12) : (groupsO l).length ≤ 4096 := by
  have := groups_len l [[]]
  have p := pow12 h
  simp only [List.length_cons, List.length_nil, Nat.zero_add, Nat.one_mul] at this
  unfold groupsO
  omega
/-- each group is a sub-list -/
theorem groups_sub : ∀ (l : List Str) (F : List (List Str)) (A : List Str), (∀ g ∈ F, g.Sublist A) → ∀ g ∈ l.foldl stepG F, g.Sublist (A ++ l)
  | [], F, A, h, g, hg => by rw [List.append_nil]; exact h g hg
  | w :: l, F, A, h, g, hg => by
    have := groups_sub l (stepG F w) (A ++ [w]) (fun g hg => by
      rcases List.mem_append.mp hg with hg | hg
      · exact (h g hg).trans (List.sublist_append_left _ _)
      · obtain ⟨q, hq, rfl⟩ := List.mem_map.mp hg
        exact (h q hq).append (List.Sublist.refl _)) g hg
    rw [List.append_assoc] at this
    exact this
theorem group_sub {l g : List Str} (h : g ∈ groupsO l) : g.Sublist l := groups_sub l [[]] [] (fun g hg => by obtain rfl := List.mem_singleton.mp hg; exact List.Sublist.refl _) g h
theorem groups_take (l : List Str) (i : Nat) (hi : i < l.length) : groupsO (l.take (i + 1)) = stepG (groupsO (l.take i)) l[i] := by
  unfold groupsO
  rw [← List.take_append_getElem hi, List.foldl_append]
  rfl
theorem groups_ok {y : W} {l : List Str} (hy : Coll y l) (hl : l.length ≤ 12) (h : Hq) : m_L_law_groups [y] h = .ok (.lst ((groupsO l).map tupS)) h := by
  have loop := sFor_ok (xs := l) (enc := W.str) (cur := fixed (l.map W.str)) (it := iSq (eVar 0)) (g := gNm 2)
    (body := sSet 1 (eOp addW (eVar 1) (eLc (iSq (eVar 1)) [3] (gNm 3) tYs (eOp addW (eVar 3) (eTup (aCons (eVar 2) aNil))))))
    (σ := [some y, some (.lst ((groupsO (l.take 0)).map tupS)), none, none]) (h := h)
    (fun i σ h' => h' = h ∧ ∃ a, σ = [some y, some (.lst ((groupsO (l.take i)).map tupS)), a, none])
    (by rcases hy with rfl | rfl <;> rfl) (fun _ _ _ _ => rfl)
    (fun i hi σ h' ⟨e, a, eσ⟩ => by
      subst e eσ
      have hsm := groups_small (l.take i) (by simp; omega)
      have k1 := eLc_all (xs := groupsO (l.take i)) (enc := tupS) (it := iSq (eVar 1)) (sl := [3]) (g := gNm 3) (e := eOp addW (eVar 3) (eTup (aCons (eVar 2) aNil)))
        (σ := [some y, some (.lst ((groupsO (l.take i)).map tupS)), some (.str l[i]), none]) (h := h') (fun g => [some y, some (.lst ((groupsO (l.take i)).map tupS)), some (.str l[i]), some (tupS g)]) (fun g => tupS (g ++ [l[i]]))
        (cur := fixed ((groupsO (l.take i)).map tupS)) (iSq_lst rfl) rfl (by omega) (fun _ _ => rfl) (fun g hg => by
          refine eOp_ok (x := tupS g) (y := .tup [.str l[i]]) rfl rfl ?_
          have h1 := (group_sub hg).length_le
          have : lim (g.length + 1) = true := lim_le (by simp at h1; omega)
          simp [addW, tupS, this])
      refine ⟨_, h', sSet_nx (w := .lst ((groupsO (l.take (i + 1))).map tupS)) (eOp_ok rfl k1 ?_), rfl, _, rfl⟩
      have h2 : lim ((groupsO (l.take i)).length + (groupsO (l.take i)).length) = true := lim_le (by omega)
      simp only [addW, List.length_map, h2, if_true]
      rw [groups_take l i hi]
      unfold stepG
      rw [List.map_append, List.map_map]
      rfl)
    ⟨rfl, _, rfl⟩
  obtain ⟨σ', h', e1, rfl, a, rfl⟩ := loop
  refine fBody_ok rfl rfl ?_
  show sSeq _ _ [some y, none, none, none] h' = _
  rw [sSeq_nx (σ1 := [some y, some (.lst ((groupsO (l.take 0)).map tupS)), none, none]) (h1 := h') (by simp [sSet, eLst, eTup, aCons, aNil, Re.bind, lim, groupsO, tupS]), sSeq_nx e1, List.take_length]
  exact sRet_ok rfl
/-! alike of the same data -/
theorem alike_str (k : Nat) (x : Str) (h : Hq) : m_L_law_alike (k + 1) [.str x, .str x] h = .ok (.bl true) h := by
  simp [nonW, m_L_law_alike, fBody, sSeq, sIf, tTru, eIsaT, eVar, Re.bind, tyW, isaL, isaB, truM, sNil, tOrM, tTst, eOp, isN, eC, eCB, aCons, aNil, cIsa, sRet, eAnd, eqA, eqS, scalW, eqW]
theorem ix_ok (ws : List W) (i j : Nat) (hi' : i < ws.length) (h : Hq) (hj : ([some (W.tup ws), some (W.tup ws), some (W.int (i : Nat))] : Sg)[j]? = some (some (.tup ws))) : eOp ixA (eVar j) (eVar 2) [some (.tup ws), some (.tup ws), some (.int (i : Nat))] h = .ok ws[i] h := by
  refine eOp_ok (x := .tup ws) (y := .int (i : Nat)) (by unfold eVar; rw [hj]) rfl ?_
  simp [ixA, dkW, ixW, itemsW, atI, ixN, hi']
theorem alike_tup (k : Nat) (ws : List W) (h : Hq) (hw : ws.length ≤ 900000) (ih : ∀ w ∈ ws, m_L_law_alike k [w, w] h = .ok (.bl true) h) : m_L_law_alike (k + 1) [.tup ws, .tup ws] h = .ok (.bl true) h := by
  have e0 : (aCons (eCB cLen (aCons (eVar 1) aNil)) aNil) [some (.tup ws), some (.tup ws), none] h = .ok [.int (ws.length : Nat)] h := by
    simp [aCons, aNil, eCB, eVar, Re.bind, cLen, lenW, itemsW]
  have lc := eLc_ok (xs := List.range ws.length) (enc := fun i => W.int (i : Nat)) (it := iRg1 (aCons (eCB cLen (aCons (eVar 1) aNil)) aNil)) (sl := [2]) (g := gNm 2)
    (tt := tNotM (tTru (eCall 2 (m_L_law_alike k) (aCons (eOp ixA (eVar 0) (eVar 2)) (aCons (eOp ixA (eVar 1) (eVar 2)) aNil))))) (e := eVar 2) (σ := [some (.tup ws), some (.tup ws), none]) (h := h)
    (fun i => [some (.tup ws), some (.tup ws), some (.int (i : Nat))]) (fun _ => false) (fun i => .int (i : Nat)) (cur := fixed ((List.range ws.length).map fun i => W.int (i : Nat)))
    (iRg1_ok e0 (by omega)) rfl (by rw [List.length_range]; exact hw) (fun _ _ => rfl)
    (fun i hi => by
      have hi' : i < ws.length := List.mem_range.mp hi
      exact tNot_ok (tTru_bl ((eCall_2 (ix_ok ws i 0 hi' h rfl) (ix_ok ws i 1 hi' h rfl)).trans (ih ws[i] (List.getElem_mem hi'))))) (fun _ _ _ => rfl)
  have fin : eOp (eqA false) (eLc (iRg1 (aCons (eCB cLen (aCons (eVar 1) aNil)) aNil)) [2] (gNm 2) (tNotM (tTru (eCall 2 (m_L_law_alike k) (aCons (eOp ixA (eVar 0) (eVar 2)) (aCons (eOp ixA (eVar 1) (eVar 2)) aNil))))) (eVar 2)) (eLst aNil) [some (.tup ws), some (.tup ws), none] h = .ok (.bl true) h := by
    refine eOp_ok lc rfl ?_
    rw [List.filter_eq_nil_iff.mpr (by simp)]
    exact eqA_empty h ([] : List Nat) (enc := fun i => W.int (i : Nat)) (g := fun _ => .none) (fun _ h => by cases h) (fun _ h => by cases h)
  refine fBody_ok rfl rfl ?_
  show sSeq _ _ [some (.tup ws), some (.tup ws), none] h = _
  have t1 : tTru (eIsaT ["tuple", "list"] (eVar 1)) [some (.tup ws), some (.tup ws), none] h = .ok true h := by simp [tTru, eIsaT, eVar, Re.bind, tyW, isaL, isaB, truM]
  have t2 : (tOrM (tNotM (tTru (eIsaT ["tuple", "list"] (eVar 0)))) (tTst (eOp (eqA true) (eCB cIsa (aCons (eVar 0) (aCons (eC (.ty "list")) aNil))) (eCB cIsa (aCons (eVar 1) (aCons (eC (.ty "list")) aNil)))))) [some (.tup ws), some (.tup ws), none] h = .ok false h := by simp [tTru, eIsaT, eVar, Re.bind, tyW, isaL, isaB, truM, tOrM, tNotM, tTst, eOp, eCB, aCons, aNil, eC, cIsa, eqA, eqS, scalW, eqW]
  have t3 : (tTst (eOp (eqA true) (eCB cLen (aCons (eVar 0) aNil)) (eCB cLen (aCons (eVar 1) aNil)))) [some (.tup ws), some (.tup ws), none] h = .ok false h := by
    simp [tTst, eOp, eCB, aCons, aNil, eVar, Re.bind, cLen, lenW, itemsW, eqA, eqS, scalW, eqW]
  refine sSeq_rt ?_
  rw [sIf_t t1, sSeq_nx (σ1 := [some (.tup ws), some (.tup ws), none]) (h1 := h) (by rw [sIf_f t2]; rfl), sSeq_nx (σ1 := [some (.tup ws), some (.tup ws), none]) (h1 := h) (by rw [sIf_f t3]; rfl)]
  exact sRet_ok fin
theorem alike_tupS (k : Nat) (l : List Str) (h : Hq) (hl : l.length ≤ 900000) : m_L_law_alike (k + 2) [tupS l, tupS l] h = .ok (.bl true) h :=
  alike_tup (k + 1) _ h (by rw [List.length_map]; exact hl) fun w hw => by
    obtain ⟨x, _, rfl⟩ := List.mem_map.mp hw
    exact alike_str k x h
end P06
end

section
set_option Elab.async false
set_option linter.all false
set_option autoImplicit false
set_option maxRecDepth 100000
set_option maxHeartbeats 4000000
namespace P06
open PySem PySem.Spec PyProof.Rows L2 Mo
theorem ws_sub {D : List Str} (s : D.Sublist words) : Ws D := ⟨words_nodup.sublist s, fun x hx => s.subset hx⟩
theorem can_sub (P : List Str) : (can P).Sublist words := List.filter_sublist
theorem is_word_ok (x : Str) (hx : x ∈ words) (h : Hq) : m_is_word [.str x] h = .ok (.bl true) h := by
  have e : eOp (inA false) (eVar 0) (eC c_WORDS) [some (.str x)] h = .ok (.bl true) h := by
    refine eOp_ok rfl rfl ((inA_tup false x words h).trans ?_)
    simp [hx]
  refine fBody_ok rfl rfl (sRet_ok ?_)
  have e1 : eCB cIsa (aCons (eVar 0) (aCons (eC (.ty "str")) aNil)) [some (.str x)] h = .ok (.bl true) h := by simp [eCB, aCons, aNil, eVar, eC, Re.bind, cIsa, tyW, isaB]
  show eAnd _ _ [some (.str x)] h = _
  unfold eAnd
  rw [e1]
  exact e
theorem words_lt : words.Pairwise fun a b => a.cps.toList < b.cps.toList := by decide +kernel
theorem zip_lt : ∀ (D : List Str), (D.Pairwise fun a b => a.cps.toList < b.cps.toList) → ∀ p ∈ D.zip (D.drop 1), p.1.cps.toList < p.2.cps.toList
  | [], _, p, hp => by simp at hp
  | [x], _, p, hp => by simp at hp
  | x :: y :: D, h, p, hp => by
    rw [List.drop_succ_cons, List.drop_zero, List.zip_cons_cons] at hp
    rcases List.mem_cons.mp hp with rfl | hp
    · exact (List.pairwise_cons.mp h).1 y List.mem_cons_self
    · exact zip_lt (y :: D) (List.pairwise_cons.mp h).2 p (by simpa using hp)
theorem is_design_ok (D : List Str) (s : D.Sublist words) (h : Hq) : m_is_design [tupS D] h = .ok (.bl true) h := by
  have hl := (ws_sub s).len
  have k1 := eLc_all (xs := D) (enc := W.str) (it := iSq (eVar 0)) (sl := [1]) (g := gNm 1) (e := eCall 1 m_is_word (aCons (eVar 1) aNil)) (σ := [some (tupS D), none, none, none]) (h := h)
    (fun x => [some (tupS D), some (.str x), none, none]) (fun _ => .bl true) (cur := fixed (D.map W.str)) rfl rfl (by omega) (fun x _ => rfl) (fun x hx => (eCall_1 rfl).trans (is_word_ok x (s.subset hx) h))
  have k2 := eLc_all (xs := D.zip (D.drop 1)) (enc := fun p => .tup [.str p.1, .str p.2]) (it := iZp (aCons (eVar 0) (aCons (eSl slT (eVar 0) (pSo (eC (.int 1))) pNo) aNil))) (sl := [2, 3]) (g := gTp 2 (gsCons (gNm 2) (gsCons (gNm 3) gsNil)))
    (e := eOp ltA (eVar 2) (eVar 3)) (σ := [some (tupS D), none, none, none]) (h := h)
    (fun p => [some (tupS D), none, some (.str p.1), some (.str p.2)]) (fun _ => .bl true) (cur := fixed ((D.zip (D.drop 1)).map fun p => .tup [.str p.1, .str p.2]))
    (by
      have z : cutW (D.map W.str) (some 1) none = (D.drop 1).map W.str := by
        unfold cutW
        rw [show (some (1 : Int)) = some ((1 : Nat) : Int) from rfl, HT.sIx_nat, HT.sIx_none]
        cases D with
        | nil => rfl
        | cons x D =>
          rw [Nat.min_eq_left (by simp), List.take_of_length_le (by simp), List.map_drop]
      simp only [iZp, aCons, aNil, eVar, eSl, eC, pSo, pNo, slT, tupS, Re.bind, List.getElem?_cons_zero, z]
      congr 2
      unfold zipW
      rw [List.zip_map, List.map_map]
      rfl) rfl (by simp; omega) (fun _ _ => rfl)
    (fun p hp => by
      refine eOp_ok (x := .str p.1) (y := .str p.2) rfl rfl ?_
      have := zip_lt D (words_lt.sublist s) p hp
      simp [ltA, ltS, this])
  refine fBody_ok rfl rfl ?_
  show sSeq _ _ [some (tupS D), none, none, none] h = _
  have t0 : tTru (eCB cIsa (aCons (eVar 0) (aCons (eC (.ty "tuple")) aNil))) [some (tupS D), none, none, none] h = .ok true h := by simp [tTru, eCB, aCons, aNil, eVar, eC, Re.bind, cIsa, tupS, tyW, isaB, truM]
  have t1 : tTru (eCB cAll (aCons (eLc (iSq (eVar 0)) [1] (gNm 1) tYs (eCall 1 m_is_word (aCons (eVar 1) aNil))) aNil)) [some (tupS D), none, none, none] h = .ok true h := by
    refine tTru_bl ((eCB_1 k1).trans ?_)
    simp [cAll, lsW, blsW_map (fun _ => true)]
  rw [sSeq_nx (σ1 := [some (tupS D), none, none, none]) (h1 := h) (by
    rw [sIf_f (tOr_ok (b := false) (c := false) (h1 := h) (tNot_ok t0) (fun _ => tNot_ok t1) (fun _ => rfl))]
    rfl)]
  refine sRet_ok ((eCB_1 k2).trans ?_)
  simp [cAll, lsW, blsW_map (fun _ => true)]
theorem require_ok (D : List Str) (s : D.Sublist words) (h : Hq) : m_require_design [tupS D] h = .ok .non h := by
  have t : (tNotM (tTru (eCall 1 m_is_design (aCons (eVar 0) aNil)))) [some (tupS D)] h = .ok false h := tNot_ok (tTru_bl ((eCall_1 rfl).trans (is_design_ok D s h)))
  refine fBody_nx (σ' := [some (tupS D)]) rfl rfl ?_
  show sIf _ _ _ [some (tupS D)] h = _
  rw [sIf_f t]
  rfl
theorem is_sound_ok (D : List Str) (s : D.Sublist words) (h : Hq) : m_is_sound [tupS D] h = .ok (.bl (sound D)) h := by
  refine fBody_ok rfl rfl ?_
  show sSeq _ _ [some (tupS D)] h = _
  rw [sSeq_nx (sExpr_ok ((eCall_1 rfl).trans (require_ok D s h)))]
  exact sRet_ok ((eCall_1 rfl).trans (holds_none_ok D h))
/-- is a sound design a greatest one -/
def grt (d : List Str) : Bool := !((words.filter fun x => !decide (x ∈ d)).any fun w => sound (d ++ [w]))
theorem ws_snoc {d : List Str} (w : Ws d) {x : Str} (hx : x ∈ words) (hn : x ∉ d) : Ws (d ++ [x]) := by
  refine ⟨List.nodup_append.mpr ⟨w.nd, by simp, fun a ha b hb e => ?_⟩, fun y hy => ?_⟩
  · obtain rfl := List.mem_singleton.mp hb
    subst e; exact hn ha
  · rcases List.mem_append.mp hy with h | h
    · exact w.mem y h
    · obtain rfl := List.mem_singleton.mp h; exact hx
theorem is_greatest_ok (d : List Str) (hd : Ws d) (h : Hq) : m_is_greatest [tupS d] h = .ok (.bl (grt d)) h := by
  have k := eLc_all (xs := words.filter fun x => !decide (x ∈ d)) (enc := W.str) (it := iSq (eCall 1 m_further_words (aCons (eVar 0) aNil))) (sl := [1]) (g := gNm 1) (e := eCall 1 m_holds_none (aCons (eCall 2 m_with_word (aCons (eVar 0) (aCons (eVar 1) aNil))) aNil)) (σ := [some (tupS d), none]) (h := h)
    (fun x => [some (tupS d), some (.str x)]) (fun x => .bl (sound (d ++ [x]))) (cur := fixed ((words.filter fun x => !decide (x ∈ d)).map W.str)) (iSq_lst ((eCall_1 rfl).trans (further_ok d h))) rfl (by have := rest_len d; omega) (fun _ _ => rfl)
    (fun x hx => by
      have hx' := List.mem_filter.mp hx
      have hw := ws_snoc hd hx'.1 (by simpa using hx'.2)
      refine (eCall_1 ((eCall_2 rfl rfl).trans (with_word_ok d x hw h))).trans ?_
      rw [holds_none_ok, sound_can])
  refine fBody_ok rfl rfl (sRet_ok (eNot_ok ((eCB_1 k).trans ?_)))
  simp [cAny, lsW, blsW_map, grt]
/-! sorted of tuples of texts -/
theorem codeW_heap (h h' : Hq) (l : List Str) : codeW h (tupS l) = codeW h' (tupS l) := by
  unfold codeW datS
  rw [dat_tupS h 6, dat_tupS h' 6]
theorem cm_str (k : Nat) (x y : Str) : (cm (k + 1) (.str x) (.str y)).isSome = true := by simp [cm]
theorem cm_int (k : Nat) (x y : Int) : (cm (k + 1) (.int x) (.int y)).isSome = true := by simp [cm]
theorem cmL_some {f : PyData → PyData → Option Ordering} : ∀ (xs ys : List PyData), (∀ x ∈ xs, ∀ y ∈ ys, (f x y).isSome = true) → (cmL f xs ys).isSome = true
  | [], [], _ => rfl
  | [], _ :: _, _ => rfl
  | _ :: _, [], _ => rfl
  | x :: xs, y :: ys, h => by
    obtain ⟨o, ho⟩ := Option.isSome_iff_exists.mp (h x List.mem_cons_self y List.mem_cons_self)
    obtain ⟨r, hr⟩ := Option.isSome_iff_exists.mp (cmL_some xs ys fun a ha b hb => h a (List.mem_cons_of_mem _ ha) b (List.mem_cons_of_mem _ hb))
    simp only [cmL, ho, hr]
    cases o <;> rfl
def dS (l : List Str) : PyData := .tuple (l.map PyData.str)
theorem cm_dS (k : Nat) (l m : List Str) : (cm (k + 2) (dS l) (dS m)).isSome = true := by
  show (cmL (cm (k + 1)) (l.map PyData.str) (m.map PyData.str)).isSome = true
  refine cmL_some _ _ fun x hx y hy => ?_
  obtain ⟨a, _, rfl⟩ := List.mem_map.mp hx
  obtain ⟨b, _, rfl⟩ := List.mem_map.mp hy
  exact cm_str k a b
theorem datS_tupS (h : Hq) (l : List Str) (hl : ∀ x ∈ l, PyData.strOk x = true) : datS h (tupS l) = some (dS l) := datS_of (dat_tupS h 6 l) (gd_tupS hl) (by decide)
theorem sortW_tups (h : Hq) (L : List (List Str)) (hL : ∀ l ∈ L, l ≠ [] ∧ ∀ x ∈ l, PyData.strOk x = true) : ∃ ys, sortW h (L.map tupS) = some ys := by
  unfold sortW
  rw [mapM_enc (g := dS) L fun l hl => datS_tupS h l (hL l hl).2, Option.bind_some, if_pos]
  · exact ⟨_, rfl⟩
  · refine Bool.or_eq_true_iff.mpr (.inr ?_)
    unfold okS
    simp only [Bool.and_eq_true, Bool.or_eq_true, List.all_eq_true, List.mem_map, forall_exists_index, and_imp, forall_apply_eq_imp_iff₂]
    refine ⟨.inl (.inr fun l hl => ?_), fun l hl => ⟨(gd_tupS (hL l hl).2).shaped (by decide), fun m hm => cm_dS 6 l m⟩⟩
    obtain ⟨x, l', rfl⟩ := List.exists_cons_of_ne_nil (hL l hl).1
    rfl
theorem sortW_props {h : Hq} {ws ys : List W} (e : sortW h ws = some ys) : ys.Perm ws ∧ ys.Pairwise fun a b => codeW h a ≤ codeW h b := by
  unfold sortW at e
  cases z : ws.mapM (datS h) with
  | none => rw [z] at e; cases e
  | some ds =>
    rw [z, Option.bind_some] at e
    by_cases hc : (decide (ds.length < 2) || okS ds) = true
    · rw [if_pos hc] at e
      simp only [Option.some.injEq] at e
      subst e
      refine ⟨List.mergeSort_perm _ _, ?_⟩
      have := List.pairwise_mergeSort (le := fun a b => decide (codeW h a ≤ codeW h b)) (fun a b c h1 h2 => decide_eq_true (List.le_trans (of_decide_eq_true h1) (of_decide_eq_true h2))) (fun a b => by
        rcases List.le_total (codeW h a) (codeW h b) with q | q
        · simp [q]
        · simp [q]) ws
      exact this.imp fun q => of_decide_eq_true q
    · rw [if_neg hc] at e; cases e
theorem sortW_heap {h h' : Hq} {L : List (List Str)} {ys zs : List W} (e : sortW h (L.map tupS) = some ys) (e' : sortW h' (L.map tupS) = some zs) : ys = zs := by
  obtain ⟨p, s⟩ := sortW_props e
  refine sortW_eq e' p (s.imp_of_mem fun {a b} ha hb hab => ?_)
  obtain ⟨x, _, rfl⟩ := List.mem_map.mp (p.mem_iff.mp ha)
  obtain ⟨y, _, rfl⟩ := List.mem_map.mp (p.mem_iff.mp hb)
  rw [codeW_heap h' h x, codeW_heap h' h y]
  exact hab
/-! the greatest sound designs above one -/
def GS (D : List Str) : List (List Str) := (onesO D (words.filter fun x => !decide (x ∈ D))).filter grt
theorem gs_mem {D : List Str} (hD : Ws D) {d : List Str} (h : d ∈ GS D) : Ws d := (ones_mem _ [D] D (fun o ho => by
  obtain rfl := List.mem_singleton.mp ho
  exact ⟨hD, fun x hx => hx⟩) d (List.mem_filter.mp h).1).1
theorem grt_ne {d : List Str} (h : grt d = true) : d ≠ [] := fun e => by
  subst e
  have : grt [] = false := by decide +kernel
  rw [this] at h; cases h
theorem gs_sorts {D : List Str} (hD : Ws D) (h : Hq) : ∃ ys, sortW h ((GS D).map tupS) = some ys := sortW_tups h _ fun l hl => ⟨grt_ne (List.mem_filter.mp hl).2, fun x hx => words_ok x ((gs_mem hD hl).mem x hx)⟩
theorem greatest_ok (D : List Str) (s : D.Sublist words) (hs : sound D = true) {ys : List W} (h0 : Hq) (hy : sortW h0 ((GS D).map tupS) = some ys) (h : Hq) : ∃ h', m_greatest_sound [tupS D] h = .ok (.tup ys) (h ++ h') := by
  have hD := ws_sub s
  let H : Hq := h ++ [.lst ((onesO D (words.filter fun x => !decide (x ∈ D))).map tupS)]
  have hsm := ones_small D (words.filter fun x => !decide (x ∈ D)) (rest_len D)
  have k := eLc_ok (xs := onesO D (words.filter fun x => !decide (x ∈ D))) (enc := tupS) (it := iSq (eCall 1 m_sound_ones_above (aCons (eVar 0) aNil))) (sl := [1]) (g := gNm 1) (tt := tTru (eCall 1 m_is_greatest (aCons (eVar 1) aNil))) (e := eVar 1) (σ := [some (tupS D), none]) (h0 := h) (h := H)
    (fun d => [some (tupS D), some (tupS d)]) grt tupS (cur := cell h.length) (iSq_ref ((eCall_1 rfl).trans (above_ok D hD h)) (get_last _ _)) (cell_ok (get_last _ _)) (by omega) (fun _ _ => rfl)
    (fun d hd => tTru_bl ((eCall_1 rfl).trans (is_greatest_ok d (ones_mem _ [D] D (fun o ho => by
      obtain rfl := List.mem_singleton.mp ho
      exact ⟨hD, fun x hx => hx⟩) d hd).1 H))) (fun _ _ _ => rfl)
  obtain ⟨zs, hz⟩ := gs_sorts hD H
  have e := sortW_heap hy hz
  subst e
  refine ⟨[.lst ((onesO D (words.filter fun x => !decide (x ∈ D))).map tupS)], fBody_ok rfl rfl ?_⟩
  show sSeq _ _ [some (tupS D), none] h = _
  rw [sSeq_nx (sExpr_ok ((eCall_1 rfl).trans (require_ok D s h)))]
  have t1 : (tNotM (tTru (eCall 1 m_holds_none (aCons (eVar 0) aNil)))) [some (tupS D), none] h = .ok false h := by
    have := tNot_ok (tTru_bl ((eCall_1 (a := eVar 0) (σ := [some (tupS D), none]) rfl).trans (holds_none_ok D h)))
    rw [hs] at this
    exact this
  rw [sSeq_nx (σ1 := [some (tupS D), none]) (h1 := h) (by rw [sIf_f t1]; rfl)]
  have e2 : eCB cSorted (aCons (eLc (iSq (eCall 1 m_sound_ones_above (aCons (eVar 0) aNil))) [1] (gNm 1) (tTru (eCall 1 m_is_greatest (aCons (eVar 1) aNil))) (eVar 1)) aNil) [some (tupS D), none] h = .ok (.lst ys) H := by
    rw [eCB_1 k]
    show (match itemsW H (W.lst ((GS D).map tupS)) with | some xs => (match sortW H xs with | some ys => Re.ok (W.lst ys) H | none => .no) | none => .no) = _
    simp only [itemsW, hz]
  exact sRet_ok ((eCB_1 e2).trans rfl)
theorem greatest_ex (D : List Str) (s : D.Sublist words) (hs : sound D = false) (h : Hq) : m_greatest_sound [tupS D] h = .ex ⟨"NotMade", none⟩ h := by
  refine fBody_ex rfl rfl ?_
  show sSeq _ _ [some (tupS D), none] h = _
  rw [sSeq_nx (sExpr_ok ((eCall_1 rfl).trans (require_ok D s h)))]
  have t1 : (tNotM (tTru (eCall 1 m_holds_none (aCons (eVar 0) aNil)))) [some (tupS D), none] h = .ok true h := by
    have := tNot_ok (tTru_bl ((eCall_1 (a := eVar 0) (σ := [some (tupS D), none]) rfl).trans (holds_none_ok D h)))
    rw [hs] at this
    exact this
  refine sSeq_ex ?_
  rw [sIf_t t1]
  rfl
/-! the law's list is the same -/
theorem ones_step (D : List Str) (w : Str) : ∀ A : List (List Str),
    (((A.filter fun g => sound (D ++ g)).map fun g => can (D ++ g)).map fun o => can (o ++ [w])).filter sound = ((A.map fun g => g ++ [w]).filter fun g => sound (D ++ g)).map fun g => can (D ++ g)
  | [] => rfl
  | g :: A => by
    have ih := ones_step D w A
    have e1 : can (can (D ++ g) ++ [w]) = can (D ++ (g ++ [w])) := by rw [can_can_app, List.append_assoc]
    rw [List.map_cons]
    cases hs : sound (D ++ g) with
    | true =>
      have f1 : (g :: A).filter (fun g => sound (D ++ g)) = g :: A.filter (fun g => sound (D ++ g)) := List.filter_cons_of_pos hs
      rw [f1, List.map_cons, List.map_cons, e1]
      cases h2 : sound (D ++ (g ++ [w])) with
      | true =>
        have f2 : ((g ++ [w]) :: A.map fun g => g ++ [w]).filter (fun g => sound (D ++ g)) = (g ++ [w]) :: (A.map fun g => g ++ [w]).filter (fun g => sound (D ++ g)) := List.filter_cons_of_pos h2
        rw [List.filter_cons_of_pos (by rw [sound_can]; exact h2), f2, List.map_cons, ih]
      | false =>
        have f2 : ((g ++ [w]) :: A.map fun g => g ++ [w]).filter (fun g => sound (D ++ g)) = (A.map fun g => g ++ [w]).filter (fun g => sound (D ++ g)) := List.filter_cons_of_neg (by rw [h2]; decide)
        rw [List.filter_cons_of_neg (by rw [sound_can, h2]; decide), f2, ih]
    | false =>
      have f1 : (g :: A).filter (fun g => sound (D ++ g)) = A.filter (fun g => sound (D ++ g)) := List.filter_cons_of_neg (by rw [hs]; decide)
      have f2 : ((g ++ [w]) :: A.map fun g => g ++ [w]).filter (fun g => sound (D ++ g)) = (A.map fun g => g ++ [w]).filter (fun g => sound (D ++ g)) := List.filter_cons_of_neg ?_
      rw [f1, f2, ih]
      intro h2
      have := sound_mono (P := D ++ g) (Q := D ++ (g ++ [w])) (fun x hx => by
        rcases List.mem_append.mp hx with h | h
        · exact List.mem_append_left _ h
        · exact List.mem_append_right _ (List.mem_append_left _ h)) h2
      rw [hs] at this
      cases this
theorem ones_groups (D : List Str) : ∀ (l : List Str) (A : List (List Str)),
    l.foldl stepO ((A.filter fun g => sound (D ++ g)).map fun g => can (D ++ g)) = ((l.foldl stepG A).filter fun g => sound (D ++ g)).map fun g => can (D ++ g)
  | [], A => rfl
  | w :: l, A => by
    rw [List.foldl_cons, List.foldl_cons, ← ones_groups D l (stepG A w)]
    congr 1
    unfold stepO stepG
    rw [List.filter_append, List.map_append, ones_step]
theorem can_self {D : List Str} (s : D.Sublist words) : can D = D := by
  have h := ws_sub s
  refine List.Perm.eq_of_pairwise (le := fun a b : Str => a.cps.toList ≤ b.cps.toList) (fun a b ha hb h1 h2 => ?_) ((words_lt.sublist (can_sub D)).imp fun h => List.le_of_lt h) ((words_lt.sublist s).imp fun h => List.le_of_lt h) ?_
  · have ha' := ((can_mem D a).mp ha).1
    have hb' := h.mem b hb
    have : ∀ a ∈ words, ∀ b ∈ words, a.cps.toList = b.cps.toList → a = b := by decide +kernel
    exact this a ha' b hb' (List.le_antisymm h1 h2)
  · refine (List.perm_ext_iff_of_nodup (can_ws D).nd h.nd).mpr fun x => ?_
    rw [can_mem]
    exact ⟨fun h => h.2, fun hx => ⟨h.mem x hx, hx⟩⟩
/-- the law's list of greatest ones -/
def lawG (D : List Str) : List (List Str) :=
  let rest := words.filter fun x => !decide (x ∈ D)
  (((groupsO rest).filter fun g => sound (D ++ g)).filter fun g => (rest.filter fun x => !decide (x ∈ g) && sound (D ++ g ++ [x])).isEmpty).map fun g => can (D ++ g)
theorem lawG_eq (D : List Str) (s : D.Sublist words) (hs : sound D = true) : lawG D = GS D := by
  unfold lawG GS onesO groupsO
  dsimp only
  have h1 := ones_groups D (words.filter fun x => !decide (x ∈ D)) [[]]
  have h2 : (([[]] : List (List Str)).filter fun g => sound (D ++ g)).map (fun g => can (D ++ g)) = [D] := by
    rw [List.filter_cons_of_pos (by rw [List.append_nil]; exact hs)]
    simp only [List.filter_nil, List.map_cons, List.map_nil, List.append_nil, can_self s]
  rw [h2] at h1
  rw [h1, List.filter_map]
  congr 1
  refine List.filter_congr fun g hg => ?_
  simp only [Function.comp, grt]
  rw [Bool.eq_iff_iff]
  simp only [List.isEmpty_iff, List.filter_eq_nil_iff, Bool.not_eq_true', List.any_eq_false, List.mem_filter, Bool.and_eq_true, decide_eq_false_iff_not, can_mem, and_imp, not_and]
  have sc : ∀ x, sound (can (D ++ g) ++ [x]) = sound (D ++ g ++ [x]) := fun x => sound_congr fun y hy => by simp [can_mem, hy, or_assoc]
  constructor
  · intro h x hx hn
    rw [sc]
    exact h x hx (fun hd => hn hx (List.mem_append_left _ hd)) (fun hgx => hn hx (List.mem_append_right _ hgx))
  · intro h x hx hd hgx
    rw [← sc]
    refine h x hx (fun _ hm => ?_)
    rcases List.mem_append.mp hm with h | h
    · exact hd h
    · exact hgx h
end P06
end

section
set_option Elab.async false
set_option linter.all false
set_option autoImplicit false
set_option maxRecDepth 100000
set_option maxHeartbeats 4000000
namespace P06
open PySem PySem.Spec PyProof.Rows L2 Mo
/-! combinations in their order -/
def combL {α : Type} : List α → Nat → List (List α)
  | _, 0 => [[]]
  | [], _ + 1 => []
  | x :: xs, r + 1 => (combL xs r).map (x :: ·) ++ combL xs (r + 1)
theorem combL_len {α : Type} : ∀ (l : List α) (r : Nat), ∀ g ∈ combL l r, g.length = r
  | [], 0, g, h => by simp [combL] at h; subst h; rfl
  | _ :: _, 0, g, h => by simp [combL] at h; subst h; rfl
  | [], r + 1, g, h => by simp [combL] at h
  | x :: xs, r + 1, g, h => by
    rw [combL] at h
    rcases List.mem_append.mp h with h | h
    · obtain ⟨q, hq, rfl⟩ := List.mem_map.mp h
      simp [combL_len xs r q hq]
    · exact combL_len xs (r + 1) g h
theorem combL_sub {α : Type} : ∀ (l : List α) (r : Nat), ∀ g ∈ combL l r, g.Sublist l
  | [], 0, g, h => by simp [combL] at h; subst h; exact List.nil_sublist _
  | _ :: _, 0, g, h => by simp [combL] at h; subst h; exact List.nil_sublist _
  | [], r + 1, g, h => by simp [combL] at h
  | x :: xs, r + 1, g, h => by
    rw [combL] at h
    rcases List.mem_append.mp h with h | h
    · obtain ⟨q, hq, rfl⟩ := List.mem_map.mp h
      exact (combL_sub xs r q hq).cons_cons x
    · exact (combL_sub xs (r + 1) g h).cons x
theorem combL_over {α : Type} (l : List α) (r : Nat) (h : l.length < r) : combL l r = [] := by
  match e : combL l r with
  | [] => rfl
  | g :: gs =>
    have hg : g ∈ combL l r := by rw [e]; exact List.mem_cons_self
    have h1 := combL_len l r g hg
    have h2 := (combL_sub l r g hg).length_le
    omega
theorem combL_full {α : Type} : ∀ (l : List α), combL l l.length = [l]
  | [] => rfl
  | x :: xs => by
    rw [List.length_cons, combL, combL_full xs, combL_over xs _ (by omega)]
    rfl
theorem combL_map {α β : Type} (f : α → β) : ∀ (l : List α) (r : Nat), combL (l.map f) r = (combL l r).map (List.map f)
  | [], 0 => rfl
  | _ :: _, 0 => rfl
  | [], r + 1 => rfl
  | x :: xs, r + 1 => by
    rw [List.map_cons, combL, combL, combL_map f xs r, combL_map f xs (r + 1), List.map_append, List.map_map, List.map_map]
    rfl
/-- itertools' order is this one -/
theorem combs_comb : ∀ n ≤ 12, ∀ r ≤ n, combs n (2 ^ n) (List.range r) = some (combL (List.range n) r) := by decide +kernel
def subs {α : Type} : List α → List (List α)
  | [] => [[]]
  | x :: xs => (subs xs).map (x :: ·) ++ subs xs
theorem flat_app {α β : Type} (f g : α → List β) : ∀ l : List α, (l.flatMap fun x => f x ++ g x).Perm (l.flatMap f ++ l.flatMap g)
  | [] => .refl _
  | x :: l => by
    simp only [List.flatMap_cons]
    have ih := flat_app f g l
    refine ((List.Perm.refl (f x ++ g x)).append ih).trans ?_
    rw [List.append_assoc, List.append_assoc]
    refine (List.Perm.refl (f x)).append ?_
    rw [← List.append_assoc, ← List.append_assoc]
    exact List.perm_append_comm.append (List.Perm.refl _)
theorem flat_map_map {α β γ : Type} (f : α → List β) (g : β → γ) (l : List α) : (l.flatMap fun x => (f x).map g) = (l.flatMap f).map g := by
  induction l with
  | nil => rfl
  | cons x l ih => rw [List.flatMap_cons, List.flatMap_cons, ih, List.map_append]
theorem range_flat {β : Type} (f : Nat → List β) (n : Nat) : (List.range (n + 1)).flatMap f = f 0 ++ (List.range n).flatMap fun r => f (r + 1) := by
  rw [List.range_succ_eq_map, List.flatMap_cons, List.flatMap_map]
theorem range_flat_last {β : Type} (f : Nat → List β) (n : Nat) : (List.range (n + 1)).flatMap f = (List.range n).flatMap f ++ f n := by
  rw [List.range_succ, List.flatMap_append]
  simp
theorem combL_subs {α : Type} : ∀ l : List α, ((List.range (l.length + 1)).flatMap (combL l)).Perm (subs l)
  | [] => .refl _
  | x :: xs => by
    have ih := combL_subs xs
    rw [List.length_cons, range_flat, subs]
    have e1 : combL (x :: xs) 0 = [[]] := rfl
    have e2 : ((List.range (xs.length + 1)).flatMap fun r => combL (x :: xs) (r + 1)) = (List.range (xs.length + 1)).flatMap fun r => (combL xs r).map (x :: ·) ++ combL xs (r + 1) := rfl
    have e3 : [[]] ++ ((List.range (xs.length + 1)).flatMap fun r => combL xs (r + 1)) = (List.range (xs.length + 1)).flatMap (combL xs) := by
      rw [range_flat_last (combL xs) xs.length]
      rw [range_flat_last (fun r => combL xs (r + 1)) xs.length, combL_over xs _ (by omega), List.append_nil]
      have := range_flat (combL xs) xs.length
      rw [range_flat_last] at this
      rw [this]
      cases xs <;> rfl
    rw [e1, e2]
    refine ((List.Perm.refl _).append (flat_app _ _ _)).trans ?_
    rw [flat_map_map]
    refine (show _ from ?_ : List.Perm ([[]] ++ (((List.range (xs.length + 1)).flatMap (combL xs)).map (x :: ·) ++ (List.range (xs.length + 1)).flatMap fun r => combL xs (r + 1))) (((List.range (xs.length + 1)).flatMap (combL xs)).map (x :: ·) ++ ([[]] ++ (List.range (xs.length + 1)).flatMap fun r => combL xs (r + 1)))).trans ?_
    · rw [← List.append_assoc, ← List.append_assoc]
      exact List.perm_append_comm.append (.refl _)
    · rw [e3]
      exact (ih.map _).append ih
theorem subs_groups : ∀ (l : List Str) (A : List (List Str)), (l.foldl stepG A).Perm (A.flatMap fun a => (subs l).map (a ++ ·))
  | [], A => by
    have : (A.flatMap fun a => (subs ([] : List Str)).map (a ++ ·)) = A := by
      simp [subs]
    rw [this]
    exact .refl _
  | w :: l, A => by
    rw [List.foldl_cons]
    refine (subs_groups l (stepG A w)).trans ?_
    unfold stepG
    rw [List.flatMap_append, List.flatMap_map]
    have e : (A.flatMap fun a => (subs (w :: l)).map (a ++ ·)) = A.flatMap fun a => (subs l).map ((a ++ [w]) ++ ·) ++ (subs l).map (a ++ ·) := by
      congr 1
      funext a
      rw [subs, List.map_append, List.map_map]
      congr 1
      refine List.map_congr_left fun g _ => ?_
      simp
    rw [e]
    exact List.perm_append_comm.trans (flat_app _ _ _).symm
theorem groups_combs (l : List Str) : ((List.range (l.length + 1)).flatMap (combL l)).Perm (groupsO l) := by
  refine (combL_subs l).trans ?_
  have := subs_groups l [[]]
  simp at this
  exact this.symm
end P06
end

section
set_option Elab.async false
set_option linter.all false
set_option autoImplicit false
set_option maxRecDepth 100000
set_option maxHeartbeats 4000000
namespace P06
open PySem PySem.Spec PyProof.Rows L2 Mo
/-! sorted of (length, group) -/
def cS : List Str → List Int
  | [] => [0]
  | x :: g => 1 :: (codeS x.cps.toList ++ cS g)
theorem codeL_strs (k : Nat) : ∀ g : List Str, codeL (code (k + 1)) (g.map PyData.str) = cS g
  | [] => rfl
  | x :: g => by
    rw [List.map_cons, codeL, codeL_strs k g]
    rfl
def encP (p : Nat × List Str) : W := .tup [.int (p.1 : Nat), tupS p.2]
def dP (p : Nat × List Str) : PyData := .tuple [.int (p.1 : Nat), dS p.2]
theorem dat_encP (h : Hq) (p : Nat × List Str) : dat h 8 (encP p) = some (dP p) := by
  show (([W.int (p.1 : Nat), tupS p.2] : List W).mapM (dat h 7)).map PyData.tuple = _
  rw [List.mapM_cons, List.mapM_cons, List.mapM_nil, dat_tupS h 5]
  rfl
theorem gd_dP {p : Nat × List Str} (hp : ∀ x ∈ p.2, PyData.strOk x = true) : gd 2 (dP p) := gd_tup fun d hd => by
  rcases List.mem_cons.mp hd with rfl | hd
  · exact gd_int.mono (by decide)
  · obtain rfl := List.mem_singleton.mp hd
    exact gd_tupS hp
theorem datS_encP (h : Hq) (p : Nat × List Str) (hp : ∀ x ∈ p.2, PyData.strOk x = true) : datS h (encP p) = some (dP p) := datS_of (dat_encP h p) (gd_dP hp) (by decide)
theorem codeW_encP (h : Hq) (p : Nat × List Str) (hp : ∀ x ∈ p.2, PyData.strOk x = true) : codeW h (encP p) = 1 :: (p.1 : Int) :: 1 :: (cS p.2 ++ [0]) := by
  unfold codeW
  rw [datS_encP h p hp]
  show codeL (code 7) [PyData.int (p.1 : Nat), dS p.2] = _
  rw [codeL, codeL, codeL]
  show 1 :: ([(p.1 : Int)] ++ 1 :: (codeL (code 6) (p.2.map PyData.str) ++ [0])) = _
  rw [codeL_strs 5]
  rfl
theorem cm_dP (p q : Nat × List Str) : (cm 8 (dP p) (dP q)).isSome = true := by
  show (cmL (cm 7) [PyData.int (p.1 : Nat), dS p.2] [PyData.int (q.1 : Nat), dS q.2]).isSome = true
  obtain ⟨o, ho⟩ := Option.isSome_iff_exists.mp (cm_int 6 (p.1 : Nat) (q.1 : Nat))
  obtain ⟨r, hr⟩ := Option.isSome_iff_exists.mp (cm_dS 5 p.2 q.2)
  simp only [cmL, ho, hr]
  cases o <;> cases r <;> rfl
theorem sortW_encP (h : Hq) (L : List (Nat × List Str)) (hL : ∀ p ∈ L, ∀ x ∈ p.2, PyData.strOk x = true) : ∃ ys, sortW h (L.map encP) = some ys := by
  unfold sortW
  rw [mapM_enc (g := dP) L fun p hp => datS_encP h p (hL p hp), Option.bind_some, if_pos]
  · exact ⟨_, rfl⟩
  · refine Bool.or_eq_true_iff.mpr (.inr ?_)
    unfold okS
    simp only [Bool.and_eq_true, Bool.or_eq_true, List.all_eq_true, List.mem_map, forall_exists_index, and_imp, forall_apply_eq_imp_iff₂]
    exact ⟨.inl (.inl (.inr fun p hp => rfl)), fun p hp => ⟨(gd_dP (hL p hp)).shaped (by decide), fun q hq => cm_dP p q⟩⟩
theorem lt_pre {a b : List Int} (h : a < b) : ∀ p : List Int, p ++ a < p ++ b
  | [] => h
  | x :: p => List.cons_lt_cons_iff.mpr (.inr ⟨rfl, lt_pre h p⟩)
theorem combL_lt : ∀ (l : List Str) (r : Nat), (l.Pairwise fun a b => a.cps.toList < b.cps.toList) → (combL l r).Pairwise fun g g' => ∀ t t', cS g ++ t < cS g' ++ t'
  | [], 0, _ => List.pairwise_singleton _ _
  | _ :: _, 0, _ => List.pairwise_singleton _ _
  | [], r + 1, _ => List.Pairwise.nil
  | x :: xs, r + 1, h => by
    obtain ⟨h1, h2⟩ := List.pairwise_cons.mp h
    rw [combL]
    refine List.pairwise_append.mpr ⟨List.pairwise_map.mpr ((combL_lt xs r h2).imp fun {a b} hab t t' => ?_), combL_lt xs (r + 1) h2, fun a ha b hb t t' => ?_⟩
    · show 1 :: (codeS x.cps.toList ++ cS a) ++ t < 1 :: (codeS x.cps.toList ++ cS b) ++ t'
      rw [List.cons_append, List.cons_append, List.append_assoc, List.append_assoc]
      exact List.cons_lt_cons_iff.mpr (.inr ⟨rfl, lt_pre (hab t t') _⟩)
    · obtain ⟨q, hq, rfl⟩ := List.mem_map.mp ha
      have hs := combL_sub xs (r + 1) b hb
      have hl := combL_len xs (r + 1) b hb
      cases b with
      | nil => cases hl
      | cons y b =>
        show 1 :: (codeS x.cps.toList ++ cS q) ++ t < 1 :: (codeS y.cps.toList ++ cS b) ++ t'
        rw [List.cons_append, List.cons_append, List.append_assoc, List.append_assoc]
        exact List.cons_lt_cons_iff.mpr (.inr ⟨rfl, codeS_lt _ _ _ _ (h1 y (hs.subset List.mem_cons_self))⟩)
def SL (D : List Str) : List (Nat × List Str) := (List.range (D.length + 1)).flatMap fun r => (combL D r).map fun g => (r, g)
theorem sl_eq (D : List Str) : SL D = ((List.range (D.length + 1)).flatMap (combL D)).map fun g => (g.length, g) := by
  unfold SL
  rw [← flat_map_map]
  congr 1
  funext r
  refine List.map_congr_left fun g hg => ?_
  rw [combL_len D r g hg]
theorem flat_pair {α β : Type} {R : β → β → Prop} (f : α → List β) : ∀ l : List α, (∀ x ∈ l, (f x).Pairwise R) → (l.Pairwise fun a b => ∀ u ∈ f a, ∀ v ∈ f b, R u v) → (l.flatMap f).Pairwise R
  | [], _, _ => List.Pairwise.nil
  | x :: l, h1, h2 => by
    obtain ⟨a, b⟩ := List.pairwise_cons.mp h2
    rw [List.flatMap_cons]
    refine List.pairwise_append.mpr ⟨h1 x List.mem_cons_self, flat_pair f l (fun y hy => h1 y (List.mem_cons_of_mem _ hy)) b, fun u hu v hv => ?_⟩
    obtain ⟨y, hy, hv⟩ := List.mem_flatMap.mp hv
    exact a y hy u hu v hv
theorem sl_sorted (D : List Str) (s : D.Sublist words) (h : Hq) : sortW h ((groupsO D).map fun g => encP (g.length, g)) = some ((SL D).map encP) := by
  have hok : ∀ p ∈ (groupsO D).map (fun g => (g.length, g)), ∀ x ∈ p.2, PyData.strOk x = true := fun p hp x hx => by
    obtain ⟨g, hg, rfl⟩ := List.mem_map.mp hp
    exact words_ok x (s.subset ((group_sub hg).subset hx))
  have hm : (groupsO D).map (fun g => encP (g.length, g)) = ((groupsO D).map fun g => (g.length, g)).map encP := by rw [List.map_map]; rfl
  have hp : (SL D).Perm ((groupsO D).map fun g => (g.length, g)) := by rw [sl_eq]; exact (groups_combs D).map _
  obtain ⟨ys, e⟩ := sortW_encP h _ hok
  rw [hm, e]
  refine congrArg some (sortW_eq e (hp.map encP) ?_).symm
  have hc : ∀ p ∈ SL D, codeW h (encP p) = 1 :: (p.1 : Int) :: 1 :: (cS p.2 ++ [0]) := fun p hq => codeW_encP h p (hok p (hp.mem_iff.mp hq))
  refine List.pairwise_map.mpr (List.Pairwise.imp_of_mem (R := fun p q => (1 :: (p.1 : Int) :: 1 :: (cS p.2 ++ [0])) < 1 :: (q.1 : Int) :: 1 :: (cS q.2 ++ [0])) (fun {a b} ha hb hab => by
    rw [hc a ha, hc b hb]; exact List.le_of_lt hab) ?_)
  unfold SL
  refine flat_pair _ _ (fun r _ => List.pairwise_map.mpr ((combL_lt D r (words_lt.sublist s)).imp fun {a b} hab => ?_)) ((List.pairwise_lt_range (n := D.length + 1)).imp fun {a b} hab u hu v hv => ?_)
  · exact List.cons_lt_cons_iff.mpr (.inr ⟨rfl, List.cons_lt_cons_iff.mpr (.inr ⟨rfl, List.cons_lt_cons_iff.mpr (.inr ⟨rfl, hab [0] [0]⟩)⟩)⟩)
  · obtain ⟨g, _, rfl⟩ := List.mem_map.mp hu
    obtain ⟨g', _, rfl⟩ := List.mem_map.mp hv
    exact List.cons_lt_cons_iff.mpr (.inr ⟨rfl, List.cons_lt_cons_iff.mpr (.inl (by show (a : Int) < (b : Int); omega))⟩)
/-! the fewest words to be given up -/
def cnd (D g : List Str) : Bool := sound (D.filter fun x => !decide (x ∈ g))
def fd (D : List Str) : List Str := ((List.range D.length).findSome? fun r => (combL D r).find? (cnd D)).getD D
theorem cnd_full (D : List Str) : cnd D D = true := by
  unfold cnd
  rw [List.filter_eq_nil_iff.mpr (by simp)]
  decide
theorem sl_find (D : List Str) : (SL D).find? (fun p => cnd D p.2) = some ((fd D).length, fd D) := by
  have hs : ∀ g ∈ (List.range (D.length + 1)).flatMap (combL D), True := fun _ _ => trivial
  rw [sl_eq, List.find?_map]
  have e : ((List.range (D.length + 1)).flatMap (combL D)).find? (cnd D) = some (fd D) := by
    rw [List.find?_flatMap, List.range_succ, List.findSome?_append]
    have e1 : ([D.length].findSome? fun r => (combL D r).find? (cnd D)) = some D := by
      simp [combL_full, cnd_full]
    rw [e1]
    unfold fd
    cases (List.range D.length).findSome? fun r => (combL D r).find? (cnd D) <;> rfl
  show Option.map _ (List.find? (cnd D) _) = _
  rw [e]
  rfl
end P06
end

section
set_option Elab.async false
set_option linter.all false
set_option autoImplicit false
set_option maxRecDepth 100000
set_option maxHeartbeats 4000000
namespace P06
open PySem PySem.Spec PyProof.Rows L2 Mo
theorem range_getD (D : List Str) : (List.range D.length).map (fun j => D.getD j "") = D := by
  refine List.ext_getElem (by simp) fun i h1 h2 => ?_
  simp at h1
  simp [h1]
theorem comb_pick (D : List Str) (r : Nat) : (combL (List.range D.length) r).map (pickW (D.map W.str)) = (combL D r).map tupS := by
  conv => rhs; rw [← range_getD D, combL_map, List.map_map]
  refine List.map_congr_left fun ix hix => ?_
  show W.tup _ = W.tup _
  congr 1
  rw [List.map_map]
  refine List.map_congr_left fun j hj => ?_
  have : j < D.length := List.mem_range.mp ((combL_sub _ _ ix hix).subset hj)
  simp [this]
theorem cnd_ok {D g : List Str} (hl : D.length ≤ 12) {σ : Sg} {i j k : Nat} {h : Hq} (hi : σ[i]? = some (some (tupS D))) (hk : k < σ.length) (hik : i ≠ k) (hjk : j ≠ k) (hj : σ[j]? = some (some (tupS g))) :
    eLc (iSq (eVar i)) [k] (gNm k) (tTst (eOp (inA true) (eVar k) (eVar j))) (eVar k) σ h = .ok (.lst ((D.filter fun x => !decide (x ∈ g)).map W.str)) h := by
  have lk : ∀ x : Str, ((σ.set k none).set k (some (.str x)))[k]? = some (some (.str x)) := fun x => by simp [hk]
  have lj : ∀ x : Str, ((σ.set k none).set k (some (.str x)))[j]? = some (some (tupS g)) := fun x => by
    rw [List.getElem?_set_ne (Ne.symm hjk), List.getElem?_set_ne (Ne.symm hjk), hj]
  exact eLc_ok (xs := D) (enc := W.str) (it := iSq (eVar i)) (sl := [k]) (g := gNm k) (tt := tTst (eOp (inA true) (eVar k) (eVar j))) (e := eVar k) (σ := σ) (h0 := h) (h := h)
    (fun x => (σ.set k none).set k (some (.str x))) (fun x => !decide (x ∈ g)) W.str (cur := fixed (D.map W.str)) (iSq_tup (by unfold eVar; rw [hi]; rfl)) rfl (by omega) (fun x _ => rfl)
    (fun x _ => tTst_ok (eOp_ok (x := .str x) (y := tupS g) (by unfold eVar; rw [lk]) (by unfold eVar; rw [lj]) (inA_tup true x g h))) (fun x _ _ => by unfold eVar; rw [lk])
theorem iCb_ok {D : List Str} (hl : D.length ≤ 12) {r : Nat} (hr : r < D.length) {am : AM} {σ : Sg} {h : Hq} (e : am σ h = .ok [.lst (D.map W.str), .int (r : Nat)] h) : iCb am σ h = .ok (fun _ => some ((combL D r).map tupS)) h := by
  have hc := combs_comb D.length hl r (by omega)
  unfold iCb
  rw [e]
  simp only [Re.bind, itemsW, List.length_map, Int.toNat_natCast, hc]
  rw [if_pos, comb_pick]
  simp only [Bool.and_eq_true, decide_eq_true_eq]
  omega
theorem fewest_ok (D : List Str) (s : D.Sublist words) (h : Hq) : m_fewest_drops [tupS D] h = .ok (tupS (fd D)) h := by
  have hl := (ws_sub s).len
  let J : Sg → Prop := fun σ => ∃ a b c : Option W, σ = [some (tupS D), some (.lst (D.map W.str)), a, b, c]
  have inner : ∀ r < D.length, ∀ a b c : Option W, ∃ σ', sFor (iCb (aCons (eVar 1) (aCons (eVar 2) aNil))) (gNm 3) (sIf (tTru (eCall 1 m_holds_none (aCons (eCB cTuple (aCons (eLc (iSq (eVar 0)) [4] (gNm 4) (tTst (eOp (inA true) (eVar 4) (eVar 3))) (eVar 4)) aNil)) aNil))) (sRet (eVar 3)) sNil) [some (tupS D), some (.lst (D.map W.str)), some (.int (r : Nat)), b, c] h
      = .ok (match (combL D r).findSome? (fun g => if cnd D g = true then some (tupS g) else none) with | some r => .rt r | none => .nx σ') h ∧ ∃ b c : Option W, σ' = [some (tupS D), some (.lst (D.map W.str)), some (.int (r : Nat)), b, c] := fun r hr a b c => by
    refine sFor_find (xs := combL D r) (enc := tupS) (cur := fun _ => some ((combL D r).map tupS)) (fun σ => ∃ b c : Option W, σ = [some (tupS D), some (.lst (D.map W.str)), some (.int (r : Nat)), b, c]) (fun g => if cnd D g = true then some (tupS g) else none)
      (iCb_ok hl hr rfl) rfl (fun g hg σ hσ => ?_) ⟨b, c, rfl⟩
    obtain ⟨b, c, rfl⟩ := hσ
    refine ⟨[some (tupS D), some (.lst (D.map W.str)), some (.int (r : Nat)), some (tupS g), c], ?_, _, _, rfl⟩
    show sIf _ _ _ [some (tupS D), some (.lst (D.map W.str)), some (.int (r : Nat)), some (tupS g), c] h = _
    have t := cnd_ok (g := g) hl (σ := [some (tupS D), some (.lst (D.map W.str)), some (.int (r : Nat)), some (tupS g), c]) (i := 0) (j := 3) (k := 4) (h := h) rfl (by simp) (by decide) (by decide) rfl
    have t2 : tTru (eCall 1 m_holds_none (aCons (eCB cTuple (aCons (eLc (iSq (eVar 0)) [4] (gNm 4) (tTst (eOp (inA true) (eVar 4) (eVar 3))) (eVar 4)) aNil)) aNil)) [some (tupS D), some (.lst (D.map W.str)), some (.int (r : Nat)), some (tupS g), c] h = .ok (cnd D g) h :=
      tTru_bl ((eCall_1 ((eCB_1 t).trans rfl)).trans (holds_none_ok _ h))
    rw [sIf_b t2]
    cases cnd D g <;> rfl
  have e0 : (aCons (eCB cLen (aCons (eVar 1) aNil)) aNil) [some (tupS D), some (.lst (D.map W.str)), none, none, none] h = .ok [.int (D.length : Nat)] h := by
    simp [aCons, aNil, eCB, eVar, Re.bind, cLen, lenW, itemsW]
  obtain ⟨σ', e1, _⟩ := sFor_find (xs := List.range D.length) (enc := fun i => W.int (i : Nat)) (cur := fixed ((List.range D.length).map fun i => W.int (i : Nat))) (it := iRg1 (aCons (eCB cLen (aCons (eVar 1) aNil)) aNil)) (g := gNm 2)
    (body := sFor (iCb (aCons (eVar 1) (aCons (eVar 2) aNil))) (gNm 3) (sIf (tTru (eCall 1 m_holds_none (aCons (eCB cTuple (aCons (eLc (iSq (eVar 0)) [4] (gNm 4) (tTst (eOp (inA true) (eVar 4) (eVar 3))) (eVar 4)) aNil)) aNil))) (sRet (eVar 3)) sNil))
    (σ := [some (tupS D), some (.lst (D.map W.str)), none, none, none]) (h := h) J (fun r => (combL D r).findSome? fun g => if cnd D g = true then some (tupS g) else none) (iRg1_ok e0 (by omega)) rfl
    (fun r hr σ ⟨a, b, c, e⟩ => by
      subst e
      obtain ⟨σ', e2, b', c', e3⟩ := inner r (List.mem_range.mp hr) a b c
      exact ⟨σ', e2, _, _, _, e3⟩) ⟨_, _, _, rfl⟩
  have e4 : ((List.range D.length).findSome? fun r => (combL D r).findSome? fun g => if cnd D g = true then some (tupS g) else none) = ((List.range D.length).findSome? fun r => (combL D r).find? (cnd D)).map tupS := by
    have : ∀ L : List (List Str), (L.findSome? fun g => if cnd D g = true then some (tupS g) else none) = (L.find? (cnd D)).map tupS := by
      intro L
      induction L with
      | nil => rfl
      | cons g L ih =>
        rw [List.findSome?_cons, List.find?_cons]
        cases cnd D g with
        | true => rfl
        | false => simpa using ih
    simp only [this]
    induction List.range D.length with
    | nil => rfl
    | cons r L ih =>
      rw [List.findSome?_cons, List.findSome?_cons]
      cases (combL D r).find? (cnd D) with
      | some g => rfl
      | none => exact ih
  rw [e4] at e1
  refine fBody_ok rfl rfl ?_
  show sSeq _ _ [some (tupS D), none, none, none, none] h = _
  rw [sSeq_nx (sExpr_ok ((eCall_1 rfl).trans (require_ok D s h)))]
  have st : sSet 1 (eCB cList (aCons (eVar 0) aNil)) [some (tupS D), none, none, none, none] h = .ok (.nx [some (tupS D), some (.lst (D.map W.str)), none, none, none]) h := by
    simp [sSet, eCB, aCons, aNil, eVar, Re.bind, cList, listW, dkW, tupS, itemsW]
  rw [sSeq_nx st]
  unfold fd
  cases hq : (List.range D.length).findSome? fun r => (combL D r).find? (cnd D) with
  | some g =>
    rw [hq] at e1
    exact sSeq_rt e1
  | none =>
    rw [hq] at e1
    rw [sSeq_nx e1]
    rename_i hJ
    obtain ⟨a, b, c, rfl⟩ := hJ
    exact sRet_ok rfl
end P06
end

section
set_option maxRecDepth 100000
set_option maxHeartbeats 4000000
namespace P06
open PySem PySem.Spec PyProof.Rows L2 Mo
def lotsN : List (List Nat) := [[0, 3], [0, 4, 9], [0, 6], [0, 10], [0, 11], [1, 2], [1, 4, 9], [1, 6], [1, 10], [1, 11], [4, 7, 9], [5, 7], [6, 7], [7, 8], [7, 10], [7, 11]]
def wN (i : Nat) : Str := words.getD i ""
theorem lotsN_eq : lotsN.map (List.map wN) = lotsT := by decide +kernel
theorem words_range : (List.range 12).map wN = words := by decide +kernel
theorem wN_inj : ∀ i < 12, ∀ j < 12, wN i = wN j → i = j := by decide +kernel
theorem mem_wN {g : List Nat} (hg : ∀ i ∈ g, i < 12) {x : Nat} (hx : x < 12) : decide (wN x ∈ g.map wN) = g.elem x := by
  rw [Bool.eq_iff_iff, decide_eq_true_eq, List.elem_iff, List.mem_map]
  exact ⟨fun ⟨i, hi, e⟩ => by rw [← wN_inj i (hg i hi) x hx e]; exact hi, fun h => ⟨x, h, rfl⟩⟩
def soundN (g : List Nat) : Bool := !(lotsN.any fun l => l.all fun x => g.elem x)
theorem sound_wN {g : List Nat} (hg : ∀ i ∈ g, i < 12) : sound (g.map wN) = soundN g := by
  unfold sound soundN
  rw [← lotsN_eq, List.any_map]
  have hl : ∀ l ∈ lotsN, ∀ x ∈ l, x < 12 := by decide
  congr 1
  rw [Bool.eq_iff_iff, List.any_eq_true, List.any_eq_true]
  have : ∀ l ∈ lotsN, ((fun l => l.all fun x => decide (x ∈ g.map wN)) ∘ List.map wN) l = l.all fun x => g.elem x := fun l h => by
    simp only [Function.comp, List.all_map]
    rw [Bool.eq_iff_iff, List.all_eq_true, List.all_eq_true]
    exact ⟨fun q x hx => by rw [← mem_wN hg (hl l h x hx)]; exact q x hx, fun q x hx => by simp only [Function.comp]; rw [mem_wN hg (hl l h x hx)]; exact q x hx⟩
  exact ⟨fun ⟨l, h, e⟩ => ⟨l, h, by rw [← this l h]; exact e⟩, fun ⟨l, h, e⟩ => ⟨l, h, by rw [this l h]; exact e⟩⟩
def stepN (F : List (List Nat)) (w : Nat) : List (List Nat) := F ++ F.map fun g => g ++ [w]
theorem groups_wN : ∀ (l : List Nat) (A : List (List Nat)), (l.map wN).foldl stepG (A.map (List.map wN)) = (l.foldl stepN A).map (List.map wN)
  | [], A => rfl
  | w :: l, A => by
    rw [List.map_cons, List.foldl_cons, List.foldl_cons, ← groups_wN l (stepN A w)]
    congr 1
    unfold stepG stepN
    rw [List.map_append, List.map_map, List.map_map]
    congr 1
    refine List.map_congr_left fun g _ => ?_
    simp
theorem groupsN_lt : ∀ (l : List Nat) (A : List (List Nat)), (∀ g ∈ A, ∀ i ∈ g, i < 12) → (∀ i ∈ l, i < 12) → ∀ g ∈ l.foldl stepN A, ∀ i ∈ g, i < 12
  | [], A, h, _ => h
  | w :: l, A, h, hl => groupsN_lt l (stepN A w) (fun g hg => by
    rcases List.mem_append.mp hg with hg | hg
    · exact h g hg
    · obtain ⟨q, hq, rfl⟩ := List.mem_map.mp hg
      intro i hi
      rcases List.mem_append.mp hi with hi | hi
      · exact h q hq i hi
      · obtain rfl := List.mem_singleton.mp hi; exact hl _ List.mem_cons_self) fun i hi => hl i (List.mem_cons_of_mem _ hi)
def all12 : List (List Nat) := (List.range 12).foldl stepN [[]]
theorem cnt15 : ((all12.filter soundN).filter fun g => ((List.range 12).filter fun x => !g.elem x && soundN (g ++ [x])).isEmpty).length = 15 := by decide +kernel
theorem gs15 : (GS []).length = 15 := by
  rw [← lawG_eq [] (List.nil_sublist _) (by decide)]
  unfold lawG groupsO
  dsimp only
  have e1 : (words.filter fun x => !decide (x ∈ ([] : List Str))) = words := List.filter_eq_self.mpr (by simp)
  rw [e1, List.length_map]
  have e2 : words.foldl stepG [[]] = all12.map (List.map wN) := by
    have := groups_wN (List.range 12) [[]]
    rw [words_range] at this
    exact this
  rw [e2, List.filter_map, List.filter_map, List.length_map]
  have hlt : ∀ g ∈ all12, ∀ i ∈ g, i < 12 := groupsN_lt _ [[]] (fun g hg i hi => by obtain rfl := List.mem_singleton.mp hg; cases hi) fun i hi => List.mem_range.mp hi
  have f1 : all12.filter ((fun g => sound ([] ++ g)) ∘ List.map wN) = all12.filter soundN := List.filter_congr fun g hg => by
    simp only [Function.comp, List.nil_append]
    exact sound_wN (hlt g hg)
  rw [f1]
  refine Eq.trans (congrArg List.length (List.filter_congr fun g hg => ?_)) cnt15
  have hg' := hlt g (List.mem_filter.mp hg).1
  simp only [Function.comp, List.nil_append]
  rw [← words_range, List.filter_map, List.isEmpty_map]
  congr 1
  refine List.filter_congr fun x hx => ?_
  have hx' := List.mem_range.mp hx
  simp only [Function.comp]
  rw [mem_wN hg' hx', ← sound_wN (g := g ++ [x]) (fun i hi => by
    rcases List.mem_append.mp hi with hi | hi
    · exact hg' i hi
    · obtain rfl := List.mem_singleton.mp hi; exact hx'), List.map_append]
  rfl
end P06
end

section
set_option Elab.async false
set_option linter.all false
set_option autoImplicit false
set_option maxRecDepth 100000
set_option maxHeartbeats 4000000
namespace P06
open PySem PySem.Spec PyProof.Rows L2 Mo
def bA : SM := (sSeq (sSet 5 (eLc (iSq (eCall0 m_L_law_words)) [11] (gNm 11) (tTst (eOp (inA true) (eVar 11) (eVar 4))) (eVar 11)))
    (sSeq (sSet 6 (eLc (iSq (eCall 1 m_L_law_groups (aCons (eVar 5) aNil))) [8] (gNm 8) (tTst (eOp (eqA false) (eCall 1 m_L_law_lots_in (aCons (eOp addW (eVar 4) (eVar 8)) aNil)) (eLst aNil))) (eVar 8)))
    (sSeq (sSet 7 (eLstH aNil))
    (sSeq (sFor (iSq (eVar 6)) (gNm 8) (sIf (tTst (eOp (eqA false) (eLc (iSq (eVar 5)) [11] (gNm 11) (tAndM (tTst (eOp (inA true) (eVar 11) (eVar 8))) (tTst (eOp (eqA false) (eCall 1 m_L_law_lots_in (aCons (eOp addW (eOp addW (eVar 4) (eVar 8)) (eTup (aCons (eVar 11) aNil))) aNil)) (eLst aNil)))) (eVar 11)) (eLst aNil))) (sExpr (eBM "list" mAppend (eVar 7) (aCons (eCB cTuple (aCons (eCB cSorted (aCons (eOp addW (eVar 4) (eVar 8)) aNil)) aNil)) aNil))) sNil))
    (sIf (tNotM (tTru (eCall 2 (m_L_law_alike 8) (aCons (eCall 1 m_greatest_sound (aCons (eVar 4) aNil)) (aCons (eCB cTuple (aCons (eCB cSorted (aCons (eVar 7) aNil)) aNil)) aNil))))) (sRet (eC (.bl false))) sNil)))))
def bB : SM := (sSeq (sIf (tOrM (tTst (eOp (eqA true) (eCall 1 m_is_sound (aCons (eVar 3) aNil)) (eOp (eqA false) (eCall 1 m_L_law_lots_in (aCons (eVar 3) aNil)) (eLst aNil)))) (tAndM (tNotM (tTru (eCall 1 m_is_sound (aCons (eVar 3) aNil)))) (tNotM (tTru (eNM tbl_L_law_not_made (eCall 1 m_greatest_sound (aCons (eVar 3) aNil))))))) (sRet (eC (.bl false))) sNil)
    (sSeq (sSet 9 (eC .non))
    (sSeq (sFor (iSq (eCB cSorted (aCons (eLc (iSq (eCall 1 m_L_law_groups (aCons (eVar 3) aNil))) [8] (gNm 8) tYs (eTup (aCons (eCB cLen (aCons (eVar 8) aNil)) (aCons (eVar 8) aNil)))) aNil))) (gTp 2 (gsCons (gNm 10) (gsCons (gNm 8) gsNil))) (sIf (tAndM (tTst (eOp (isN false) (eVar 9) (eC .non))) (tTst (eOp (eqA false) (eCall 1 m_L_law_lots_in (aCons (eLc (iSq (eVar 3)) [11] (gNm 11) (tTst (eOp (inA true) (eVar 11) (eVar 8))) (eVar 11)) aNil)) (eLst aNil)))) (sSet 9 (eVar 8)) sNil))
    (sRet (eAnd (eCall 2 (m_L_law_alike 8) (aCons (eCall 1 m_fewest_drops (aCons (eVar 3) aNil)) (aCons (eVar 9) aNil))) (eOr (eOp (cmpI fun i j => decide (j < i)) (eCB cLen (aCons (eVar 4) aNil)) (eC (.int 0))) (eOp (eqA false) (eCB cLen (aCons (eCall 1 m_greatest_sound (aCons (eTup aNil) aNil)) aNil)) (eC (.int 15)))))))))
theorem addW_tupS (D g : List Str) (h : Hq) (hl : D.length + g.length ≤ 1000000) : addW (tupS D) (tupS g) h = .ok (tupS (D ++ g)) h := by
  simp [addW, tupS, lim_le hl]
/-- the group's next part, which is a greatest sound one -/
def P2 (D g : List Str) : Bool := ((words.filter fun x => !decide (x ∈ D)).filter fun x => !decide (x ∈ g) && sound (D ++ g ++ [x])).isEmpty
theorem bA_ok (D : List Str) (s : D.Sublist words) (hs : sound D = true) (a0 a1 a2 a3 : Option W) (h : Hq) :
    ∃ b5 b6 b7 b8 h', bA [a0, a1, a2, a3, some (tupS D), none, none, none, none, none, none, none] h = .ok (.nx [a0, a1, a2, a3, some (tupS D), b5, b6, b7, b8, none, none, none]) h' := by
  have hD := ws_sub s
  have hDl := hD.len
  generalize hR : (words.filter fun x => !decide (x ∈ D)) = R
  have hRl : R.length ≤ 12 := by rw [← hR]; exact rest_len D
  have hRs : R.Sublist words := by rw [← hR]; exact List.filter_sublist
  have hRn : ∀ x ∈ R, x ∉ D := fun x hx => by
    rw [← hR] at hx
    simpa using (List.mem_filter.mp hx).2
  have hgw : ∀ g ∈ groupsO R, Ws (D ++ g) := fun g hg => by
    have hgs := group_sub hg
    refine ⟨List.nodup_append.mpr ⟨hD.nd, (ws_sub (hgs.trans hRs)).nd, fun a ha b hb e => ?_⟩, fun x hx => ?_⟩
    · subst e
      exact hRn a (hgs.subset hb) ha
    · rcases List.mem_append.mp hx with h | h
      · exact hD.mem x h
      · exact hRs.subset (hgs.subset h)
  -- rest
  have k5 := eLc_ok (xs := words) (enc := W.str) (it := iSq (eCall0 m_L_law_words)) (sl := [11]) (g := gNm 11) (tt := tTst (eOp (inA true) (eVar 11) (eVar 4))) (e := eVar 11) (σ := [a0, a1, a2, a3, some (tupS D), none, none, none, none, none, none, none]) (h0 := h) (h := h)
    (fun x => [a0, a1, a2, a3, some (tupS D), none, none, none, none, none, none, some (.str x)]) (fun x => !decide (x ∈ D)) W.str (cur := fixed (words.map W.str)) (iSq_lst (by unfold eCall0; rw [m_words]; rfl)) rfl (by decide) (fun x _ => rfl)
    (fun x _ => tTst_ok (eOp_ok rfl rfl (inA_tup true x D h))) (fun x _ _ => rfl)
  rw [hR] at k5
  -- sound
  have hgl := groups_small R hRl
  have k6 := eLc_ok (xs := groupsO R) (enc := tupS) (it := iSq (eCall 1 m_L_law_groups (aCons (eVar 5) aNil))) (sl := [8]) (g := gNm 8) (tt := tTst (eOp (eqA false) (eCall 1 m_L_law_lots_in (aCons (eOp addW (eVar 4) (eVar 8)) aNil)) (eLst aNil))) (e := eVar 8)
    (σ := [a0, a1, a2, a3, some (tupS D), some (.lst (R.map W.str)), none, none, none, none, none, none]) (h0 := h) (h := h)
    (fun g => [a0, a1, a2, a3, some (tupS D), some (.lst (R.map W.str)), none, none, some (tupS g), none, none, none]) (fun g => sound (D ++ g)) tupS (cur := fixed ((groupsO R).map tupS)) (iSq_lst ((eCall_1 rfl).trans (groups_ok (.inr rfl) hRl h))) rfl (by omega) (fun _ _ => rfl)
    (fun g hg => tTst_ok (lawsound_ok (.inl rfl) (eOp_ok rfl rfl (addW_tupS D g h (by have := (group_sub hg).length_le; omega))))) (fun _ _ _ => rfl)
  generalize hG : (groupsO R).filter (fun g => sound (D ++ g)) = G at k6
  have hGm : ∀ g ∈ G, g ∈ groupsO R := fun g hg => by rw [← hG] at hg; exact (List.mem_filter.mp hg).1
  have hGl : G.length ≤ 4096 := by rw [← hG]; exact Nat.le_trans (List.length_filter_le _ _) hgl
  let Q : List Str → Bool := fun g => (R.filter fun x => !decide (x ∈ g) && sound (D ++ g ++ [x])).isEmpty
  let H : Nat → Hq := fun i => h ++ [.lst ((((G.take i).filter Q).map fun g => can (D ++ g)).map tupS)]
  -- due
  have loop := sFor_ok (xs := G) (enc := tupS) (cur := fixed (G.map tupS)) (it := iSq (eVar 6)) (g := gNm 8)
    (body := sIf (tTst (eOp (eqA false) (eLc (iSq (eVar 5)) [11] (gNm 11) (tAndM (tTst (eOp (inA true) (eVar 11) (eVar 8))) (tTst (eOp (eqA false) (eCall 1 m_L_law_lots_in (aCons (eOp addW (eOp addW (eVar 4) (eVar 8)) (eTup (aCons (eVar 11) aNil))) aNil)) (eLst aNil)))) (eVar 11)) (eLst aNil))) (sExpr (eBM "list" mAppend (eVar 7) (aCons (eCB cTuple (aCons (eCB cSorted (aCons (eOp addW (eVar 4) (eVar 8)) aNil)) aNil)) aNil))) sNil)
    (σ := [a0, a1, a2, a3, some (tupS D), some (.lst (R.map W.str)), some (.lst (G.map tupS)), some (.ref h.length), none, none, none, none]) (h00 := H 0) (h := H 0)
    (fun i σ h' => h' = H i ∧ ∃ b8, σ = [a0, a1, a2, a3, some (tupS D), some (.lst (R.map W.str)), some (.lst (G.map tupS)), some (.ref h.length), b8, none, none, none])
    (iSq_lst rfl) (fun _ _ _ _ => rfl)
    (fun i hi σ h' ⟨e, b8, eσ⟩ => by
      subst e eσ
      have hg := hGm G[i] (List.getElem_mem hi)
      have hgl := (group_sub hg).length_le
      have kq := eLc_ok (xs := R) (enc := W.str) (it := iSq (eVar 5)) (sl := [11]) (g := gNm 11) (tt := (tAndM (tTst (eOp (inA true) (eVar 11) (eVar 8))) (tTst (eOp (eqA false) (eCall 1 m_L_law_lots_in (aCons (eOp addW (eOp addW (eVar 4) (eVar 8)) (eTup (aCons (eVar 11) aNil))) aNil)) (eLst aNil))))) (e := eVar 11)
        (σ := [a0, a1, a2, a3, some (tupS D), some (.lst (R.map W.str)), some (.lst (G.map tupS)), some (.ref h.length), some (tupS G[i]), none, none, none]) (h0 := H i) (h := H i)
        (fun x => [a0, a1, a2, a3, some (tupS D), some (.lst (R.map W.str)), some (.lst (G.map tupS)), some (.ref h.length), some (tupS G[i]), none, none, some (.str x)]) (fun x => !decide (x ∈ G[i]) && sound (D ++ G[i] ++ [x])) W.str (cur := fixed (R.map W.str))
        (iSq_lst rfl) rfl (by omega) (fun _ _ => rfl)
        (fun x hx => tAnd_ok (tTst_ok (eOp_ok rfl rfl (inA_tup true x G[i] _))) (fun _ => tTst_ok (lawsound_ok (.inl rfl) (eOp_ok (eOp_ok rfl rfl (addW_tupS D G[i] _ (by omega))) (rfl : _ = Re.ok (tupS [x]) _) (addW_tupS _ [x] _ (by simp; omega))))) (fun _ => rfl)) (fun _ _ _ => rfl)
      have t : (tTst (eOp (eqA false) (eLc (iSq (eVar 5)) [11] (gNm 11) (tAndM (tTst (eOp (inA true) (eVar 11) (eVar 8))) (tTst (eOp (eqA false) (eCall 1 m_L_law_lots_in (aCons (eOp addW (eOp addW (eVar 4) (eVar 8)) (eTup (aCons (eVar 11) aNil))) aNil)) (eLst aNil)))) (eVar 11)) (eLst aNil))) [a0, a1, a2, a3, some (tupS D), some (.lst (R.map W.str)), some (.lst (G.map tupS)), some (.ref h.length), some (tupS G[i]), none, none, none] (H i) = .ok (Q G[i]) (H i) :=
        tTst_ok (eOp_ok kq rfl (eqA_empty (H i) _ (g := PyData.str) (fun _ _ => rfl) fun x hx => (gd_str (words_ok x (hRs.subset (List.mem_filter.mp hx).1))).mono (by decide)))
      refine ⟨[a0, a1, a2, a3, some (tupS D), some (.lst (R.map W.str)), some (.lst (G.map tupS)), some (.ref h.length), some (tupS G[i]), none, none, none], H (i + 1), ?_, rfl, _, rfl⟩
      show sIf _ _ _ [a0, a1, a2, a3, some (tupS D), some (.lst (R.map W.str)), some (.lst (G.map tupS)), some (.ref h.length), some (tupS G[i]), none, none, none] (H i) = _
      have ht : G.take (i + 1) = G.take i ++ [G[i]] := (List.take_append_getElem hi).symm
      rw [sIf_b t]
      cases hQ : Q G[i] with
      | false =>
        have : H (i + 1) = H i := by
          show h ++ [_] = h ++ [_]
          rw [ht, List.filter_append]
          have : [G[i]].filter Q = [] := by rw [List.filter_cons_of_neg (by rw [hQ]; decide)]; rfl
          rw [this, List.append_nil]
        rw [this]
        rfl
      | true =>
        rw [if_pos rfl]
        refine sExpr_ok (w := .non) ?_
        have hw := hgw G[i] hg
        have st := sort_found (H i) (D ++ G[i]) hw.nd hw.mem
        have e1 : eCB cSorted (aCons (eOp addW (eVar 4) (eVar 8)) aNil) [a0, a1, a2, a3, some (tupS D), some (.lst (R.map W.str)), some (.lst (G.map tupS)), some (.ref h.length), some (tupS G[i]), none, none, none] (H i) = .ok (.lst ((can (D ++ G[i])).map W.str)) (H i) := by
          refine (eCB_1 (eOp_ok rfl rfl (addW_tupS D G[i] _ (by omega)))).trans ?_
          simp only [cSorted, tupS, itemsW, st]
          rfl
        refine (eBM_1 (u := tupS (can (D ++ G[i]))) rfl (rcv_lst (get_last _ _)) ((eCB_1 e1).trans rfl)).trans ((mAppend_ok (get_last _ _) ?_).trans ?_)
        · simp only [List.length_map]
          have := List.length_filter_le Q (G.take i)
          simp at this
          omega
        · rw [set_last]
          show _ = Re.ok _ (h ++ [_])
          rw [ht, List.filter_append, List.filter_cons_of_pos hQ]
          simp)
    ⟨rfl, _, rfl⟩
  obtain ⟨σ', h', e1, rfl, b8, rfl⟩ := loop
  have hlaw : ((G.filter Q).map fun g => can (D ++ g)) = GS D := by
    rw [← lawG_eq D s hs]
    unfold lawG
    dsimp only
    rw [hR, hG]
  have hH : H G.length = h ++ [.lst ((GS D).map tupS)] := by
    show h ++ [_] = _
    rw [List.take_length, hlaw]
  rw [hH] at e1
  obtain ⟨ys, hys⟩ := gs_sorts hD []
  obtain ⟨hx, eg⟩ := greatest_ok D s hs [] hys (h ++ [.lst ((GS D).map tupS)])
  refine ⟨some (.lst (R.map W.str)), some (.lst (G.map tupS)), some (.ref h.length), b8, (h ++ [.lst ((GS D).map tupS)]) ++ hx, ?_⟩
  unfold bA
  rw [sSeq_nx (sSet_nx k5)]
  show sSeq _ _ [a0, a1, a2, a3, some (tupS D), some (.lst (R.map W.str)), none, none, none, none, none, none] h = _
  rw [sSeq_nx (sSet_nx k6)]
  show sSeq _ _ [a0, a1, a2, a3, some (tupS D), some (.lst (R.map W.str)), some (.lst (G.map tupS)), none, none, none, none, none] h = _
  rw [sSeq_nx (σ1 := [a0, a1, a2, a3, some (tupS D), some (.lst (R.map W.str)), some (.lst (G.map tupS)), some (.ref h.length), none, none, none, none]) (h1 := H 0) (by
    have : lim 0 = true := rfl
    simp [sSet, eLstH, aNil, Re.bind, this, H])]
  rw [sSeq_nx e1]
  obtain ⟨zs, hzs⟩ := gs_sorts hD ((h ++ [.lst ((GS D).map tupS)]) ++ hx)
  have ez := sortW_heap hys hzs
  subst ez
  have al : eCall 2 (m_L_law_alike 8) (aCons (eCall 1 m_greatest_sound (aCons (eVar 4) aNil)) (aCons (eCB cTuple (aCons (eCB cSorted (aCons (eVar 7) aNil)) aNil)) aNil)) [a0, a1, a2, a3, some (tupS D), some (.lst (R.map W.str)), some (.lst (G.map tupS)), some (.ref h.length), b8, none, none, none] (h ++ [.lst ((GS D).map tupS)]) = .ok (.bl true) ((h ++ [.lst ((GS D).map tupS)]) ++ hx) := by
    have e7 : eCB cTuple (aCons (eCB cSorted (aCons (eVar 7) aNil)) aNil) [a0, a1, a2, a3, some (tupS D), some (.lst (R.map W.str)), some (.lst (G.map tupS)), some (.ref h.length), b8, none, none, none] ((h ++ [.lst ((GS D).map tupS)]) ++ hx) = .ok (.tup ys) ((h ++ [.lst ((GS D).map tupS)]) ++ hx) := by
      have eI : itemsW ((h ++ [.lst ((GS D).map tupS)]) ++ hx) (.ref h.length) = some ((GS D).map tupS) := by
        simp only [itemsW]
        rw [List.getElem?_append_left (by simp), get_last]
      have e8 : eCB cSorted (aCons (eVar 7) aNil) [a0, a1, a2, a3, some (tupS D), some (.lst (R.map W.str)), some (.lst (G.map tupS)), some (.ref h.length), b8, none, none, none] ((h ++ [.lst ((GS D).map tupS)]) ++ hx) = .ok (.lst ys) ((h ++ [.lst ((GS D).map tupS)]) ++ hx) := by
        refine (eCB_1 (w := .ref h.length) rfl).trans ?_
        simp only [cSorted, eI, hzs]
      exact (eCB_1 e8).trans rfl
    refine (eCall_2 ((eCall_1 (w := tupS D) rfl).trans eg) e7).trans ?_
    obtain ⟨pp, _⟩ := sortW_props hys
    refine alike_tup 7 ys _ ?_ fun w hw => ?_
    · rw [pp.length_eq, List.length_map]
      have h1 := List.length_filter_le grt (onesO D (words.filter fun x => !decide (x ∈ D)))
      have h2 := ones_small D (words.filter fun x => !decide (x ∈ D)) (rest_len D)
      unfold GS
      omega
    · obtain ⟨d, hd, rfl⟩ := List.mem_map.mp (pp.mem_iff.mp hw)
      exact alike_tupS 5 d _ (by have := (gs_mem hD hd).len; omega)
  rw [sIf_f (by have := tNot_ok (tTru_bl al); exact this)]
  rfl
end P06
end

section
set_option Elab.async false
set_option linter.all false
set_option autoImplicit false
set_option maxRecDepth 100000
set_option maxHeartbeats 4000000
namespace P06
open PySem PySem.Spec PyProof.Rows L2 Mo
theorem bB_ok (E D : List Str) (s : E.Sublist words) (sD : D.Sublist words) (a0 a1 a2 b5 b6 b7 b8 : Option W) (h : Hq) :
    ∃ h', bB [a0, a1, a2, some (tupS E), some (tupS D), b5, b6, b7, b8, none, none, none] h = .ok (.rt (.bl true)) h' := by
  have hl := (ws_sub s).len
  let σ0 : Sg := [a0, a1, a2, some (tupS E), some (tupS D), b5, b6, b7, b8, none, none, none]
  -- sound or not
  have c1 : eCall 1 m_is_sound (aCons (eVar 3) aNil) σ0 h = .ok (.bl (sound E)) h := (eCall_1 rfl).trans (is_sound_ok E s h)
  have c2 : eOp (eqA false) (eCall 1 m_L_law_lots_in (aCons (eVar 3) aNil)) (eLst aNil) σ0 h = .ok (.bl (sound E)) h := lawsound_ok (.inl rfl) rfl
  have c3 : (tTst (eOp (eqA true) (eCall 1 m_is_sound (aCons (eVar 3) aNil)) (eOp (eqA false) (eCall 1 m_L_law_lots_in (aCons (eVar 3) aNil)) (eLst aNil)))) σ0 h = .ok false h := by
    refine tTst_ok (eOp_ok c1 c2 ?_)
    simp [eqA, eqS, scalW, eqW]
  have c4 : (tAndM (tNotM (tTru (eCall 1 m_is_sound (aCons (eVar 3) aNil)))) (tNotM (tTru (eNM tbl_L_law_not_made (eCall 1 m_greatest_sound (aCons (eVar 3) aNil)))))) σ0 h = .ok false h := by
    have t1 := tNot_ok (tTru_bl c1)
    cases hs : sound E with
    | true =>
      rw [hs] at t1
      exact tAnd_ok (b := false) (c := false) t1 (fun z => by cases z) (fun _ => rfl)
    | false =>
      rw [hs] at t1
      have e1 : eCall 1 m_greatest_sound (aCons (eVar 3) aNil) σ0 h = .ex ⟨"NotMade", none⟩ h := (eCall_1 (w := tupS E) rfl).trans (greatest_ex E s hs h)
      have e2 : eNM tbl_L_law_not_made (eCall 1 m_greatest_sound (aCons (eVar 3) aNil)) σ0 h = .ok (.bl true) h := by
        unfold eNM
        rw [e1]
        rfl
      exact tAnd_ok (b := true) (c := false) t1 (fun _ => tNot_ok (tTru_bl e2)) (fun z => by cases z)
  -- the loop
  have k1 := eLc_all (xs := groupsO E) (enc := tupS) (it := iSq (eCall 1 m_L_law_groups (aCons (eVar 3) aNil))) (sl := [8]) (g := gNm 8) (e := eTup (aCons (eCB cLen (aCons (eVar 8) aNil)) (aCons (eVar 8) aNil)))
    (σ := [a0, a1, a2, some (tupS E), some (tupS D), b5, b6, b7, b8, some .non, none, none]) (h0 := h) (h := h)
    (fun g => [a0, a1, a2, some (tupS E), some (tupS D), b5, b6, b7, some (tupS g), some .non, none, none]) (fun g => encP (g.length, g)) (cur := fixed ((groupsO E).map tupS)) (iSq_lst ((eCall_1 rfl).trans (groups_ok (.inl rfl) hl h))) rfl
    (by have := groups_small E hl; omega) (fun _ _ => rfl) (fun g hg => by
      have : lim 2 = true := rfl
      simp [eTup, aCons, aNil, eCB, eVar, Re.bind, cLen, lenW, tupS, itemsW, this, encP])
  have k2 : eCB cSorted (aCons (eLc (iSq (eCall 1 m_L_law_groups (aCons (eVar 3) aNil))) [8] (gNm 8) tYs (eTup (aCons (eCB cLen (aCons (eVar 8) aNil)) (aCons (eVar 8) aNil)))) aNil) [a0, a1, a2, some (tupS E), some (tupS D), b5, b6, b7, b8, some .non, none, none] h = .ok (.lst ((SL E).map encP)) h := by
    refine (eCB_1 k1).trans ?_
    simp only [cSorted, itemsW, sl_sorted E s h]
  let best : Nat → W := fun i => match ((SL E).take i).find? (fun p => cnd E p.2) with | some p => tupS p.2 | none => .non
  have loop := sFor_ok (xs := SL E) (enc := encP) (cur := fixed ((SL E).map encP)) (it := iSq (eCB cSorted (aCons (eLc (iSq (eCall 1 m_L_law_groups (aCons (eVar 3) aNil))) [8] (gNm 8) tYs (eTup (aCons (eCB cLen (aCons (eVar 8) aNil)) (aCons (eVar 8) aNil)))) aNil))) (g := gTp 2 (gsCons (gNm 10) (gsCons (gNm 8) gsNil)))
    (body := sIf (tAndM (tTst (eOp (isN false) (eVar 9) (eC .non))) (tTst (eOp (eqA false) (eCall 1 m_L_law_lots_in (aCons (eLc (iSq (eVar 3)) [11] (gNm 11) (tTst (eOp (inA true) (eVar 11) (eVar 8))) (eVar 11)) aNil)) (eLst aNil)))) (sSet 9 (eVar 8)) sNil)
    (σ := [a0, a1, a2, some (tupS E), some (tupS D), b5, b6, b7, b8, some .non, none, none]) (h00 := h) (h := h)
    (fun i σ h' => h' = h ∧ ∃ x8 x10, σ = [a0, a1, a2, some (tupS E), some (tupS D), b5, b6, b7, x8, some (best i), x10, none])
    (iSq_lst k2) (fun _ _ _ _ => rfl)
    (fun i hi σ h' ⟨e, x8, x10, eσ⟩ => by
      subst e eσ
      have ht : (SL E).take (i + 1) = (SL E).take i ++ [(SL E)[i]] := (List.take_append_getElem hi).symm
      have hb : best (i + 1) = match ((SL E).take i).find? (fun p => cnd E p.2) with | some p => tupS p.2 | none => if cnd E (SL E)[i].2 = true then tupS (SL E)[i].2 else .non := by
        show (match ((SL E).take (i + 1)).find? (fun p => cnd E p.2) with | some p => tupS p.2 | none => .non) = _
        rw [ht, List.find?_append]
        cases ((SL E).take i).find? (fun p => cnd E p.2) with
        | some p => rfl
        | none =>
          simp only [Option.none_or, List.find?_cons, List.find?_nil]
          cases cnd E (SL E)[i].2 <;> rfl
      generalize (SL E)[i] = p at hb ⊢
      refine ⟨[a0, a1, a2, some (tupS E), some (tupS D), b5, b6, b7, some (tupS p.2), some (best (i + 1)), some (.int (p.1 : Nat)), none], h', ?_, rfl, _, _, rfl⟩
      show sIf _ _ _ [a0, a1, a2, some (tupS E), some (tupS D), b5, b6, b7, some (tupS p.2), some (best i), some (.int (p.1 : Nat)), none] h' = _
      have t := cnd_ok (D := E) (g := p.2) hl (σ := [a0, a1, a2, some (tupS E), some (tupS D), b5, b6, b7, some (tupS p.2), some (best i), some (.int (p.1 : Nat)), none]) (i := 3) (j := 8) (k := 11) (h := h') rfl (by simp) (by decide) (by decide) rfl
      have t2 : (tTst (eOp (eqA false) (eCall 1 m_L_law_lots_in (aCons (eLc (iSq (eVar 3)) [11] (gNm 11) (tTst (eOp (inA true) (eVar 11) (eVar 8))) (eVar 11)) aNil)) (eLst aNil))) [a0, a1, a2, some (tupS E), some (tupS D), b5, b6, b7, some (tupS p.2), some (best i), some (.int (p.1 : Nat)), none] h' = .ok (cnd E p.2) h' :=
        tTst_ok (lawsound_ok (.inr rfl) t)
      cases hf : ((SL E).take i).find? (fun p => cnd E p.2) with
      | some q =>
        have hbi : best i = tupS q.2 := by show (match ((SL E).take i).find? (fun p => cnd E p.2) with | some p => tupS p.2 | none => .non) = _; rw [hf]
        rw [hf] at hb
        have t1 : (tTst (eOp (isN false) (eVar 9) (eC .non))) [a0, a1, a2, some (tupS E), some (tupS D), b5, b6, b7, some (tupS p.2), some (best i), some (.int (p.1 : Nat)), none] h' = .ok false h' := by rw [hbi]; rfl
        rw [sIf_f (tAnd_ok (b := false) (c := false) t1 (fun z => by cases z) (fun _ => rfl)), hb, hbi]
        rfl
      | none =>
        have hbi : best i = .non := by show (match ((SL E).take i).find? (fun p => cnd E p.2) with | some p => tupS p.2 | none => .non) = _; rw [hf]
        rw [hf] at hb
        have t1 : (tTst (eOp (isN false) (eVar 9) (eC .non))) [a0, a1, a2, some (tupS E), some (tupS D), b5, b6, b7, some (tupS p.2), some (best i), some (.int (p.1 : Nat)), none] h' = .ok true h' := by rw [hbi]; rfl
        rw [sIf_b (tAnd_ok (b := true) t1 (fun _ => t2) (fun z => by cases z)), hb, hbi]
        cases cnd E p.2 <;> rfl)
    ⟨rfl, _, _, rfl⟩
  obtain ⟨σ', h', e1, rfl, x8, x10, rfl⟩ := loop
  have hbest : best (SL E).length = tupS (fd E) := by
    show (match ((SL E).take (SL E).length).find? (fun p => cnd E p.2) with | some p => tupS p.2 | none => .non) = _
    rw [List.take_length, sl_find]
  rw [hbest] at e1
  have fl : (fd E).length ≤ 900000 := by
    have := sl_find E
    have hm := List.mem_of_find?_eq_some this
    obtain ⟨r, _, hr⟩ := List.mem_flatMap.mp hm
    obtain ⟨g, hg, e⟩ := List.mem_map.mp hr
    have := (combL_sub E r g hg).length_le
    cases e
    omega
  have al : eCall 2 (m_L_law_alike 8) (aCons (eCall 1 m_fewest_drops (aCons (eVar 3) aNil)) (aCons (eVar 9) aNil)) [a0, a1, a2, some (tupS E), some (tupS D), b5, b6, b7, x8, some (tupS (fd E)), x10, none] h' = .ok (.bl true) h' :=
    (eCall_2 ((eCall_1 rfl).trans (fewest_ok E s h')) rfl).trans (alike_tupS 6 (fd E) h' fl)
  have fin : ∃ h2, (eOr (eOp (cmpI fun i j => decide (j < i)) (eCB cLen (aCons (eVar 4) aNil)) (eC (.int 0))) (eOp (eqA false) (eCB cLen (aCons (eCall 1 m_greatest_sound (aCons (eTup aNil) aNil)) aNil)) (eC (.int 15)))) [a0, a1, a2, some (tupS E), some (tupS D), b5, b6, b7, x8, some (tupS (fd E)), x10, none] h' = .ok (.bl true) h2 := by
    have o1 : eOp (cmpI fun i j => decide (j < i)) (eCB cLen (aCons (eVar 4) aNil)) (eC (.int 0)) [a0, a1, a2, some (tupS E), some (tupS D), b5, b6, b7, x8, some (tupS (fd E)), x10, none] h' = .ok (.bl (decide ((0 : Int) < (D.length : Nat)))) h' := by
      simp [eOp, eCB, aCons, aNil, eVar, eC, Re.bind, cLen, lenW, tupS, itemsW, cmpI]
    cases hd : decide ((0 : Int) < (D.length : Nat)) with
    | true =>
      rw [hd] at o1
      refine ⟨h', ?_⟩
      unfold eOr
      rw [o1]
      rfl
    | false =>
      rw [hd] at o1
      obtain ⟨ys, hys⟩ := gs_sorts (ws_sub (List.nil_sublist words)) []
      obtain ⟨hx, eg⟩ := greatest_ok [] (List.nil_sublist words) (by decide) [] hys h'
      have hyl : ys.length = 15 := by
        rw [(sortW_props hys).1.length_eq, List.length_map, gs15]
      refine ⟨h' ++ hx, ?_⟩
      unfold eOr
      rw [o1]
      show eOp _ _ _ _ h' = _
      have o2 : eCB cLen (aCons (eCall 1 m_greatest_sound (aCons (eTup aNil) aNil)) aNil) [a0, a1, a2, some (tupS E), some (tupS D), b5, b6, b7, x8, some (tupS (fd E)), x10, none] h' = .ok (.int 15) (h' ++ hx) := by
        refine (eCB_1 ((eCall_1 (w := tupS []) rfl).trans eg)).trans ?_
        simp [cLen, lenW, itemsW, hyl]
      exact eOp_ok o2 rfl rfl
  obtain ⟨h2, fin⟩ := fin
  refine ⟨h2, ?_⟩
  unfold bB
  rw [sSeq_nx (σ1 := σ0) (h1 := h') (by
    rw [sIf_f (tOr_ok (b := false) (c := false) c3 (fun _ => c4) (fun z => by cases z))]
    rfl)]
  rw [sSeq_nx (sSet_nx rfl)]
  show sSeq _ _ [a0, a1, a2, some (tupS E), some (tupS D), b5, b6, b7, b8, some .non, none, none] h' = _
  rw [sSeq_nx e1]
  refine sRet_ok ?_
  unfold eAnd
  rw [al]
  exact fin
theorem law_ok (ns : List Int) : ∃ h', m_law [.scr (ns.map W.int)] [] = .ok (.bl true) h' := by
  obtain ⟨A, p1, s1, r1, sA, eA⟩ := design ns [] 0 14296 0
  obtain ⟨E, p2, s2, r2, sE, eE⟩ := design ns [] p1 s1 r1
  let σ1 : Sg := [some (.scr (ns.map W.int)), some (.ref 0), some (tupS A), some (tupS E), none, none, none, none, none, none, none, none]
  have hAl := (ws_sub sA).len
  have ht : ∀ w ∈ A.map W.str, ∀ h, RowI ns [] h → ∃ b h', (tTst (eOp (eqA false) (eCall 2 m_L_law_taken (aCons (eVar 1) (aCons (eC (.int 3)) aNil))) (eC (.int 0)))) ((wipeW σ1 [11]).set 11 (some w)) h = .ok b h' ∧ RowI ns [] h' := by
    rintro w _ h ⟨p, s, r, rfl⟩
    obtain ⟨v1, p', s', r', h0, h1, e⟩ := taken ns p s r 3 [] (by omega) (by decide)
    refine ⟨v1 == 0, _, ?_, p', s', r', rfl⟩
    have : eCall 2 m_L_law_taken (aCons (eVar 1) (aCons (eC (.int 3)) aNil)) ((wipeW σ1 [11]).set 11 (some w)) [rowO ns p s r] = .ok (.int v1) [rowO ns p' s' r'] := (eCall_2 rfl rfl).trans e
    refine tTst_ok (eOp_ok this rfl ?_)
    simp [eqA, eqS, scalW, eqW]
  obtain ⟨sub, h', q1, q2, p3, s3, r3, rfl⟩ := lc_sub (ws := A.map W.str) (σ := wipeW σ1 [11]) (sl := 11) (I := RowI ns []) (by simp [wipeW, σ1]) ht (by simp; omega) ((A.map W.str).length + 1) 0 [] [rowO ns p2 s2 r2] (by omega) (by omega) (by simp) ⟨p2, s2, r2, rfl⟩
  rw [List.drop_zero] at q2
  obtain ⟨D, hD, rfl⟩ := List.sublist_map_iff.mp q2
  have sD := hD.trans sA
  have st1 : sSet 1 (eLstH (aCons (eVar 0) (aCons (eC (.int 0)) (aCons (eC (.int 14296)) (aCons (eC (.int 0)) aNil))))) [some (.scr (ns.map W.int)), none, none, none, none, none, none, none, none, none, none, none] [] = .ok (.nx [some (.scr (ns.map W.int)), some (.ref 0), none, none, none, none, none, none, none, none, none, none]) [rowO ns (0 : Nat) 14296 0] := by
    have : lim 4 = true := rfl
    simp [sSet, eLstH, aCons, aNil, eVar, eC, Re.bind, this, rowO]
  have st2 : sAsg (eTup (aCons (eCall 1 m_L_law_design (aCons (eVar 1) aNil)) (aCons (eCall 1 m_L_law_design (aCons (eVar 1) aNil)) aNil))) (gTp 2 (gsCons (gNm 2) (gsCons (gNm 3) gsNil))) [some (.scr (ns.map W.int)), some (.ref 0), none, none, none, none, none, none, none, none, none, none] [rowO ns (0 : Nat) 14296 0] = .ok (.nx σ1) [rowO ns p2 s2 r2] := by
    have f1 : eCall 1 m_L_law_design (aCons (eVar 1) aNil) [some (.scr (ns.map W.int)), some (.ref 0), none, none, none, none, none, none, none, none, none, none] [rowO ns (0 : Nat) 14296 0] = .ok (tupS A) [rowO ns p1 s1 r1] := (eCall_1 rfl).trans eA
    have f2 : eCall 1 m_L_law_design (aCons (eVar 1) aNil) [some (.scr (ns.map W.int)), some (.ref 0), none, none, none, none, none, none, none, none, none, none] [rowO ns p1 s1 r1] = .ok (tupS E) [rowO ns p2 s2 r2] := (eCall_1 rfl).trans eE
    exact sAsg_ok (eTup_ok (aCons_ok f1 (aCons_ok f2 rfl)) (by simp)) rfl
  have st3 : sSet 4 (eCB cTuple (aCons (eLc (iSq (eVar 2)) [11] (gNm 11) (tTst (eOp (eqA false) (eCall 2 m_L_law_taken (aCons (eVar 1) (aCons (eC (.int 3)) aNil))) (eC (.int 0)))) (eVar 11)) aNil)) σ1 [rowO ns p2 s2 r2] = .ok (.nx [some (.scr (ns.map W.int)), some (.ref 0), some (tupS A), some (tupS E), some (tupS D), none, none, none, none, none, none, none]) [rowO ns p3 s3 r3] := by
    have f : eLc (iSq (eVar 2)) [11] (gNm 11) (tTst (eOp (eqA false) (eCall 2 m_L_law_taken (aCons (eVar 1) (aCons (eC (.int 3)) aNil))) (eC (.int 0)))) (eVar 11) σ1 [rowO ns p2 s2 r2] = .ok (.lst (D.map W.str)) [rowO ns p3 s3 r3] := by
      unfold eLc lcA
      rw [show iSq (eVar 2) σ1 [rowO ns p2 s2 r2] = .ok (fixed (A.map W.str)) [rowO ns p2 s2 r2] from rfl]
      simp only [Re.bind, show fixed (A.map W.str) [rowO ns p2 s2 r2] = some (A.map W.str) from rfl]
      rw [q1]
      rfl
    exact sSet_nx ((eCB_1 f).trans rfl)
  have c1 : (tTst (eOp (eqA false) (eCall 1 m_L_law_lots_in (aCons (eVar 4) aNil)) (eLst aNil))) [some (.scr (ns.map W.int)), some (.ref 0), some (tupS A), some (tupS E), some (tupS D), none, none, none, none, none, none, none] [rowO ns p3 s3 r3] = .ok (sound D) [rowO ns p3 s3 r3] :=
    tTst_ok (lawsound_ok (.inl rfl) rfl)
  have main : ∃ b5 b6 b7 b8 h', sIf (tTst (eOp (eqA false) (eCall 1 m_L_law_lots_in (aCons (eVar 4) aNil)) (eLst aNil))) bA sNil [some (.scr (ns.map W.int)), some (.ref 0), some (tupS A), some (tupS E), some (tupS D), none, none, none, none, none, none, none] [rowO ns p3 s3 r3] = .ok (.nx [some (.scr (ns.map W.int)), some (.ref 0), some (tupS A), some (tupS E), some (tupS D), b5, b6, b7, b8, none, none, none]) h' := by
    cases hs : sound D with
    | true =>
      rw [hs] at c1
      obtain ⟨b5, b6, b7, b8, h', e⟩ := bA_ok D sD hs (some (.scr (ns.map W.int))) (some (.ref 0)) (some (tupS A)) (some (tupS E)) [rowO ns p3 s3 r3]
      exact ⟨b5, b6, b7, b8, h', by rw [sIf_t c1]; exact e⟩
    | false =>
      rw [hs] at c1
      exact ⟨none, none, none, none, [rowO ns p3 s3 r3], by rw [sIf_f c1]; rfl⟩
  obtain ⟨b5, b6, b7, b8, h4, e4⟩ := main
  obtain ⟨h5, e5⟩ := bB_ok E D sE sD (some (.scr (ns.map W.int))) (some (.ref 0)) (some (tupS A)) b5 b6 b7 b8 h4
  refine ⟨h5, fBody_ok (σ := [some (.scr (ns.map W.int)), none, none, none, none, none, none, none, none, none, none, none]) rfl rfl ?_⟩
  unfold b_law
  rw [sSeq_nx st1, sSeq_nx st2, sSeq_nx st3]
  exact (sSeq_nx (r := bB) e4).trans e5
end P06
end

section
set_option Elab.async false
set_option linter.all false
set_option autoImplicit false
set_option maxRecDepth 100000
set_option maxHeartbeats 4000000
namespace P06
open PySem PySem.Spec PyProof.Rows L2 Mo
def top (i : Nat) : Stmt := PySem.Challenge.pw_ownedborder_k06_whole_borders.main.body.getD i (.Pass ⟨0, 0, 0, 0⟩)
abbrev s_is_word : Stmt := top 7
abbrev N_is_word : List Str := ["value"]
theorem sc_is_word : FnScope N_is_word ["value"] (defScope s_is_word) := ⟨rfl, rfl, rfl, by decide +kernel, rfl, by decide +kernel, by decide +kernel⟩
abbrev s_is_design : Stmt := top 8
abbrev N_is_design : List Str := ["value", "item", "one", "other"]
theorem sc_is_design : FnScope N_is_design ["value"] (defScope s_is_design) := ⟨rfl, rfl, rfl, by decide +kernel, rfl, by decide +kernel, by decide +kernel⟩
abbrev s_require_design : Stmt := top 9
abbrev N_require_design : List Str := ["value"]
theorem sc_require_design : FnScope N_require_design ["value"] (defScope s_require_design) := ⟨rfl, rfl, rfl, by decide +kernel, rfl, by decide +kernel, by decide +kernel⟩
abbrev s_with_word : Stmt := top 10
abbrev N_with_word : List Str := ["design", "word"]
theorem sc_with_word : FnScope N_with_word ["design", "word"] (defScope s_with_word) := ⟨rfl, rfl, rfl, by decide +kernel, rfl, by decide +kernel, by decide +kernel⟩
abbrev s_lots : Stmt := top 13
abbrev N_lots : List Str := ["lot", "_"]
theorem sc_lots : FnScope N_lots [] (defScope s_lots) := ⟨rfl, rfl, rfl, by decide +kernel, rfl, by decide +kernel, by decide +kernel⟩
abbrev s_holds : Stmt := top 14
abbrev N_holds : List Str := ["design", "lot", "word"]
theorem sc_holds : FnScope N_holds ["design", "lot"] (defScope s_holds) := ⟨rfl, rfl, rfl, by decide +kernel, rfl, by decide +kernel, by decide +kernel⟩
abbrev s_holds_none : Stmt := top 15
abbrev N_holds_none : List Str := ["design", "lot"]
theorem sc_holds_none : FnScope N_holds_none ["design"] (defScope s_holds_none) := ⟨rfl, rfl, rfl, by decide +kernel, rfl, by decide +kernel, by decide +kernel⟩
abbrev s_is_sound : Stmt := top 16
abbrev N_is_sound : List Str := ["design"]
theorem sc_is_sound : FnScope N_is_sound ["design"] (defScope s_is_sound) := ⟨rfl, rfl, rfl, by decide +kernel, rfl, by decide +kernel, by decide +kernel⟩
abbrev s_further_words : Stmt := top 17
abbrev N_further_words : List Str := ["design", "word"]
theorem sc_further_words : FnScope N_further_words ["design"] (defScope s_further_words) := ⟨rfl, rfl, rfl, by decide +kernel, rfl, by decide +kernel, by decide +kernel⟩
abbrev s_sound_ones_above : Stmt := top 18
abbrev N_sound_ones_above : List Str := ["design", "found", "word", "wider", "one"]
theorem sc_sound_ones_above : FnScope N_sound_ones_above ["design"] (defScope s_sound_ones_above) := ⟨rfl, rfl, rfl, by decide +kernel, rfl, by decide +kernel, by decide +kernel⟩
abbrev s_is_greatest : Stmt := top 19
abbrev N_is_greatest : List Str := ["design", "word"]
theorem sc_is_greatest : FnScope N_is_greatest ["design"] (defScope s_is_greatest) := ⟨rfl, rfl, rfl, by decide +kernel, rfl, by decide +kernel, by decide +kernel⟩
abbrev s_greatest_sound : Stmt := top 20
abbrev N_greatest_sound : List Str := ["design", "one"]
theorem sc_greatest_sound : FnScope N_greatest_sound ["design"] (defScope s_greatest_sound) := ⟨rfl, rfl, rfl, by decide +kernel, rfl, by decide +kernel, by decide +kernel⟩
abbrev s_fewest_drops : Stmt := top 21
abbrev N_fewest_drops : List Str := ["design", "held", "many", "words", "word"]
theorem sc_fewest_drops : FnScope N_fewest_drops ["design"] (defScope s_fewest_drops) := ⟨rfl, rfl, rfl, by decide +kernel, rfl, by decide +kernel, by decide +kernel⟩
abbrev s_L_law_taken : Stmt := top 23
abbrev N_L_law_taken : List Str := ["row", "many", "found", "cell"]
theorem sc_L_law_taken : FnScope N_L_law_taken ["row", "many"] (defScope s_L_law_taken) := ⟨rfl, rfl, rfl, by decide +kernel, rfl, by decide +kernel, by decide +kernel⟩
abbrev s_L_law_pick : Stmt := top 24
abbrev N_L_law_pick : List Str := ["row", "kinds"]
theorem sc_L_law_pick : FnScope N_L_law_pick ["row", "kinds"] (defScope s_L_law_pick) := ⟨rfl, rfl, rfl, by decide +kernel, rfl, by decide +kernel, by decide +kernel⟩
abbrev s_L_law_alike : Stmt := top 25
abbrev N_L_law_alike : List Str := ["found", "due", "k"]
theorem sc_L_law_alike : FnScope N_L_law_alike ["found", "due"] (defScope s_L_law_alike) := ⟨rfl, rfl, rfl, by decide +kernel, rfl, by decide +kernel, by decide +kernel⟩
abbrev s_L_law_words : Stmt := top 26
abbrev N_L_law_words : List Str := ["some"]
theorem sc_L_law_words : FnScope N_L_law_words [] (defScope s_L_law_words) := ⟨rfl, rfl, rfl, by decide +kernel, rfl, by decide +kernel, by decide +kernel⟩
abbrev s_L_law_design : Stmt := top 27
abbrev N_L_law_design : List Str := ["row", "odds", "found", "word"]
theorem sc_L_law_design : FnScope N_L_law_design ["row"] (defScope s_L_law_design) := ⟨rfl, rfl, rfl, by decide +kernel, rfl, by decide +kernel, by decide +kernel⟩
abbrev s_L_law_lots : Stmt := top 28
abbrev N_L_law_lots : List Str := ["found"]
theorem sc_L_law_lots : FnScope N_L_law_lots [] (defScope s_L_law_lots) := ⟨rfl, rfl, rfl, by decide +kernel, rfl, by decide +kernel, by decide +kernel⟩
abbrev s_L_law_lots_in : Stmt := top 29
abbrev N_L_law_lots_in : List Str := ["design", "lot", "word"]
theorem sc_L_law_lots_in : FnScope N_L_law_lots_in ["design"] (defScope s_L_law_lots_in) := ⟨rfl, rfl, rfl, by decide +kernel, rfl, by decide +kernel, by decide +kernel⟩
abbrev s_L_law_groups : Stmt := top 31
abbrev N_L_law_groups : List Str := ["words", "found", "word", "group"]
theorem sc_L_law_groups : FnScope N_L_law_groups ["words"] (defScope s_L_law_groups) := ⟨rfl, rfl, rfl, by decide +kernel, rfl, by decide +kernel, by decide +kernel⟩
abbrev s_law : Stmt := top 32
abbrev N_law : List Str := ["script", "row", "design", "other", "small", "rest", "sound", "due", "group", "best", "size", "word"]
theorem sc_law : FnScope N_law ["script"] (defScope s_law) := ⟨rfl, rfl, rfl, by decide +kernel, rfl, by decide +kernel, by decide +kernel⟩
abbrev s_L_law_not_made : Stmt := top 30
theorem sc_L_law_not_made : FnScope ["work", "e"] ["work"] (defScope s_L_law_not_made) := ⟨rfl, rfl, rfl, by decide +kernel, rfl, by decide +kernel, by decide +kernel⟩
structure Tx (K : PySem.W.Frag) (mg : Str → Option Value) (w : World) (base : Heap) (Th : Tabl) : Prop where
  f_all : mg "all" = none
  f_any : mg "any" = none
  f_bool : mg "bool" = none
  f_int : mg "int" = none
  f_isinstance : mg "isinstance" = none
  f_len : mg "len" = none
  f_list : mg "list" = none
  f_range : mg "range" = none
  f_sorted : mg "sorted" = none
  f_str : mg "str" = none
  f_tuple : mg "tuple" = none
  f_zip : mg "zip" = none
  c_BREAKERS : Kc K mg w "BREAKERS" c_BREAKERS
  c_WORDS : Kc K mg w "WORDS" c_WORDS
  i_combinations : mg "combinations" = some (.type "itertools.combinations")
  x_BadDesign : ExcOk K mg "BadDesign"
  x_NotMade : ExcOk K mg "NotMade"
  d_is_word : Dn K mg "is_word" s_is_word ["value"]
  d_is_design : Dn K mg "is_design" s_is_design ["value"]
  d_require_design : Dn K mg "require_design" s_require_design ["value"]
  d_with_word : Dn K mg "with_word" s_with_word ["design", "word"]
  d_lots : Dn K mg "lots" s_lots []
  d_holds : Dn K mg "holds" s_holds ["design", "lot"]
  d_holds_none : Dn K mg "holds_none" s_holds_none ["design"]
  d_is_sound : Dn K mg "is_sound" s_is_sound ["design"]
  d_further_words : Dn K mg "further_words" s_further_words ["design"]
  d_sound_ones_above : Dn K mg "sound_ones_above" s_sound_ones_above ["design"]
  d_is_greatest : Dn K mg "is_greatest" s_is_greatest ["design"]
  d_greatest_sound : Dn K mg "greatest_sound" s_greatest_sound ["design"]
  d_fewest_drops : Dn K mg "fewest_drops" s_fewest_drops ["design"]
  d_L_law_taken : Dn K mg "_law_taken" s_L_law_taken ["row", "many"]
  d_L_law_pick : Dn K mg "_law_pick" s_L_law_pick ["row", "kinds"]
  d_L_law_alike : Dn K mg "_law_alike" s_L_law_alike ["found", "due"]
  d_L_law_words : Dn K mg "_law_words" s_L_law_words []
  d_L_law_design : Dn K mg "_law_design" s_L_law_design ["row"]
  d_L_law_lots : Dn K mg "_law_lots" s_L_law_lots []
  d_L_law_lots_in : Dn K mg "_law_lots_in" s_L_law_lots_in ["design"]
  d_L_law_groups : Dn K mg "_law_groups" s_L_law_groups ["words"]
  n_L_law_not_made : Nm K mg "_law_not_made" s_L_law_not_made "work" "OwnError" "NotMade" tbl_L_law_not_made
section
variable {Th : Tabl} {P : Program} {w : World} {K : PySem.W.Frag} {mg : Str → Option Value} {base : Heap}
theorem fn_is_word (T : Tx K mg w base Th) : Fn Th P w K mg base 1 "is_word" 1 m_is_word :=
  T.d_is_word.fn sc_is_word fun f cdv A outer s H E hr tk => (xs_one (xs_ret (xe_and (xe_callB c_isa rfl T.f_isinstance (by decide +kernel) (xa_cons (xv 0) (xa_cons (xe_bty rfl T.f_str (by decide +kernel)) xa_nil))) (xe_one (xe_cmp (o_in hr) (xv 0) (xe_const T.c_WORDS rfl) rfl)))))
theorem fn_is_design (T : Tx K mg w base Th) (H_is_word : Fn Th P w K mg base 1 "is_word" 1 m_is_word) : Fn Th P w K mg base 2 "is_design" 1 m_is_design :=
  T.d_is_design.fn sc_is_design fun f cdv A outer s H E hr tk => (xs_cons (xs_if (xw_pt (xw_or (xt_not (xt_tru (xe_callB c_isa rfl T.f_isinstance (by decide +kernel) (xa_cons (xv 0) (xa_cons (xe_bty rfl T.f_tuple (by decide +kernel)) xa_nil))))) (xw_or1 (xt_not (xt_tru (xe_callB (c_all rfl) rfl T.f_all (by decide +kernel) (xa_cons (xe_lc (own := [("item", 1)]) rfl sc_is_design.nd (xi_seq (xv 0)) (blkOk_by (own := [("item", 1)]) (N := N_is_design) (sc := defScope s_is_design) (by decide +kernel)) (fun _ _ _ _ _ => (xgw_name (i := 1) sc_is_design.nd rfl (Or.inl rfl) (by decide))) (fun _ _ _ _ _ => xts_nil) (fun _ _ _ _ _ => (xe_call H_is_word (hr.mono (by decide)) takes0 rfl (xa_cons (xv 1) xa_nil)))) xa_nil))))))) (xs_one (xs_ret xe_bl)) xs_nil)
    (xs_one (xs_ret (xe_callB (c_all rfl) rfl T.f_all (by decide +kernel) (xa_cons (xe_lc (own := [("one", 2), ("other", 3)]) rfl sc_is_design.nd (xi_zip rfl T.f_zip (xa_cons (xv 0) (xa_cons (xe_sl sl_T (xv 0) (xp_so xe_int) xp_no) xa_nil))) (blkOk_by (own := [("one", 2), ("other", 3)]) (N := N_is_design) (sc := defScope s_is_design) (by decide +kernel)) (fun _ _ _ _ _ => (xgw_tup rfl (xgsw_cons (xgw_name (i := 2) sc_is_design.nd rfl (Or.inl rfl) (by decide)) (xgsw_cons (xgw_name (i := 3) sc_is_design.nd rfl (Or.inl rfl) (by decide)) xgsw_nil)))) (fun _ _ _ _ _ => xts_nil) (fun _ _ _ _ _ => (xe_cmp o_ltA (xv 2) (xv 3) (nomark _)))) xa_nil)))))
theorem fn_require_design (T : Tx K mg w base Th) (H_is_design : Fn Th P w K mg base 2 "is_design" 1 m_is_design) : Fn Th P w K mg base 3 "require_design" 1 m_require_design :=
  T.d_require_design.fn sc_require_design fun f cdv A outer s H E hr tk => (xs_one (xs_if (xt_not (xt_tru (xe_call H_is_design (hr.mono (by decide)) tk rfl (xa_cons (xv 0) xa_nil)))) (xs_one (xs_raise T.x_BadDesign rfl tk rfl)) xs_nil))
theorem fn_with_word (T : Tx K mg w base Th) : Fn Th P w K mg base 1 "with_word" 2 m_with_word :=
  T.d_with_word.fn sc_with_word fun f cdv A outer s H E hr tk => (xs_one (xs_ret (xe_callTy c_tuple rfl T.f_tuple (by decide +kernel) (xa_cons (xe_callB (c_sortedR hr) rfl T.f_sorted (by decide +kernel) (xa_cons (xe_op o_add (xv 0) (xe_tup (xa_cons (xv 1) xa_nil))) xa_nil)) xa_nil))))
theorem fn_lots (T : Tx K mg w base Th) : Fn Th P w K mg base 1 "lots" 0 m_lots :=
  T.d_lots.fn sc_lots fun f cdv A outer s H E hr tk => (xs_one (xs_ret (xe_callTy c_tuple rfl T.f_tuple (by decide +kernel) (xa_cons (xe_lc (own := [("lot", 0), ("_", 1)]) rfl sc_lots.nd (xi_seq (xe_const T.c_BREAKERS rfl)) (blkOk_by (own := [("lot", 0), ("_", 1)]) (N := N_lots) (sc := defScope s_lots) (by decide +kernel)) (fun _ _ _ _ _ => (xgw_tup rfl (xgsw_cons (xgw_name (i := 0) sc_lots.nd rfl (Or.inl rfl) (by decide)) (xgsw_cons (xgw_name (i := 1) sc_lots.nd rfl (Or.inl rfl) (by decide)) xgsw_nil)))) (fun _ _ _ _ _ => xts_nil) (fun _ _ _ _ _ => (xv 0))) xa_nil))))
theorem fn_holds (T : Tx K mg w base Th) : Fn Th P w K mg base 1 "holds" 2 m_holds :=
  T.d_holds.fn sc_holds fun f cdv A outer s H E hr tk => (xs_one (xs_ret (xe_callB (c_all rfl) rfl T.f_all (by decide +kernel) (xa_cons (xe_lc (own := [("word", 2)]) rfl sc_holds.nd (xi_seq (xv 1)) (blkOk_by (own := [("word", 2)]) (N := N_holds) (sc := defScope s_holds) (by decide +kernel)) (fun _ _ _ _ _ => (xgw_name (i := 2) sc_holds.nd rfl (Or.inl rfl) (by decide))) (fun _ _ _ _ _ => xts_nil) (fun _ _ _ _ _ => (xe_cmp (o_in hr) (xv 2) (xv 0) rfl))) xa_nil))))
theorem fn_holds_none (T : Tx K mg w base Th) (H_holds : Fn Th P w K mg base 1 "holds" 2 m_holds) (H_lots : Fn Th P w K mg base 1 "lots" 0 m_lots) : Fn Th P w K mg base 2 "holds_none" 1 m_holds_none :=
  T.d_holds_none.fn sc_holds_none fun f cdv A outer s H E hr tk => (xs_one (xs_ret (xe_not (xe_callB (c_any rfl) rfl T.f_any (by decide +kernel) (xa_cons (xe_lc (own := [("lot", 1)]) rfl sc_holds_none.nd (xi_seq (xe_call0 H_lots (hr.mono (by decide)) rfl)) (blkOk_by (own := [("lot", 1)]) (N := N_holds_none) (sc := defScope s_holds_none) (by decide +kernel)) (fun _ _ _ _ _ => (xgw_name (i := 1) sc_holds_none.nd rfl (Or.inl rfl) (by decide))) (fun _ _ _ _ _ => xts_nil) (fun _ _ _ _ _ => (xe_call H_holds (hr.mono (by decide)) takes0 rfl (xa_cons (xv 0) (xa_cons (xv 1) xa_nil))))) xa_nil)))))
theorem fn_is_sound (T : Tx K mg w base Th) (H_holds_none : Fn Th P w K mg base 2 "holds_none" 1 m_holds_none) (H_require_design : Fn Th P w K mg base 3 "require_design" 1 m_require_design) : Fn Th P w K mg base 4 "is_sound" 1 m_is_sound :=
  T.d_is_sound.fn sc_is_sound fun f cdv A outer s H E hr tk => (xs_cons (xs_expr (xe_call H_require_design (hr.mono (by decide)) tk rfl (xa_cons (xv 0) xa_nil)))
    (xs_one (xs_ret (xe_call H_holds_none (hr.mono (by decide)) tk rfl (xa_cons (xv 0) xa_nil)))))
theorem fn_further_words (T : Tx K mg w base Th) : Fn Th P w K mg base 1 "further_words" 1 m_further_words :=
  T.d_further_words.fn sc_further_words fun f cdv A outer s H E hr tk => (xs_one (xs_ret (xe_lc (own := [("word", 1)]) rfl sc_further_words.nd (xi_seq (xe_const T.c_WORDS rfl)) (blkOk_by (own := [("word", 1)]) (N := N_further_words) (sc := defScope s_further_words) (by decide +kernel)) (fun _ _ _ _ _ => (xgw_name (i := 1) sc_further_words.nd rfl (Or.inl rfl) (by decide))) (fun _ _ _ _ _ => (xts_one (xt_cmp (o_notIn hr) (xv 1) (xv 0) rfl))) (fun _ _ _ _ _ => (xv 1)))))
theorem fn_sound_ones_above (T : Tx K mg w base Th) (H_further_words : Fn Th P w K mg base 1 "further_words" 1 m_further_words) (H_holds_none : Fn Th P w K mg base 2 "holds_none" 1 m_holds_none) (H_with_word : Fn Th P w K mg base 1 "with_word" 2 m_with_word) : Fn Th P w K mg base 3 "sound_ones_above" 1 m_sound_ones_above :=
  T.d_sound_ones_above.fn sc_sound_ones_above fun f cdv A outer s H E hr tk => (xs_cons (xs_set (i := 1) sc_sound_ones_above.nd rfl (Or.inl rfl) (xe_lstH (xa_cons (xv 0) xa_nil)))
    (xs_cons (xs_for (passO rfl) rfl (xi_seq (xe_call H_further_words (hr.mono (by decide)) tk rfl (xa_cons (xv 0) xa_nil))) (xg_name (i := 2) sc_sound_ones_above.nd rfl (Or.inr rfl)) (xs_cons (xs_setLc (i := 3) (own := [("one", 4)]) (f := false) rfl sc_sound_ones_above.nd rfl rfl (sw_true rfl rfl rfl (by decide +kernel)) (xi_seq (xv 1)) (blkOk_by (own := [("one", 4)]) (N := N_sound_ones_above) (sc := defScope s_sound_ones_above) (by decide +kernel)) (fun _ _ _ _ _ => (xgw_name (i := 4) sc_sound_ones_above.nd rfl (Or.inl rfl) (by decide))) (fun _ _ _ _ _ => xts_nil) (fun _ _ _ _ _ => (xe_call H_with_word (hr.mono (by decide)) takes0 rfl (xa_cons (xv 4) (xa_cons (xv 2) xa_nil)))))
    (xs_one (xs_expr (xe_bm PySem.F.plainAttrs_list PySem.F.slot_list_extend PySem.F.type_list_extend m_extend (xv 1) (xa_cons (xe_lc (own := [("one", 4)]) rfl sc_sound_ones_above.nd (xi_seq (xv 3)) (blkOk_by (own := [("one", 4)]) (N := N_sound_ones_above) (sc := defScope s_sound_ones_above) (by decide +kernel)) (fun _ _ _ _ _ => (xgw_name (i := 4) sc_sound_ones_above.nd rfl (Or.inl rfl) (by decide))) (fun _ _ _ _ _ => (xts_one (xt_tru (xe_call H_holds_none (hr.mono (by decide)) takes0 rfl (xa_cons (xv 4) xa_nil))))) (fun _ _ _ _ _ => (xv 4))) xa_nil))))))
    (xs_one (xs_ret (xv 1)))))
theorem fn_is_greatest (T : Tx K mg w base Th) (H_further_words : Fn Th P w K mg base 1 "further_words" 1 m_further_words) (H_holds_none : Fn Th P w K mg base 2 "holds_none" 1 m_holds_none) (H_with_word : Fn Th P w K mg base 1 "with_word" 2 m_with_word) : Fn Th P w K mg base 3 "is_greatest" 1 m_is_greatest :=
  T.d_is_greatest.fn sc_is_greatest fun f cdv A outer s H E hr tk => (xs_one (xs_ret (xe_not (xe_callB (c_any rfl) rfl T.f_any (by decide +kernel) (xa_cons (xe_lc (own := [("word", 1)]) rfl sc_is_greatest.nd (xi_seq (xe_call H_further_words (hr.mono (by decide)) tk rfl (xa_cons (xv 0) xa_nil))) (blkOk_by (own := [("word", 1)]) (N := N_is_greatest) (sc := defScope s_is_greatest) (by decide +kernel)) (fun _ _ _ _ _ => (xgw_name (i := 1) sc_is_greatest.nd rfl (Or.inl rfl) (by decide))) (fun _ _ _ _ _ => xts_nil) (fun _ _ _ _ _ => (xe_call H_holds_none (hr.mono (by decide)) takes0 rfl (xa_cons (xe_call H_with_word (hr.mono (by decide)) takes0 rfl (xa_cons (xv 0) (xa_cons (xv 1) xa_nil))) xa_nil)))) xa_nil)))))
theorem fn_greatest_sound (T : Tx K mg w base Th) (H_holds_none : Fn Th P w K mg base 2 "holds_none" 1 m_holds_none) (H_is_greatest : Fn Th P w K mg base 3 "is_greatest" 1 m_is_greatest) (H_require_design : Fn Th P w K mg base 3 "require_design" 1 m_require_design) (H_sound_ones_above : Fn Th P w K mg base 3 "sound_ones_above" 1 m_sound_ones_above) : Fn Th P w K mg base 4 "greatest_sound" 1 m_greatest_sound :=
  T.d_greatest_sound.fn sc_greatest_sound fun f cdv A outer s H E hr tk => (xs_cons (xs_expr (xe_call H_require_design (hr.mono (by decide)) tk rfl (xa_cons (xv 0) xa_nil)))
    (xs_cons (xs_if (xt_not (xt_tru (xe_call H_holds_none (hr.mono (by decide)) tk rfl (xa_cons (xv 0) xa_nil)))) (xs_one (xs_raise T.x_NotMade rfl tk rfl)) xs_nil)
    (xs_one (xs_ret (xe_callTy c_tuple rfl T.f_tuple (by decide +kernel) (xa_cons (xe_callB (c_sortedR hr) rfl T.f_sorted (by decide +kernel) (xa_cons (xe_lc (own := [("one", 1)]) rfl sc_greatest_sound.nd (xi_seq (xe_call H_sound_ones_above (hr.mono (by decide)) tk rfl (xa_cons (xv 0) xa_nil))) (blkOk_by (own := [("one", 1)]) (N := N_greatest_sound) (sc := defScope s_greatest_sound) (by decide +kernel)) (fun _ _ _ _ _ => (xgw_name (i := 1) sc_greatest_sound.nd rfl (Or.inl rfl) (by decide))) (fun _ _ _ _ _ => (xts_one (xt_tru (xe_call H_is_greatest (hr.mono (by decide)) takes0 rfl (xa_cons (xv 1) xa_nil))))) (fun _ _ _ _ _ => (xv 1))) xa_nil)) xa_nil))))))
theorem fn_fewest_drops (T : Tx K mg w base Th) (H_holds_none : Fn Th P w K mg base 2 "holds_none" 1 m_holds_none) (H_require_design : Fn Th P w K mg base 3 "require_design" 1 m_require_design) : Fn Th P w K mg base 4 "fewest_drops" 1 m_fewest_drops :=
  T.d_fewest_drops.fn sc_fewest_drops fun f cdv A outer s H E hr tk => (xs_cons (xs_expr (xe_call H_require_design (hr.mono (by decide)) tk rfl (xa_cons (xv 0) xa_nil)))
    (xs_cons (xs_set (i := 1) sc_fewest_drops.nd rfl (Or.inl rfl) (xe_callTy (c_list rfl) rfl T.f_list (by decide +kernel) (xa_cons (xv 0) xa_nil)))
    (xs_cons (xs_for (passO rfl) rfl (xi_range1 rfl T.f_range (xa_cons (xe_callB c_len rfl T.f_len PySem.boot_len (xa_cons (xv 1) xa_nil)) xa_nil)) (xg_name (i := 2) sc_fewest_drops.nd rfl (Or.inl rfl)) (xs_one (xs_for (passO rfl) rfl (xi_comb rfl T.i_combinations (xa_cons (xv 1) (xa_cons (xv 2) xa_nil))) (xg_name (i := 3) sc_fewest_drops.nd rfl (Or.inr rfl)) (xs_one (xs_if (xt_tru (xe_call H_holds_none (hr.mono (by decide)) tk rfl (xa_cons (xe_callTy c_tuple rfl T.f_tuple (by decide +kernel) (xa_cons (xe_lc (own := [("word", 4)]) rfl sc_fewest_drops.nd (xi_seq (xv 0)) (blkOk_by (own := [("word", 4)]) (N := N_fewest_drops) (sc := defScope s_fewest_drops) (by decide +kernel)) (fun _ _ _ _ _ => (xgw_name (i := 4) sc_fewest_drops.nd rfl (Or.inl rfl) (by decide))) (fun _ _ _ _ _ => (xts_one (xt_cmp (o_notIn hr) (xv 4) (xv 3) rfl))) (fun _ _ _ _ _ => (xv 4))) xa_nil)) xa_nil))) (xs_one (xs_ret (xv 3))) xs_nil)))))
    (xs_one (xs_ret (xv 0))))))
theorem fn_L_law_taken (T : Tx K mg w base Th) : Fn Th P w K mg base 1 "_law_taken" 2 m_L_law_taken :=
  T.d_L_law_taken.fn sc_L_law_taken fun f cdv A outer s H E hr tk => (xs_cons (xs_if (xt_cmp o_gt (xe_ix (i_any hr) (xv 0) xe_int (fun _ _ => rfl)) xe_int (nomark _)) (xs_cons (xs_set (i := 2) sc_L_law_taken.nd rfl (Or.inl rfl) (xe_op o_mod (xe_callTy c_int rfl T.f_int (by decide +kernel) (xa_cons (xe_ix (i_any hr) (xv 0) xe_int (fun _ _ => rfl)) xa_nil)) (xv 1)))
    (xs_cons (xs_asg (xe_op o_fdiv (xe_ix (i_any hr) (xv 0) xe_int (fun _ _ => rfl)) (xv 1)) (xg_sub (st_any hr) (xv 0) xe_int))
    (xs_one (xs_ret (xv 2))))) xs_nil)
    (xs_cons (xs_asg (xe_op o_add (xe_ix (i_any hr) (xv 0) xe_int (fun _ _ => rfl)) xe_int) (xg_sub (st_any hr) (xv 0) xe_int))
    (xs_cons (xs_if (xt_cmp o_gt (xe_ix (i_any hr) (xv 0) xe_int (fun _ _ => rfl)) (xe_callB c_len rfl T.f_len PySem.boot_len (xa_cons (xe_ix (i_any hr) (xv 0) xe_int (fun _ _ => rfl)) xa_nil)) (nomark _)) (xs_cons (xs_asg (xe_op o_mod (xe_callTy c_int rfl T.f_int (by decide +kernel) (xa_cons (xe_op o_add (xe_op o_mul (xe_ix (i_any hr) (xv 0) xe_int (fun _ _ => rfl)) xe_int) xe_int) xa_nil)) xe_int) (xg_sub (st_any hr) (xv 0) xe_int))
    (xs_one (xs_ret (xe_op o_mod (xe_callTy c_int rfl T.f_int (by decide +kernel) (xa_cons (xe_op o_fdiv (xe_ix (i_any hr) (xv 0) xe_int (fun _ _ => rfl)) xe_int) xa_nil)) (xv 1))))) xs_nil)
    (xs_cons (xs_set (i := 3) sc_L_law_taken.nd rfl (Or.inl rfl) (xe_ix (i_any hr) (xe_ix (i_any hr) (xv 0) xe_int (fun _ _ => rfl)) (xe_op o_sub (xe_ix (i_any hr) (xv 0) xe_int (fun _ _ => rfl)) xe_int) (fun _ _ => rfl)))
    (xs_cons (xs_asg (xe_op o_mod (xe_callTy c_int rfl T.f_int (by decide +kernel) (xa_cons (xe_op o_add (xe_op o_add (xe_op o_mul (xe_ix (i_any hr) (xv 0) xe_int (fun _ _ => rfl)) xe_int) (xv 3)) xe_int) xa_nil)) xe_int) (xg_sub (st_any hr) (xv 0) xe_int))
    (xs_cons (xs_if (xt_cmp o_ge (xv 3) (xe_op o_pow xe_int xe_int) (nomark _)) (xs_one (xs_asg (xe_op o_fdiv (xv 3) (xv 1)) (xg_sub (st_any hr) (xv 0) xe_int))) xs_nil)
    (xs_one (xs_ret (xe_op o_mod (xe_callTy c_int rfl T.f_int (by decide +kernel) (xa_cons (xv 3) xa_nil)) (xv 1))))))))))
theorem fn_L_law_pick (T : Tx K mg w base Th) (H_L_law_taken : Fn Th P w K mg base 1 "_law_taken" 2 m_L_law_taken) : Fn Th P w K mg base 2 "_law_pick" 2 m_L_law_pick :=
  T.d_L_law_pick.fn sc_L_law_pick fun f cdv A outer s H E hr tk => (xs_one (xs_ret (xe_ix (i_any hr) (xv 1) (xe_call H_L_law_taken (hr.mono (by decide)) tk rfl (xa_cons (xv 0) (xa_cons (xe_callB c_len rfl T.f_len PySem.boot_len (xa_cons (xv 1) xa_nil)) xa_nil))) (fun _ _ => rfl))))
theorem fn_L_law_alike (T : Tx K mg w base Th) : ∀ k : Nat, Fn Th P w K mg base (1 + k) "_law_alike" 2 (m_L_law_alike k) := by
  intro k
  induction k with
  | zero => exact T.d_L_law_alike.none.mono (Nat.zero_le _)
  | succ k ih =>
    have IH_L_law_alike := ih
    exact T.d_L_law_alike.fn (k := 1 + k) sc_L_law_alike (fun f cdv A outer s H E hr tk => (xs_cons (xs_if (xt_tru (xe_isaT rfl T.f_isinstance (xv 1) (xtys_cons rfl T.f_tuple (by decide +kernel) (xtys_cons rfl T.f_list (by decide +kernel) xtys_nil)))) (xs_cons (xs_if (xw_pt (xw_or (xt_not (xt_tru (xe_isaT rfl T.f_isinstance (xv 0) (xtys_cons rfl T.f_tuple (by decide +kernel) (xtys_cons rfl T.f_list (by decide +kernel) xtys_nil))))) (xw_or1 (xt_cmp (o_ne hr) (xe_callB c_isa rfl T.f_isinstance (by decide +kernel) (xa_cons (xv 0) (xa_cons (xe_bty rfl T.f_list (by decide +kernel)) xa_nil))) (xe_callB c_isa rfl T.f_isinstance (by decide +kernel) (xa_cons (xv 1) (xa_cons (xe_bty rfl T.f_list (by decide +kernel)) xa_nil))) (nomark _))))) (xs_one (xs_ret xe_bl)) xs_nil)
    (xs_cons (xs_if (xt_cmp (o_ne hr) (xe_callB c_len rfl T.f_len PySem.boot_len (xa_cons (xv 0) xa_nil)) (xe_callB c_len rfl T.f_len PySem.boot_len (xa_cons (xv 1) xa_nil)) (nomark _)) (xs_one (xs_ret xe_bl)) xs_nil)
    (xs_one (xs_ret (xe_cmp (o_eq hr) (xe_lc (own := [("k", 2)]) rfl sc_L_law_alike.nd (xi_range1 rfl T.f_range (xa_cons (xe_callB c_len rfl T.f_len PySem.boot_len (xa_cons (xv 1) xa_nil)) xa_nil)) (blkOk_by (own := [("k", 2)]) (N := N_L_law_alike) (sc := defScope s_L_law_alike) (by decide +kernel)) (fun _ _ _ _ _ => (xgw_name (i := 2) sc_L_law_alike.nd rfl (Or.inl rfl) (by decide))) (fun _ _ _ _ _ => (xts_one (xt_not (xt_tru (xe_call IH_L_law_alike (hr.mono (by omega)) takes0 rfl (xa_cons (xe_ix (i_any hr) (xv 0) (xv 2) (fun _ _ => rfl)) (xa_cons (xe_ix (i_any hr) (xv 1) (xv 2) (fun _ _ => rfl)) xa_nil))))))) (fun _ _ _ _ _ => (xv 2))) (xe_lst xa_nil) (nomark _)))))) xs_nil)
    (xs_cons (xs_if (xw_pt (xw_or (xt_cmp o_isN (xv 1) xe_non (nomark _)) (xw_or1 (xt_tru (xe_callB c_isa rfl T.f_isinstance (by decide +kernel) (xa_cons (xv 1) (xa_cons (xe_bty rfl T.f_str (by decide +kernel)) xa_nil))))))) (xs_one (xs_ret (xe_and (xe_cmp (o_eq hr) (xv 0) (xv 1) (nomark _)) (xe_one (xe_cmp (o_eq hr) (xe_callB c_isa rfl T.f_isinstance (by decide +kernel) (xa_cons (xv 0) (xa_cons (xe_bty rfl T.f_str (by decide +kernel)) xa_nil))) (xe_callB c_isa rfl T.f_isinstance (by decide +kernel) (xa_cons (xv 1) (xa_cons (xe_bty rfl T.f_str (by decide +kernel)) xa_nil))) (nomark _)))))) xs_nil)
    (xs_one (xs_ret (xe_and (xe_callB c_isa rfl T.f_isinstance (by decide +kernel) (xa_cons (xv 0) (xa_cons (xe_bty rfl T.f_int (by decide +kernel)) xa_nil))) (xe_and (xe_cmp (o_eq hr) (xe_callB c_isa rfl T.f_isinstance (by decide +kernel) (xa_cons (xv 0) (xa_cons (xe_bty rfl T.f_bool (by decide +kernel)) xa_nil))) (xe_callB c_isa rfl T.f_isinstance (by decide +kernel) (xa_cons (xv 1) (xa_cons (xe_bty rfl T.f_bool (by decide +kernel)) xa_nil))) (nomark _)) (xe_one (xe_cmp (o_eq hr) (xv 0) (xv 1) (nomark _))))))))))
theorem fn_L_law_words (T : Tx K mg w base Th) : Fn Th P w K mg base 1 "_law_words" 0 m_L_law_words :=
  T.d_L_law_words.fn sc_L_law_words fun f cdv A outer s H E hr tk => (xs_cons (xs_set (i := 0) sc_L_law_words.nd rfl (Or.inl rfl) (xe_lst (xa_cons xe_str (xa_cons xe_str (xa_cons xe_str (xa_cons xe_str (xa_cons xe_str (xa_cons xe_str (xa_cons xe_str (xa_cons xe_str (xa_cons xe_str (xa_cons xe_str xa_nil))))))))))))
    (xs_one (xs_ret (xe_op o_add (xv 0) (xe_lst (xa_cons xe_str (xa_cons xe_str xa_nil)))))))
theorem fn_L_law_design (T : Tx K mg w base Th) (H_L_law_pick : Fn Th P w K mg base 2 "_law_pick" 2 m_L_law_pick) (H_L_law_taken : Fn Th P w K mg base 1 "_law_taken" 2 m_L_law_taken) (H_L_law_words : Fn Th P w K mg base 1 "_law_words" 0 m_L_law_words) : Fn Th P w K mg base 3 "_law_design" 1 m_L_law_design :=
  T.d_L_law_design.fn sc_L_law_design fun f cdv A outer s H E hr tk => (xs_cons (xs_set (i := 1) sc_L_law_design.nd rfl (Or.inr rfl) (xe_call H_L_law_pick (hr.mono (by decide)) tk rfl (xa_cons (xv 0) (xa_cons (xe_lst (xa_cons xe_int (xa_cons xe_int (xa_cons xe_int xa_nil)))) xa_nil))))
    (xs_cons (xs_set (i := 2) sc_L_law_design.nd rfl (Or.inr rfl) (xe_lc (own := [("word", 3)]) rfl sc_L_law_design.nd (xi_seq (xe_call0 H_L_law_words (hr.mono (by decide)) rfl)) (blkOk_by (own := [("word", 3)]) (N := N_L_law_design) (sc := defScope s_L_law_design) (by decide +kernel)) (fun _ _ _ _ _ => (xgw_name (i := 3) sc_L_law_design.nd rfl (Or.inl rfl) (by decide))) (fun _ _ _ _ _ => (xts_one (xt_cmp (o_eq hr) (xe_call H_L_law_taken (hr.mono (by decide)) takes0 rfl (xa_cons (xv 0) (xa_cons (xv 1) xa_nil))) xe_int (nomark _)))) (fun _ _ _ _ _ => (xv 3))))
    (xs_cons (xs_if (xt_cmp (o_eq hr) (xe_call H_L_law_taken (hr.mono (by decide)) tk rfl (xa_cons (xv 0) (xa_cons xe_int xa_nil))) xe_int (nomark _)) (xs_one (xs_set (i := 2) sc_L_law_design.nd rfl (Or.inr rfl) (xe_op o_add (xv 2) (xe_lc (own := [("word", 3)]) rfl sc_L_law_design.nd (xi_seq (xe_lst (xa_cons xe_str (xa_cons xe_str (xa_cons xe_str (xa_cons xe_str xa_nil)))))) (blkOk_by (own := [("word", 3)]) (N := N_L_law_design) (sc := defScope s_L_law_design) (by decide +kernel)) (fun _ _ _ _ _ => (xgw_name (i := 3) sc_L_law_design.nd rfl (Or.inl rfl) (by decide))) (fun _ _ _ _ _ => (xts_one (xt_cmp (o_notIn hr) (xv 3) (xv 2) rfl))) (fun _ _ _ _ _ => (xv 3)))))) xs_nil)
    (xs_one (xs_ret (xe_callTy c_tuple rfl T.f_tuple (by decide +kernel) (xa_cons (xe_callB (c_sortedR hr) rfl T.f_sorted (by decide +kernel) (xa_cons (xv 2) xa_nil)) xa_nil)))))))
theorem fn_L_law_lots (T : Tx K mg w base Th) : Fn Th P w K mg base 1 "_law_lots" 0 m_L_law_lots :=
  T.d_L_law_lots.fn sc_L_law_lots fun f cdv A outer s H E hr tk => (xs_cons (xs_set (i := 0) sc_L_law_lots.nd rfl (Or.inl rfl) (xe_lst (xa_cons (xe_tup (xa_cons xe_str (xa_cons xe_str xa_nil))) (xa_cons (xe_tup (xa_cons xe_str (xa_cons xe_str (xa_cons xe_str xa_nil)))) (xa_cons (xe_tup (xa_cons xe_str (xa_cons xe_str xa_nil))) (xa_cons (xe_tup (xa_cons xe_str (xa_cons xe_str xa_nil))) xa_nil))))))
    (xs_cons (xs_set (i := 0) sc_L_law_lots.nd rfl (Or.inl rfl) (xe_op o_add (xv 0) (xe_lst (xa_cons (xe_tup (xa_cons xe_str (xa_cons xe_str xa_nil))) (xa_cons (xe_tup (xa_cons xe_str (xa_cons xe_str xa_nil))) (xa_cons (xe_tup (xa_cons xe_str (xa_cons xe_str (xa_cons xe_str xa_nil)))) (xa_cons (xe_tup (xa_cons xe_str (xa_cons xe_str xa_nil))) xa_nil)))))))
    (xs_cons (xs_set (i := 0) sc_L_law_lots.nd rfl (Or.inl rfl) (xe_op o_add (xv 0) (xe_lst (xa_cons (xe_tup (xa_cons xe_str (xa_cons xe_str xa_nil))) (xa_cons (xe_tup (xa_cons xe_str (xa_cons xe_str xa_nil))) (xa_cons (xe_tup (xa_cons xe_str (xa_cons xe_str (xa_cons xe_str xa_nil)))) (xa_cons (xe_tup (xa_cons xe_str (xa_cons xe_str xa_nil))) xa_nil)))))))
    (xs_one (xs_ret (xe_op o_add (xv 0) (xe_lst (xa_cons (xe_tup (xa_cons xe_str (xa_cons xe_str xa_nil))) (xa_cons (xe_tup (xa_cons xe_str (xa_cons xe_str xa_nil))) (xa_cons (xe_tup (xa_cons xe_str (xa_cons xe_str xa_nil))) (xa_cons (xe_tup (xa_cons xe_str (xa_cons xe_str xa_nil))) xa_nil)))))))))))
theorem fn_L_law_lots_in (T : Tx K mg w base Th) (H_L_law_lots : Fn Th P w K mg base 1 "_law_lots" 0 m_L_law_lots) : Fn Th P w K mg base 2 "_law_lots_in" 1 m_L_law_lots_in :=
  T.d_L_law_lots_in.fn sc_L_law_lots_in fun f cdv A outer s H E hr tk => (xs_one (xs_ret (xe_lc (own := [("lot", 1)]) rfl sc_L_law_lots_in.nd (xi_seq (xe_call0 H_L_law_lots (hr.mono (by decide)) rfl)) (blkOk_by (own := [("lot", 1)]) (N := N_L_law_lots_in) (sc := defScope s_L_law_lots_in) (by decide +kernel)) (fun _ _ _ _ _ => (xgw_name (i := 1) sc_L_law_lots_in.nd rfl (Or.inl rfl) (by decide))) (fun _ _ _ _ _ => (xts_one (xt_cmp (o_eq hr) (xe_lc (own := [("word", 2)]) rfl sc_L_law_lots_in.nd (xi_seq (xv 1)) (blkOk_by (own := [("word", 2)]) (by rfl)) (fun _ _ _ _ _ => (xgw_name (i := 2) sc_L_law_lots_in.nd rfl (Or.inl rfl) (by decide))) (fun _ _ _ _ _ => (xts_one (xt_cmp (o_notIn hr) (xv 2) (xv 0) rfl))) (fun _ _ _ _ _ => (xv 2))) (xe_lst xa_nil) (nomark _)))) (fun _ _ _ _ _ => (xv 1)))))
theorem fn_L_law_groups (T : Tx K mg w base Th) : Fn Th P w K mg base 1 "_law_groups" 1 m_L_law_groups :=
  T.d_L_law_groups.fn sc_L_law_groups fun f cdv A outer s H E hr tk => (xs_cons (xs_set (i := 1) sc_L_law_groups.nd rfl (Or.inl rfl) (xe_lst (xa_cons (xe_tup xa_nil) xa_nil)))
    (xs_cons (xs_for (passO rfl) rfl (xi_seq (xv 0)) (xg_name (i := 2) sc_L_law_groups.nd rfl (Or.inr rfl)) (xs_one (xs_set (i := 1) sc_L_law_groups.nd rfl (Or.inl rfl) (xe_op o_add (xv 1) (xe_lc (own := [("group", 3)]) rfl sc_L_law_groups.nd (xi_seq (xv 1)) (blkOk_by (own := [("group", 3)]) (N := N_L_law_groups) (sc := defScope s_L_law_groups) (by decide +kernel)) (fun _ _ _ _ _ => (xgw_name (i := 3) sc_L_law_groups.nd rfl (Or.inl rfl) (by decide))) (fun _ _ _ _ _ => xts_nil) (fun _ _ _ _ _ => (xe_op o_add (xv 3) (xe_tup (xa_cons (xv 2) xa_nil)))))))))
    (xs_one (xs_ret (xv 1)))))
theorem fn_law {f0 : Addr} {fd : FuncData} (T : Tx K mg w base Th) (D : Dx K base mg Th "law" s_law f0 fd) (H_L_law_alike : ∀ k, Fn Th P w K mg base (1 + k) "_law_alike" 2 (m_L_law_alike k)) (H_L_law_design : Fn Th P w K mg base 3 "_law_design" 1 m_L_law_design) (H_L_law_groups : Fn Th P w K mg base 1 "_law_groups" 1 m_L_law_groups) (H_L_law_lots_in : Fn Th P w K mg base 2 "_law_lots_in" 1 m_L_law_lots_in) (H_L_law_taken : Fn Th P w K mg base 1 "_law_taken" 2 m_L_law_taken) (H_L_law_words : Fn Th P w K mg base 1 "_law_words" 0 m_L_law_words) (H_fewest_drops : Fn Th P w K mg base 4 "fewest_drops" 1 m_fewest_drops) (H_greatest_sound : Fn Th P w K mg base 4 "greatest_sound" 1 m_greatest_sound) (H_is_sound : Fn Th P w K mg base 4 "is_sound" 1 m_is_sound) : FnOk P w K mg base (L2.CX P w) 10 f0 fd ["script"] (spM ⟨K, mg, Th, w⟩ 1 m_law) :=
  D.fnok sc_law fun c Pt A outer s H E TB hTm hUm hr tk => (xs_cons (xs_set (i := 1) sc_law.nd rfl (Or.inr rfl) (xe_lstH (xa_cons (xv 0) (xa_cons xe_int (xa_cons xe_int (xa_cons xe_int xa_nil))))))
    (xs_cons (xs_asg (xe_tup (xa_cons (xe_call H_L_law_design (hr.mono (by decide)) tk rfl (xa_cons (xv 1) xa_nil)) (xa_cons (xe_call H_L_law_design (hr.mono (by decide)) tk rfl (xa_cons (xv 1) xa_nil)) xa_nil))) (xg_tup rfl (xgs_cons (xg_name (i := 2) sc_law.nd rfl (Or.inl rfl)) (xgs_cons (xg_name (i := 3) sc_law.nd rfl (Or.inr rfl)) xgs_nil))))
    (xs_cons (xs_set (i := 4) sc_law.nd rfl (Or.inr rfl) (xe_callTy c_tuple rfl T.f_tuple (by decide +kernel) (xa_cons (xe_lc (own := [("word", 11)]) rfl sc_law.nd (xi_seq (xv 2)) (blkOk_by (own := [("word", 11)]) (N := N_law) (sc := defScope s_law) (by decide +kernel)) (fun _ _ _ _ _ => (xgw_name (i := 11) sc_law.nd rfl (Or.inl rfl) (by decide))) (fun _ _ _ _ _ => (xts_one (xt_cmp (o_eq hr) (xe_call H_L_law_taken (hr.mono (by decide)) takes0 rfl (xa_cons (xv 1) (xa_cons xe_int xa_nil))) xe_int (nomark _)))) (fun _ _ _ _ _ => (xv 11))) xa_nil)))
    (xs_cons (xs_if (xt_cmp (o_eq hr) (xe_call H_L_law_lots_in (hr.mono (by decide)) tk rfl (xa_cons (xv 4) xa_nil)) (xe_lst xa_nil) (nomark _)) (xs_cons (xs_setLc (i := 5) (own := [("word", 11)]) (f := false) rfl sc_law.nd rfl rfl (sw_true rfl rfl rfl (by decide +kernel)) (xi_seq (xe_call0 H_L_law_words (hr.mono (by decide)) rfl)) (blkOk_by (own := [("word", 11)]) (N := N_law) (sc := defScope s_law) (by decide +kernel)) (fun _ _ _ _ _ => (xgw_name (i := 11) sc_law.nd rfl (Or.inl rfl) (by decide))) (fun _ _ _ _ _ => (xts_one (xt_cmp (o_notIn hr) (xv 11) (xv 4) rfl))) (fun _ _ _ _ _ => (xv 11)))
    (xs_cons (xs_setLc (i := 6) (own := [("group", 8)]) (f := false) rfl sc_law.nd rfl rfl (sw_true rfl rfl rfl (by decide +kernel)) (xi_seq (xe_call H_L_law_groups (hr.mono (by decide)) tk rfl (xa_cons (xv 5) xa_nil))) (blkOk_by (own := [("group", 8)]) (N := N_law) (sc := defScope s_law) (by decide +kernel)) (fun _ _ _ _ _ => (xgw_name (i := 8) sc_law.nd rfl (Or.inl rfl) (by decide))) (fun _ _ _ _ _ => (xts_one (xt_cmp (o_eq hr) (xe_call H_L_law_lots_in (hr.mono (by decide)) takes0 rfl (xa_cons (xe_op o_add (xv 4) (xv 8)) xa_nil)) (xe_lst xa_nil) (nomark _)))) (fun _ _ _ _ _ => (xv 8)))
    (xs_cons (xs_set (i := 7) sc_law.nd rfl (Or.inl rfl) (xe_lstH xa_nil))
    (xs_cons (xs_for (passO rfl) rfl (xi_seq (xv 6)) (xg_name (i := 8) sc_law.nd rfl (Or.inr rfl)) (xs_one (xs_if (xt_cmp (o_eq hr) (xe_lc (own := [("word", 11)]) rfl sc_law.nd (xi_seq (xv 5)) (blkOk_by (own := [("word", 11)]) (N := N_law) (sc := defScope s_law) (by decide +kernel)) (fun _ _ _ _ _ => (xgw_name (i := 11) sc_law.nd rfl (Or.inl rfl) (by decide))) (fun _ _ _ _ _ => (xts_one (xw_pt (xw_and (xt_cmp (o_notIn hr) (xv 11) (xv 8) rfl) (xw_and1 (xt_cmp (o_eq hr) (xe_call H_L_law_lots_in (hr.mono (by decide)) takes0 rfl (xa_cons (xe_op o_add (xe_op o_add (xv 4) (xv 8)) (xe_tup (xa_cons (xv 11) xa_nil))) xa_nil)) (xe_lst xa_nil) (nomark _))))))) (fun _ _ _ _ _ => (xv 11))) (xe_lst xa_nil) (nomark _)) (xs_one (xs_expr (xe_bm PySem.F.plainAttrs_list PySem.F.slot_list_append PySem.F.type_list_append m_append (xv 7) (xa_cons (xe_callTy c_tuple rfl T.f_tuple (by decide +kernel) (xa_cons (xe_callB (c_sortedR hr) rfl T.f_sorted (by decide +kernel) (xa_cons (xe_op o_add (xv 4) (xv 8)) xa_nil)) xa_nil)) xa_nil)))) xs_nil)))
    (xs_one (xs_if (xt_not (xt_tru (xe_call (H_L_law_alike 8) (hr.mono (by decide)) tk rfl (xa_cons (xe_call H_greatest_sound (hr.mono (by decide)) tk rfl (xa_cons (xv 4) xa_nil)) (xa_cons (xe_callTy c_tuple rfl T.f_tuple (by decide +kernel) (xa_cons (xe_callB (c_sortedR hr) rfl T.f_sorted (by decide +kernel) (xa_cons (xv 7) xa_nil)) xa_nil)) xa_nil))))) (xs_one (xs_ret xe_bl)) xs_nil)))))) xs_nil)
    (xs_cons (xs_if (xw_pt (xw_or (xt_cmp (o_ne hr) (xe_call H_is_sound (hr.mono (by decide)) tk rfl (xa_cons (xv 3) xa_nil)) (xe_cmp (o_eq hr) (xe_call H_L_law_lots_in (hr.mono (by decide)) tk rfl (xa_cons (xv 3) xa_nil)) (xe_lst xa_nil) (nomark _)) (nomark _)) (xw_or1 (xw_pt (xw_and (xt_not (xt_tru (xe_call H_is_sound (hr.mono (by decide)) tk rfl (xa_cons (xv 3) xa_nil)))) (xw_and1 (xt_not (xt_tru (xe_nm (k := 4) T.n_L_law_not_made sc_L_law_not_made (fun _ _ _ _ _ h1 h2 => nm_gives (by decide) rfl rfl h1 rfl rfl h2 rfl rfl T.f_isinstance rfl rfl) TB hTm hUm rfl rfl (hr.mono (by decide)) (fun A1 o1 s1 H1 E f1 c1 hr tk => (xe_call H_greatest_sound (hr.mono (by decide)) tk rfl (xa_cons (xv 3) xa_nil)))))))))))) (xs_one (xs_ret xe_bl)) xs_nil)
    (xs_cons (xs_set (i := 9) sc_law.nd rfl (Or.inl rfl) xe_non)
    (xs_cons (xs_for (passO rfl) rfl (xi_seq (xe_callB (c_sortedR hr) rfl T.f_sorted (by decide +kernel) (xa_cons (xe_lc (own := [("group", 8)]) rfl sc_law.nd (xi_seq (xe_call H_L_law_groups (hr.mono (by decide)) tk rfl (xa_cons (xv 3) xa_nil))) (blkOk_by (own := [("group", 8)]) (N := N_law) (sc := defScope s_law) (by decide +kernel)) (fun _ _ _ _ _ => (xgw_name (i := 8) sc_law.nd rfl (Or.inl rfl) (by decide))) (fun _ _ _ _ _ => xts_nil) (fun _ _ _ _ _ => (xe_tup (xa_cons (xe_callB c_len rfl T.f_len PySem.boot_len (xa_cons (xv 8) xa_nil)) (xa_cons (xv 8) xa_nil))))) xa_nil))) (xg_tup rfl (xgs_cons (xg_name (i := 10) sc_law.nd rfl (Or.inl rfl)) (xgs_cons (xg_name (i := 8) sc_law.nd rfl (Or.inr rfl)) xgs_nil))) (xs_one (xs_if (xw_pt (xw_and (xt_cmp o_isN (xv 9) xe_non (nomark _)) (xw_and1 (xt_cmp (o_eq hr) (xe_call H_L_law_lots_in (hr.mono (by decide)) tk rfl (xa_cons (xe_lc (own := [("word", 11)]) rfl sc_law.nd (xi_seq (xv 3)) (blkOk_by (own := [("word", 11)]) (N := N_law) (sc := defScope s_law) (by decide +kernel)) (fun _ _ _ _ _ => (xgw_name (i := 11) sc_law.nd rfl (Or.inl rfl) (by decide))) (fun _ _ _ _ _ => (xts_one (xt_cmp (o_notIn hr) (xv 11) (xv 8) rfl))) (fun _ _ _ _ _ => (xv 11))) xa_nil)) (xe_lst xa_nil) (nomark _))))) (xs_one (xs_set (i := 9) sc_law.nd rfl (Or.inl rfl) (xv 8))) xs_nil)))
    (xs_one (xs_ret (xe_and (xe_call (H_L_law_alike 8) (hr.mono (by decide)) tk rfl (xa_cons (xe_call H_fewest_drops (hr.mono (by decide)) tk rfl (xa_cons (xv 3) xa_nil)) (xa_cons (xv 9) xa_nil))) (xe_one (xe_or (xe_cmp o_gt (xe_callB c_len rfl T.f_len PySem.boot_len (xa_cons (xv 4) xa_nil)) xe_int (nomark _)) (xe_one (xe_cmp (o_eq hr) (xe_callB c_len rfl T.f_len PySem.boot_len (xa_cons (xe_call H_greatest_sound (hr.mono (by decide)) tk rfl (xa_cons (xe_tup xa_nil) xa_nil)) xa_nil)) xe_int (nomark _)))))))))))))))
def lawLevel : Nat := 10
theorem fn_all {f0 : Addr} {fd : FuncData} (T : Tx K mg w base Th) (D : Dx K base mg Th "law" s_law f0 fd) : FnOk P w K mg base (L2.CX P w) 10 f0 fd ["script"] (spM ⟨K, mg, Th, w⟩ 1 m_law) := by
  have H_is_word := fn_is_word (P := P) (w := w) T
  have H_is_design := fn_is_design (P := P) (w := w) T H_is_word
  have H_require_design := fn_require_design (P := P) (w := w) T H_is_design
  have H_with_word := fn_with_word (P := P) (w := w) T
  have H_lots := fn_lots (P := P) (w := w) T
  have H_holds := fn_holds (P := P) (w := w) T
  have H_holds_none := fn_holds_none (P := P) (w := w) T H_holds H_lots
  have H_is_sound := fn_is_sound (P := P) (w := w) T H_holds_none H_require_design
  have H_further_words := fn_further_words (P := P) (w := w) T
  have H_sound_ones_above := fn_sound_ones_above (P := P) (w := w) T H_further_words H_holds_none H_with_word
  have H_is_greatest := fn_is_greatest (P := P) (w := w) T H_further_words H_holds_none H_with_word
  have H_greatest_sound := fn_greatest_sound (P := P) (w := w) T H_holds_none H_is_greatest H_require_design H_sound_ones_above
  have H_fewest_drops := fn_fewest_drops (P := P) (w := w) T H_holds_none H_require_design
  have H_L_law_taken := fn_L_law_taken (P := P) (w := w) T
  have H_L_law_pick := fn_L_law_pick (P := P) (w := w) T H_L_law_taken
  have H_L_law_alike := fn_L_law_alike (P := P) (w := w) T
  have H_L_law_words := fn_L_law_words (P := P) (w := w) T
  have H_L_law_design := fn_L_law_design (P := P) (w := w) T H_L_law_pick H_L_law_taken H_L_law_words
  have H_L_law_lots := fn_L_law_lots (P := P) (w := w) T
  have H_L_law_lots_in := fn_L_law_lots_in (P := P) (w := w) T H_L_law_lots
  have H_L_law_groups := fn_L_law_groups (P := P) (w := w) T
  have H_law := fn_law (P := P) (w := w) T D H_L_law_alike H_L_law_design H_L_law_groups H_L_law_lots_in H_L_law_taken H_L_law_words H_fewest_drops H_greatest_sound H_is_sound
  exact H_law
end
end P06
end

section
set_option Elab.async false
set_option linter.all false
set_option autoImplicit false
set_option maxRecDepth 100000
set_option maxHeartbeats 0
namespace P06
open PySem PySem.Spec PyProof.Rows L2 Mo
def hd_is_word : He.DefD := ⟨("is_word", none), "is_word", "is_word", defArgs (top 7), defBody (top 7), defScope (top 7), [], []⟩
def hd_is_design : He.DefD := ⟨("is_design", none), "is_design", "is_design", defArgs (top 8), defBody (top 8), defScope (top 8), [], []⟩
def hd_require_design : He.DefD := ⟨("require_design", none), "require_design", "require_design", defArgs (top 9), defBody (top 9), defScope (top 9), [], []⟩
def hd_with_word : He.DefD := ⟨("with_word", none), "with_word", "with_word", defArgs (top 10), defBody (top 10), defScope (top 10), [], []⟩
def hd_lots : He.DefD := ⟨("lots", none), "lots", "lots", defArgs (top 13), defBody (top 13), defScope (top 13), [], []⟩
def hd_holds : He.DefD := ⟨("holds", none), "holds", "holds", defArgs (top 14), defBody (top 14), defScope (top 14), [], []⟩
def hd_holds_none : He.DefD := ⟨("holds_none", none), "holds_none", "holds_none", defArgs (top 15), defBody (top 15), defScope (top 15), [], []⟩
def hd_is_sound : He.DefD := ⟨("is_sound", none), "is_sound", "is_sound", defArgs (top 16), defBody (top 16), defScope (top 16), [], []⟩
def hd_further_words : He.DefD := ⟨("further_words", none), "further_words", "further_words", defArgs (top 17), defBody (top 17), defScope (top 17), [], []⟩
def hd_sound_ones_above : He.DefD := ⟨("sound_ones_above", none), "sound_ones_above", "sound_ones_above", defArgs (top 18), defBody (top 18), defScope (top 18), [], []⟩
def hd_is_greatest : He.DefD := ⟨("is_greatest", none), "is_greatest", "is_greatest", defArgs (top 19), defBody (top 19), defScope (top 19), [], []⟩
def hd_greatest_sound : He.DefD := ⟨("greatest_sound", none), "greatest_sound", "greatest_sound", defArgs (top 20), defBody (top 20), defScope (top 20), [], []⟩
def hd_fewest_drops : He.DefD := ⟨("fewest_drops", none), "fewest_drops", "fewest_drops", defArgs (top 21), defBody (top 21), defScope (top 21), [], []⟩
def hd_L_law_taken : He.DefD := ⟨("_law_taken", none), "_law_taken", "_law_taken", defArgs (top 23), defBody (top 23), defScope (top 23), [], []⟩
def hd_L_law_pick : He.DefD := ⟨("_law_pick", none), "_law_pick", "_law_pick", defArgs (top 24), defBody (top 24), defScope (top 24), [], []⟩
def hd_L_law_alike : He.DefD := ⟨("_law_alike", none), "_law_alike", "_law_alike", defArgs (top 25), defBody (top 25), defScope (top 25), [], []⟩
def hd_L_law_words : He.DefD := ⟨("_law_words", none), "_law_words", "_law_words", defArgs (top 26), defBody (top 26), defScope (top 26), [], []⟩
def hd_L_law_design : He.DefD := ⟨("_law_design", none), "_law_design", "_law_design", defArgs (top 27), defBody (top 27), defScope (top 27), [], []⟩
def hd_L_law_lots : He.DefD := ⟨("_law_lots", none), "_law_lots", "_law_lots", defArgs (top 28), defBody (top 28), defScope (top 28), [], []⟩
def hd_L_law_lots_in : He.DefD := ⟨("_law_lots_in", none), "_law_lots_in", "_law_lots_in", defArgs (top 29), defBody (top 29), defScope (top 29), [], []⟩
def hd_L_law_groups : He.DefD := ⟨("_law_groups", none), "_law_groups", "_law_groups", defArgs (top 31), defBody (top 31), defScope (top 31), [], []⟩
def hd_L_law_not_made : He.DefD := ⟨("_law_not_made", none), "_law_not_made", "_law_not_made", defArgs (top 30), defBody (top 30), defScope (top 30), [], []⟩
def hd_law : He.DefD := ⟨("law", none), "law", "law", defArgs (top 32), defBody (top 32), defScope (top 32), [], []⟩
def hfn : List He.DefD := [hd_is_word, hd_is_design, hd_require_design, hd_with_word, hd_lots, hd_holds, hd_holds_none, hd_is_sound, hd_further_words, hd_sound_ones_above, hd_is_greatest, hd_greatest_sound, hd_fewest_drops, hd_L_law_taken, hd_L_law_pick, hd_L_law_alike, hd_L_law_words, hd_L_law_design, hd_L_law_lots, hd_L_law_lots_in, hd_L_law_groups, hd_L_law_not_made, hd_law]
def hfa : List He.Fa := [.free "all", .free "any", .free "bool", .free "int", .free "isinstance", .free "len", .free "list", .free "range", .free "sorted", .free "str", .free "tuple", .free "zip", .glo "BadDesign", .exc "BadDesign", .glo "NotMade", .exc "NotMade", .glo "is_word", .glo "is_design", .glo "require_design", .glo "with_word", .glo "lots", .glo "holds", .glo "holds_none", .glo "is_sound", .glo "further_words", .glo "sound_ones_above", .glo "is_greatest", .glo "greatest_sound", .glo "fewest_drops", .glo "_law_taken", .glo "_law_pick", .glo "_law_alike", .glo "_law_words", .glo "_law_design", .glo "_law_lots", .glo "_law_lots_in", .glo "_law_groups", .glo "_law_not_made", .glo "OwnError", .glo "law"]
def hex (K : PySem.W.Frag) : Bool := kcB K "BREAKERS" c_BREAKERS && (kcB K "WORDS" c_WORDS && (tyB K "combinations" "itertools.combinations" && (exfB K "OwnError" "NotMade" "NotMade" true)))
abbrev hR : PySem.W.OpenRow := PySem.W.OpenLaw.row PySem.Challenge.rw_ownedborder_k06_whole_borders
abbrev hk : PySem.W.Hook := He.hookX 14 hfa hfn [] [("law", none)] hex
def hob (s : PySem.W.SharedT) : He.AlX := He.obsX 14 hfa hfn [] [("law", none)] hex (HandSHeadRun.getT s)
theorem hob_eq (s : PySem.W.SharedT) : hob s = hk.obs s.abs := He.obsX_eq (HandSHeadRun.getT_eq s)
theorem hrun (w : World) : HandSHeadRun.RunEqI hR (PySem.W.view hR.prog [32]) hk hob 4000 ["combinations", "OwnError", "BadDesign", "NotMade", "WORDS", "is_word", "is_design", "require_design", "with_word", "BREAKERS", "lots", "holds", "holds_none", "is_sound", "further_words", "sound_ones_above", "is_greatest", "greatest_sound", "fewest_drops", "_law_taken", "_law_pick", "_law_alike", "_law_words", "_law_design", "_law_lots", "_law_lots_in", "_law_not_made", "_law_groups"] w := by
  unfold HandSHeadRun.RunEqI
  kernel_rfl
theorem hTx {K : PySem.W.Frag} {base h : Heap} {mg : Str → Option Value} {w : World} (X : K.In h) (G : h.Ns mainGlobals mg) (c : He.SaysX hfa hfn [] [("law", none)] hex w h K) : Tx K mg w base (thOf K "law" s_law) := by
  have D := c.t.d
  obtain ⟨fd_is_word, F_is_word⟩ := D.def_ 0 (d := hd_is_word) rfl
  obtain ⟨fd_is_design, F_is_design⟩ := D.def_ 1 (d := hd_is_design) rfl
  obtain ⟨fd_require_design, F_require_design⟩ := D.def_ 2 (d := hd_require_design) rfl
  obtain ⟨fd_with_word, F_with_word⟩ := D.def_ 3 (d := hd_with_word) rfl
  obtain ⟨fd_lots, F_lots⟩ := D.def_ 4 (d := hd_lots) rfl
  obtain ⟨fd_holds, F_holds⟩ := D.def_ 5 (d := hd_holds) rfl
  obtain ⟨fd_holds_none, F_holds_none⟩ := D.def_ 6 (d := hd_holds_none) rfl
  obtain ⟨fd_is_sound, F_is_sound⟩ := D.def_ 7 (d := hd_is_sound) rfl
  obtain ⟨fd_further_words, F_further_words⟩ := D.def_ 8 (d := hd_further_words) rfl
  obtain ⟨fd_sound_ones_above, F_sound_ones_above⟩ := D.def_ 9 (d := hd_sound_ones_above) rfl
  obtain ⟨fd_is_greatest, F_is_greatest⟩ := D.def_ 10 (d := hd_is_greatest) rfl
  obtain ⟨fd_greatest_sound, F_greatest_sound⟩ := D.def_ 11 (d := hd_greatest_sound) rfl
  obtain ⟨fd_fewest_drops, F_fewest_drops⟩ := D.def_ 12 (d := hd_fewest_drops) rfl
  obtain ⟨fd_L_law_taken, F_L_law_taken⟩ := D.def_ 13 (d := hd_L_law_taken) rfl
  obtain ⟨fd_L_law_pick, F_L_law_pick⟩ := D.def_ 14 (d := hd_L_law_pick) rfl
  obtain ⟨fd_L_law_alike, F_L_law_alike⟩ := D.def_ 15 (d := hd_L_law_alike) rfl
  obtain ⟨fd_L_law_words, F_L_law_words⟩ := D.def_ 16 (d := hd_L_law_words) rfl
  obtain ⟨fd_L_law_design, F_L_law_design⟩ := D.def_ 17 (d := hd_L_law_design) rfl
  obtain ⟨fd_L_law_lots, F_L_law_lots⟩ := D.def_ 18 (d := hd_L_law_lots) rfl
  obtain ⟨fd_L_law_lots_in, F_L_law_lots_in⟩ := D.def_ 19 (d := hd_L_law_lots_in) rfl
  obtain ⟨fd_L_law_groups, F_L_law_groups⟩ := D.def_ 20 (d := hd_L_law_groups) rfl
  obtain ⟨fd_L_law_not_made, F_L_law_not_made⟩ := D.def_ 21 (d := hd_L_law_not_made) rfl
  obtain ⟨fd_law, F_law⟩ := D.def_ 22 (d := hd_law) rfl
  have hm := c.more
  unfold hex at hm
  simp only [Bool.and_eq_true] at hm
  obtain ⟨e0, e1, e2, e3⟩ := hm
  exact { f_all := He.free_ok X G (D.fact 0 (f := .free "all") rfl), f_any := He.free_ok X G (D.fact 1 (f := .free "any") rfl), f_bool := He.free_ok X G (D.fact 2 (f := .free "bool") rfl), f_int := He.free_ok X G (D.fact 3 (f := .free "int") rfl), f_isinstance := He.free_ok X G (D.fact 4 (f := .free "isinstance") rfl), f_len := He.free_ok X G (D.fact 5 (f := .free "len") rfl), f_list := He.free_ok X G (D.fact 6 (f := .free "list") rfl), f_range := He.free_ok X G (D.fact 7 (f := .free "range") rfl), f_sorted := He.free_ok X G (D.fact 8 (f := .free "sorted") rfl), f_str := He.free_ok X G (D.fact 9 (f := .free "str") rfl), f_tuple := He.free_ok X G (D.fact 10 (f := .free "tuple") rfl), f_zip := He.free_ok X G (D.fact 11 (f := .free "zip") rfl), c_BREAKERS := kcB_ok X G e0, c_WORDS := kcB_ok X G e1, i_combinations := tyB_ok X G e2, x_BadDesign := excOk_by (He.glo_ok X G (D.fact 12 (f := .glo "BadDesign") rfl)) (D.fact 13 (f := .exc "BadDesign") rfl), x_NotMade := excOk_by (He.glo_ok X G (D.fact 14 (f := .glo "NotMade") rfl)) (D.fact 15 (f := .exc "NotMade") rfl), d_is_word := ⟨⟨_, fd_is_word, F_is_word, (He.glo_ok X G (D.fact 16 (f := .glo "is_word") rfl)), (F_is_word.bindsN fun _ _ _ _ _ _ us hl => match us, hl with | [_], _ => rfl)⟩⟩, d_is_design := ⟨⟨_, fd_is_design, F_is_design, (He.glo_ok X G (D.fact 17 (f := .glo "is_design") rfl)), (F_is_design.bindsN fun _ _ _ _ _ _ us hl => match us, hl with | [_], _ => rfl)⟩⟩, d_require_design := ⟨⟨_, fd_require_design, F_require_design, (He.glo_ok X G (D.fact 18 (f := .glo "require_design") rfl)), (F_require_design.bindsN fun _ _ _ _ _ _ us hl => match us, hl with | [_], _ => rfl)⟩⟩, d_with_word := ⟨⟨_, fd_with_word, F_with_word, (He.glo_ok X G (D.fact 19 (f := .glo "with_word") rfl)), (F_with_word.bindsN fun _ _ _ _ _ _ us hl => match us, hl with | [_, _], _ => rfl)⟩⟩, d_lots := ⟨⟨_, fd_lots, F_lots, (He.glo_ok X G (D.fact 20 (f := .glo "lots") rfl)), (F_lots.bindsN fun _ _ _ _ _ _ us hl => match us, hl with | [], _ => rfl)⟩⟩, d_holds := ⟨⟨_, fd_holds, F_holds, (He.glo_ok X G (D.fact 21 (f := .glo "holds") rfl)), (F_holds.bindsN fun _ _ _ _ _ _ us hl => match us, hl with | [_, _], _ => rfl)⟩⟩, d_holds_none := ⟨⟨_, fd_holds_none, F_holds_none, (He.glo_ok X G (D.fact 22 (f := .glo "holds_none") rfl)), (F_holds_none.bindsN fun _ _ _ _ _ _ us hl => match us, hl with | [_], _ => rfl)⟩⟩, d_is_sound := ⟨⟨_, fd_is_sound, F_is_sound, (He.glo_ok X G (D.fact 23 (f := .glo "is_sound") rfl)), (F_is_sound.bindsN fun _ _ _ _ _ _ us hl => match us, hl with | [_], _ => rfl)⟩⟩, d_further_words := ⟨⟨_, fd_further_words, F_further_words, (He.glo_ok X G (D.fact 24 (f := .glo "further_words") rfl)), (F_further_words.bindsN fun _ _ _ _ _ _ us hl => match us, hl with | [_], _ => rfl)⟩⟩, d_sound_ones_above := ⟨⟨_, fd_sound_ones_above, F_sound_ones_above, (He.glo_ok X G (D.fact 25 (f := .glo "sound_ones_above") rfl)), (F_sound_ones_above.bindsN fun _ _ _ _ _ _ us hl => match us, hl with | [_], _ => rfl)⟩⟩, d_is_greatest := ⟨⟨_, fd_is_greatest, F_is_greatest, (He.glo_ok X G (D.fact 26 (f := .glo "is_greatest") rfl)), (F_is_greatest.bindsN fun _ _ _ _ _ _ us hl => match us, hl with | [_], _ => rfl)⟩⟩, d_greatest_sound := ⟨⟨_, fd_greatest_sound, F_greatest_sound, (He.glo_ok X G (D.fact 27 (f := .glo "greatest_sound") rfl)), (F_greatest_sound.bindsN fun _ _ _ _ _ _ us hl => match us, hl with | [_], _ => rfl)⟩⟩, d_fewest_drops := ⟨⟨_, fd_fewest_drops, F_fewest_drops, (He.glo_ok X G (D.fact 28 (f := .glo "fewest_drops") rfl)), (F_fewest_drops.bindsN fun _ _ _ _ _ _ us hl => match us, hl with | [_], _ => rfl)⟩⟩, d_L_law_taken := ⟨⟨_, fd_L_law_taken, F_L_law_taken, (He.glo_ok X G (D.fact 29 (f := .glo "_law_taken") rfl)), (F_L_law_taken.bindsN fun _ _ _ _ _ _ us hl => match us, hl with | [_, _], _ => rfl)⟩⟩, d_L_law_pick := ⟨⟨_, fd_L_law_pick, F_L_law_pick, (He.glo_ok X G (D.fact 30 (f := .glo "_law_pick") rfl)), (F_L_law_pick.bindsN fun _ _ _ _ _ _ us hl => match us, hl with | [_, _], _ => rfl)⟩⟩, d_L_law_alike := ⟨⟨_, fd_L_law_alike, F_L_law_alike, (He.glo_ok X G (D.fact 31 (f := .glo "_law_alike") rfl)), (F_L_law_alike.bindsN fun _ _ _ _ _ _ us hl => match us, hl with | [_, _], _ => rfl)⟩⟩, d_L_law_words := ⟨⟨_, fd_L_law_words, F_L_law_words, (He.glo_ok X G (D.fact 32 (f := .glo "_law_words") rfl)), (F_L_law_words.bindsN fun _ _ _ _ _ _ us hl => match us, hl with | [], _ => rfl)⟩⟩, d_L_law_design := ⟨⟨_, fd_L_law_design, F_L_law_design, (He.glo_ok X G (D.fact 33 (f := .glo "_law_design") rfl)), (F_L_law_design.bindsN fun _ _ _ _ _ _ us hl => match us, hl with | [_], _ => rfl)⟩⟩, d_L_law_lots := ⟨⟨_, fd_L_law_lots, F_L_law_lots, (He.glo_ok X G (D.fact 34 (f := .glo "_law_lots") rfl)), (F_L_law_lots.bindsN fun _ _ _ _ _ _ us hl => match us, hl with | [], _ => rfl)⟩⟩, d_L_law_lots_in := ⟨⟨_, fd_L_law_lots_in, F_L_law_lots_in, (He.glo_ok X G (D.fact 35 (f := .glo "_law_lots_in") rfl)), (F_L_law_lots_in.bindsN fun _ _ _ _ _ _ us hl => match us, hl with | [_], _ => rfl)⟩⟩, d_L_law_groups := ⟨⟨_, fd_L_law_groups, F_L_law_groups, (He.glo_ok X G (D.fact 36 (f := .glo "_law_groups") rfl)), (F_L_law_groups.bindsN fun _ _ _ _ _ _ us hl => match us, hl with | [_], _ => rfl)⟩⟩, n_L_law_not_made := nm_by F_L_law_not_made (He.glo_ok X G (D.fact 37 (f := .glo "_law_not_made") rfl)) (F_L_law_not_made.bindsN fun _ _ _ _ _ _ us hl => match us, hl with | [_], _ => rfl) (He.glo_ok X G (D.fact 38 (f := .glo "OwnError") rfl)) (He.glo_ok X G (D.fact 14 (f := .glo "NotMade") rfl)) (tbl1 (exfB_ok (He.glo_ok X G (D.fact 14 (f := .glo "NotMade") rfl)) e3)) }
theorem hlaw {w : World} {mg : Str → Option Value} {fa : Addr} {h : Heap} {K : PySem.W.Frag} (hp : ∀ ns : List Int, ns.length ≤ 63 → (∀ z ∈ ns, Builtin.Int.intBits z ≤ 1048576) → ∃ h', m_law [.scr (ns.map W.int)] [] = .ok (.bl true) h')
    (X : K.In h) (G : h.Ns mainGlobals mg) (hfa0 : mg ("law" : Str) = some (.ref fa)) (c : He.SaysX hfa hfn [] [("law", none)] hex w h K) : LamX.LawAtS PySem.Challenge.rw_ownedborder_k06_whole_borders w K (L2.CX (PySem.Challenge.rw_ownedborder_k06_whole_borders).prog w) 10 63 "script" mg fa h := by
  have D := c.t.d
  obtain ⟨fd, F⟩ := D.def_ 22 (d := hd_law) rfl
  have e := hfa0.symm.trans (He.glo_ok X G (D.fact 39 (f := .glo "law") rfl))
  cases e
  have b := FunD.bindsA (ps := ["script"]) F fun _ _ _ _ _ _ us hl => match us, hl with | [_], _ => rfl
  refine ⟨fd, [He.cT K ("law", none)], spM ⟨K, mg, thOf K "law" s_law, w⟩ 1 m_law, fun p hq => ?_, fun p hq => ?_, fun p hq => ?_, fun s v => b s [v] rfl, fun H a ns hl hz ht hS => ?_, fun base KB GB tb => ?_⟩
  · obtain rfl := List.mem_singleton.mp hq
    exact c.empty _ List.mem_cons_self
  · obtain rfl := List.mem_singleton.mp hq
    exact c.out _ List.mem_cons_self
  · obtain rfl := List.mem_singleton.mp hq
    exact PySem.W.codeHd_of_K X (c.hd _ List.mem_cons_self)
  · refine sp_start hS (fun q hq => ?_) (hp ns hl hz)
    obtain rfl := List.mem_singleton.mp hq
    exact .nil (ht _ List.mem_cons_self)
  · exact fn_all (hTx X G c) (dx_by F (tb _ List.mem_cons_self))
end P06
open PySem PySem.W PySem.Calls PyProof.Rows
theorem P06.holds (hp : ∀ ns : List Int, ns.length ≤ 63 → (∀ z ∈ ns, Builtin.Int.intBits z ≤ 1048576) → ∃ h', P06.m_law [.scr (ns.map Mo.W.int)] [] = .ok (.bl true) h') : PySem.Challenge.rw_ownedborder_k06_whole_borders.Holds := by
  w_on; o_law
  refine HandSHeadRun.head_imp (r := OpenLaw.row PySem.Challenge.rw_ownedborder_k06_whole_borders) (q := view (OpenLaw.row PySem.Challenge.rw_ownedborder_k06_whole_borders).prog [32]) (H := P06.hk) (ob := P06.hob) (M := 4000) (loose := ["combinations", "OwnError", "BadDesign", "NotMade", "WORDS", "is_word", "is_design", "require_design", "with_word", "BREAKERS", "lots", "holds", "holds_none", "is_sound", "further_words", "sound_ones_above", "is_greatest", "greatest_sound", "fewest_drops", "_law_taken", "_law_pick", "_law_alike", "_law_words", "_law_design", "_law_lots", "_law_lots_in", "_law_not_made", "_law_groups"]) (d := HandSHeadRun.topDef (OpenLaw.row PySem.Challenge.rw_ownedborder_k06_whole_borders).prog 32) (kwd := []) P06.hob_eq
    P06.hrun (by kernel_rfl) (by kernel_rfl) (by kernel_rfl) (by rfl) (by first | assumption | decide +kernel) (by decide +kernel) ⟨rfl, rfl, rfl, rfl, rfl, by decide +kernel⟩ ?hw ?hc
  case hw => w_witness2
  case hc =>
    refine LamX.walk_ofTsE (l := PySem.Challenge.rw_ownedborder_k06_whole_borders) (n := 63) (k := 10) (x := "script") (CX := fun w => L2.CX (PySem.Challenge.rw_ownedborder_k06_whole_borders).prog w) rfl (by decide) (by kernel_rfl) ⟨rfl, by decide, by decide⟩ ?F (fun _ _ _ _ _ z => by obtain ⟨_, _, _, _, _, _, _, _, _, _, _, _, f⟩ := z; exact f)
    intro w mg fa h Y G hmg0
    obtain ⟨K, KX, c⟩ := Y
    have hmg : mg ("law" : PySem.Str) = some (.ref fa) := by
      have e : (HandSHeadRun.topDef (OpenLaw.row PySem.Challenge.rw_ownedborder_k06_whole_borders).prog 32).name = ("law" : PySem.Str) := by kernel_rfl
      rw [← e]
      exact hmg0
    exact ⟨K, KX, P06.hlaw hp KX G hmg c⟩
end

set_option maxRecDepth 100000 in
set_option maxHeartbeats 0 in
theorem PySem.Challenge.cw_ownedborder_k06_whole_borders_holds : PySem.Challenge.rw_ownedborder_k06_whole_borders.Holds := by
  exact P06.holds fun ns _ _ => P06.law_ok ns
