import PyProof.Rows.All
import Wide.All
import OpenK.AllK
import Wide.FinOn
import HandS.Base
import HandS.Call
import HandS.Ends
import HandS.Defaults
import HandS.Property
import HandS.Head0
import HandS.Head1
import HandS.Head2
import HandS.HeadEnd
import HandS.HeadHook1
import HandS.HeadHook2
import HandS.ForMost
import HandS.Wide
import HandS.Deep
import HandS.SortInts
import HandS.SortRule
import HandS.IsInst
import HandS.Conv
import HandS.TupSets
import PyProof.InstSpecial
import HandS.Iter
import HandS.Exc
import HandS.ExcOwn
import HandS.TryOnly
import HandS.Steps
import PyProof.InstNe
import HandS.Style
import PyProof.ReprRoads
import PyProof.ReprBulk
import PyProof.FitsInt
import HandS.ExcValue
import HandS.ExcIs
import PyProof.Rows.SetFrom
import HandS.SetFor
import HandS.Strs
import PyProof.EqLayable
import HandS.Comp
import HandS.SetBool
import KE.KDictZip
import HandS.DictComp
import HandS.TupLe
import KE.KSortAsk
import HandS.WordsExc
import PySem.Challenge.RW_ownhues_k39_free_of_no_place
set_option Elab.async false
set_option linter.all false
set_option maxRecDepth 100000
set_option maxHeartbeats 0
set_option pp.maxSteps 500
set_option pp.proofs false
namespace G
open PySem PySem.Spec PyProof.Rows L2
/-! ### the head with properties: each is a datum -/
structure PrD where
  cls : Str
  name : Str
  qual : Str
  params : Arguments
  body : List Stmt
  scope : Scope
def pA (K : PySem.W.Frag) (q : PrD) : Addr := He.ma K (He.ga K q.cls) q.name
def pG (K : PySem.W.Frag) (q : PrD) : Addr := match PySem.W.recIn K (pA K q) "property" with
  | some (.ref g :: _) => g
  | _ => 0
def fnAt (K : PySem.W.Frag) (f : Addr) : He.FnW := match K.lookup f with
  | some ⟨_, _, .func fd, _⟩ => some (fd.name, fd.qualname, fd.params, fd.body, fd.scope, fd.globals, fd.closure, fd.builtins)
  | _ => none
def PrD.val (q : PrD) : He.FnW := some (q.name, q.qual, q.params, .stmts q.body, q.scope, mainGlobals, [], builtinsNs)
def PrD.rec_ (K : PySem.W.Frag) (q : PrD) : Bool := match PySem.W.recIn K (pA K q) "property" with
  | some (.ref _ :: _) => true
  | _ => false
def PrD.fn (K : PySem.W.Frag) (q : PrD) : Bool := match K.lookup (pG K q) with
  | some ⟨_, _, .func fd, _⟩ => PySem.W.codeIn K fd.code q.qual && (He.dflB K fd.defaults [] && He.kwdB K fd.kwdefaults [])
  | _ => false
def PrD.ok (K : PySem.W.Frag) (q : PrD) : Bool := He.eqO (PySem.W.findIn K (.ref (He.ga K q.cls)) q.name) (some (some (.ref (pA K q)))) && (He.eqO (PySem.W.specialIn K (.ref (pA K q)) "__get__") (some (some (.builtin "property.__get__"))) &&
  (decide (PySem.W.takesIn K (.ref (pA K q)) = some true) && (q.rec_ K && (PySem.W.keepIn K (.ref (pG K q)) && q.fn K))))
theorem PrD.all {K : PySem.W.Frag} {q : PrD} (e : fnAt K (pG K q) = q.val) (c : q.ok K = true) : PropOf K (He.ga K q.cls) q.name (pA K q) (pG K q) ∧ ∃ fd, FunD K q.name q.qual q.params q.body q.scope [] [] (pG K q) fd := by
  obtain ⟨h1, c⟩ := He.ba c
  obtain ⟨h2, c⟩ := He.ba c
  obtain ⟨h3, c⟩ := He.ba c
  obtain ⟨h4, c⟩ := He.ba c
  obtain ⟨kp, c2⟩ := He.ba c
  refine ⟨⟨He.eqO_ok h1, He.eqO_ok h2, of_decide_eq_true h3, ?_⟩, ?_⟩
  · unfold PrD.rec_ at h4
    unfold pG
    split at h4
    · rename_i g r hr
      rw [hr]
      exact ⟨r, rfl⟩
    · cases h4
  · unfold PrD.fn at c2
    unfold fnAt at e
    cases hq : K.lookup (pG K q) with
    | none =>
      rw [hq] at c2
      cases c2
    | some o =>
      obtain ⟨oc, od, dt, osl⟩ := o
      rw [hq] at c2 e
      cases dt with
      | func fd =>
        obtain ⟨n1, n2, n3, n4, n5, n6, n7, n8, n9, n10, n11, n12, n13, n14, n15⟩ := fd
        have e2 : (some (n1, n2, n3, n4, n5, n6, n7, n15) : He.FnW) = some (q.name, q.qual, q.params, .stmts q.body, q.scope, mainGlobals, [], builtinsNs) := e
        simp only [Option.some.injEq, Prod.mk.injEq] at e2
        obtain ⟨h1, h2, h3, h4, h5, h6, h7, h8⟩ := e2
        subst h1 h2 h3 h4 h5 h6 h7 h8
        have c3 : (PySem.W.codeIn K n13 q.qual && (He.dflB K n8 [] && He.kwdB K n9 [])) = true := c2
        obtain ⟨k1, k2⟩ := He.ba c3
        obtain ⟨k3, k4⟩ := He.ba k2
        exact ⟨_, ⟨oc, od, n8, n9, n10, n11, n12, n13, n14, osl, rfl, hq, k1, He.dflB_ok k3, He.kwdB_ok k4⟩, kp⟩
      | _ => cases c2
abbrev AlP : Type := He.AlD × He.AlD
def obsP (xf : PySem.W.Frag → Bool) (fa : List He.Fa) (fn : List He.DefD) (pr : List PrD) (K : PySem.W.Frag) : AlP := (He.obsD fa fn K, ((pr.all fun q => q.ok K) && xf K, pr.map fun q => fnAt K (pG K q)))
def valP (fn : List He.DefD) (pr : List PrD) : AlP := (He.valD fn, (true, pr.map PrD.val))
def obsPG (xf : PySem.W.Frag → Bool) (n : Nat) (fa : List He.Fa) (fn : List He.DefD) (pr : List PrD) (g : Addr → Option Obj) : AlP := obsP xf fa fn pr (He.frG g (sysModules :: He.asD g n))
def SaysP (xf : PySem.W.Frag → Bool) (fa : List He.Fa) (fn : List He.DefD) (pr : List PrD) (K : PySem.W.Frag) : Prop := obsP xf fa fn pr K = valP fn pr
def hookP (xf : PySem.W.Frag → Bool) (n : Nat) (fa : List He.Fa) (fn : List He.DefD) (pr : List PrD) : PySem.W.Hook where
  α := AlP
  obs := fun s => obsPG xf n fa fn pr s.heap.get?
  val := fun _ => valP fn pr
  says := fun _ h => ∃ K : PySem.W.Frag, K.In h ∧ SaysP xf fa fn pr K
  of := fun _ _ e => ⟨_, He.frG_in, e⟩
  keeps := fun _ _ _ ⟨K, hK, c⟩ k => ⟨K, PySem.W.Frag.In.keeps hK k, c⟩
theorem obsPG_eq {xf : PySem.W.Frag → Bool} {n : Nat} {fa : List He.Fa} {fn : List He.DefD} {pr : List PrD} {g : Addr → Option Obj} {s : Shared} (h : ∀ a, g a = s.heap.get? a) : obsPG xf n fa fn pr g = (hookP xf n fa fn pr).obs s := by
  have e : g = s.heap.get? := funext h
  rw [e] <;> rfl
theorem SaysP.d {xf : PySem.W.Frag → Bool} {fa : List He.Fa} {fn : List He.DefD} {pr : List PrD} {K : PySem.W.Frag} (c : SaysP xf fa fn pr K) : He.SaysD fa fn K := congrArg (fun z : AlP => z.1) c
theorem SaysP.p {xf : PySem.W.Frag → Bool} {fa : List He.Fa} {fn : List He.DefD} {pr : List PrD} {K : PySem.W.Frag} (c : SaysP xf fa fn pr K) (i : Nat) {q : PrD} (h : pr[i]? = some q) :
    PropOf K (He.ga K q.cls) q.name (pA K q) (pG K q) ∧ ∃ fd, FunD K q.name q.qual q.params q.body q.scope [] [] (pG K q) fd := by
  have c2 : (pr.all fun q => q.ok K) = true := (He.ba (show ((pr.all fun q => q.ok K) && xf K) = true from congrArg (fun z : AlP => z.2.1) c)).1
  have e : pr.map (fun q => fnAt K (pG K q)) = pr.map PrD.val := congrArg (fun z : AlP => z.2.2) c
  have e2 : (pr.map fun q => fnAt K (pG K q))[i]? = (pr.map PrD.val)[i]? := by rw [e]
  rw [List.getElem?_map, List.getElem?_map, h] at e2
  exact PrD.all (Option.some.inj e2) (List.all_eq_true.mp c2 q (List.mem_of_getElem? h))
theorem SaysP.x {xf : PySem.W.Frag → Bool} {fa : List He.Fa} {fn : List He.DefD} {pr : List PrD} {K : PySem.W.Frag} (c : SaysP xf fa fn pr K) : xf K = true := (He.ba (show ((pr.all fun q => q.ok K) && xf K) = true from congrArg (fun z : AlP => z.2.1) c)).2
end G

/-! A small logic over the readings: slots hold assertions, each with a region of its own (a colour). 0 what stands still, 1 the frame, 2 what an expression has made, i + 3 the slot i's own. -/
namespace G
open PySem L2

abbrev Col := Addr → Nat
def vw (ω : Col) (H : Hp) (c : Nat) : Hp := fun b => if ω b = c then H b else none
theorem vw_iff {ω : Col} {H : Hp} {c : Nat} {a : Addr} {o : HO} : vw ω H c a = some o ↔ ω a = c ∧ H a = some o := by
  unfold vw
  by_cases h : ω a = c
  · rw [if_pos h]; exact ⟨fun e => ⟨h, e⟩, fun e => e.2⟩
  · rw [if_neg h]; exact ⟨(fun e => nomatch e), (fun e => absurd e.1 h)⟩
theorem vw_mk {ω : Col} {H : Hp} {c : Nat} {a : Addr} {o : HO} (h : ω a = c) (e : H a = some o) : vw ω H c a = some o := vw_iff.mpr ⟨h, e⟩
theorem vw_H {ω : Col} {H : Hp} {c : Nat} {a : Addr} {o : HO} (e : vw ω H c a = some o) : H a = some o := (vw_iff.mp e).2
theorem vw_c {ω : Col} {H : Hp} {c : Nat} {a : Addr} {o : HO} (e : vw ω H c a = some o) : ω a = c := (vw_iff.mp e).1

/-! ### data in the heap, its lists tracked -/
mutual
inductive DR (H : Hp) : V → PyData → Prop
  | non : DR H .non .none
  | bl (b : Bool) : DR H (.bl b) (.bool b)
  | int (i : Int) : DR H (.int i) (.int i)
  | str (x : Str) : DR H (.str x) (.str x)
  | lst {a : Addr} {xs : List V} {ds : List PyData} : H a = some (.lst xs) → DRs H xs ds → DR H (.ref a) (.list ds)
  | tup {a : Addr} {xs : List V} {ds : List PyData} : H a = some (.tup xs) → DRs H xs ds → DR H (.ref a) (.tuple ds)
  | dic {a : Addr} {ps : List (Int × Int)} : H a = some (.dK (ps.map fun p => (Sum.inl p.1, V.int p.2))) → DR H (.ref a) (.dict (ps.map fun p => (.int p.1, .int p.2)))
inductive DRs (H : Hp) : List V → List PyData → Prop
  | nil : DRs H [] []
  | cons {v : V} {vs : List V} {d : PyData} {ds : List PyData} : DR H v d → DRs H vs ds → DRs H (v :: vs) (d :: ds)
end
mutual
theorem DR.mono {H H' : Hp} (s : Same H H') : ∀ (d : PyData) {v : V}, DR H v d → DR H' v d
  | .none, _, h => by cases h; exact .non
  | .bool b, _, h => by cases h; exact .bl b
  | .int i, _, h => by cases h; exact .int i
  | .str x, _, h => by cases h; exact .str x
  | .list ds, _, h => by cases h with | lst e t => exact .lst (s _ _ e) (DRs.mono s ds t)
  | .tuple ds, _, h => by cases h with | tup e t => exact .tup (s _ _ e) (DRs.mono s ds t)
  | .dict _, _, h => by cases h with | dic e => exact .dic (s _ _ e)
theorem DRs.mono {H H' : Hp} (s : Same H H') : ∀ (ds : List PyData) {vs : List V}, DRs H vs ds → DRs H' vs ds
  | [], _, h => by cases h; exact .nil
  | d :: ds, _, h => by cases h with | cons a b => exact .cons (DR.mono s d a) (DRs.mono s ds b)
end
mutual
theorem DR.dp {K : PySem.W.Frag} {H : Hp} : ∀ (d : PyData) {v : V}, d.canLay0 = true → DR H v d → Dp K H v d
  | .none, _, _, h => by cases h; exact .non
  | .bool b, _, _, h => by cases h; exact .bl b
  | .int i, _, _, h => by cases h; exact .int i
  | .str x, _, _, h => by cases h; exact .str x
  | .list ds, _, l, h => by cases h with | lst e t => exact .lst (SqL.of e) (DRs.dp ds l t)
  | .tuple ds, _, l, h => by cases h with | tup e t => exact .tup (SqT.of e) (DRs.dp ds l t)
  | .dict _, _, l, _ => Bool.noConfusion l
theorem DRs.dp {K : PySem.W.Frag} {H : Hp} : ∀ (ds : List PyData) {vs : List V}, PyData.canLayAll0 ds = true → DRs H vs ds → DpAll K H vs ds
  | [], _, _, h => by cases h; exact .nil
  | d :: ds, _, l, h => by
    obtain ⟨l1, l2⟩ := Bool.and_eq_true_iff.mp (show (d.canLay0 && PyData.canLayAll0 ds) = true from l)
    cases h with | cons a b => exact .cons (DR.dp d l1 a) (DRs.dp ds l2 b)
end
section
variable {K : PySem.W.Frag} {H : Hp}
theorem DRs.length : ∀ {ds : List PyData} {vs : List V}, DRs H vs ds → vs.length = ds.length
  | [], _, h => by cases h; rfl
  | d :: ds, _, h => by cases h with | cons a b => simp [DRs.length b]
theorem DRs.get : ∀ {ds : List PyData} {vs : List V} {i : Nat} {v : V}, DRs H vs ds → vs[i]? = some v → ∃ d, ds[i]? = some d ∧ DR H v d
  | [], _, _, _, h, e => by cases h; simp at e
  | d :: ds, _, 0, _, h, e => by cases h with | cons a b => simp at e; subst e; exact ⟨d, rfl, a⟩
  | d :: ds, _, i + 1, _, h, e => by cases h with | cons a b => exact DRs.get (i := i) b (by simpa using e)
theorem DRs.at : ∀ {ds : List PyData} {vs : List V} {i : Nat} {d : PyData}, DRs H vs ds → ds[i]? = some d → ∃ v, vs[i]? = some v ∧ DR H v d
  | [], _, _, _, h, e => by simp at e
  | d :: ds, _, 0, _, h, e => by cases h with | cons a b => simp at e; subst e; exact ⟨_, rfl, a⟩
  | d :: ds, _, i + 1, _, h, e => by cases h with | cons a b => exact DRs.at (i := i) b (by simpa using e)
theorem DRs.append : ∀ {ds es : List PyData} {vs ws : List V}, DRs H vs ds → DRs H ws es → DRs H (vs ++ ws) (ds ++ es)
  | [], _, _, _, h, h' => by cases h; exact h'
  | d :: ds, _, _, _, h, h' => by cases h with | cons a b => exact .cons a (DRs.append b h')
theorem DRs.snoc {ds : List PyData} {d : PyData} {vs : List V} {v : V} (h : DRs H vs ds) (h' : DR H v d) : DRs H (vs ++ [v]) (ds ++ [d]) := h.append (.cons h' .nil)
theorem DRs.drop : ∀ {ds : List PyData} {vs : List V} (n : Nat), DRs H vs ds → DRs H (vs.drop n) (ds.drop n)
  | _, _, 0, h => h
  | [], _, n + 1, h => by cases h; exact .nil
  | d :: ds, _, n + 1, h => by cases h with | cons a b => exact DRs.drop n b
theorem DRs.take : ∀ {ds : List PyData} {vs : List V} (n : Nat), DRs H vs ds → DRs H (vs.take n) (ds.take n)
  | _, _, 0, h => .nil
  | [], _, n + 1, h => by cases h; exact .nil
  | d :: ds, _, n + 1, h => by cases h with | cons a b => exact .cons a (DRs.take n b)
theorem DRs.erase : ∀ {ds : List PyData} {vs : List V} (n : Nat), DRs H vs ds → DRs H (vs.eraseIdx n) (ds.eraseIdx n)
  | [], _, _, h => by cases h; simp; exact .nil
  | d :: ds, _, 0, h => by cases h with | cons a b => exact b
  | d :: ds, _, n + 1, h => by cases h with | cons a b => exact .cons a (DRs.erase n b)
theorem DRs.set : ∀ {ds : List PyData} {vs : List V} (n : Nat) {d : PyData} {v : V}, DRs H vs ds → DR H v d → DRs H (vs.set n v) (ds.set n d)
  | [], _, _, _, _, h, _ => by cases h; exact .nil
  | d :: ds, _, 0, _, _, h, h' => by cases h with | cons a b => exact .cons h' b
  | d :: ds, _, n + 1, _, _, h, h' => by cases h with | cons a b => exact .cons a (DRs.set n b h')
theorem DRs.reverse : ∀ {ds : List PyData} {vs : List V}, DRs H vs ds → DRs H vs.reverse ds.reverse
  | [], _, h => by cases h; exact .nil
  | d :: ds, _, h => by cases h with | cons a b => simp only [List.reverse_cons]; exact (DRs.reverse b).snoc a
theorem DRs.ints : ∀ {ns : List Int} {vs : List V}, DRs H vs (ns.map PyData.int) → vs = ns.map V.int
  | [], _, h => by cases h; rfl
  | n :: ns, _, h => by
    cases h with | cons a b => cases a; rw [DRs.ints b]; rfl
theorem DRs.of_ints : ∀ {ns : List Int}, DRs H (ns.map V.int) (ns.map PyData.int)
  | [] => .nil
  | n :: ns => .cons (.int n) DRs.of_ints
theorem DR.int_inv {v : V} {i : Int} (h : DR H v (.int i)) : v = .int i := by cases h; rfl
theorem DR.bl_inv {v : V} {b : Bool} (h : DR H v (.bool b)) : v = .bl b := by cases h; rfl
theorem DR.str_inv {v : V} {b : Str} (h : DR H v (.str b)) : v = .str b := by cases h; rfl
theorem DR.non_inv {v : V} (h : DR H v .none) : v = .non := by cases h; rfl
theorem DR.lst_inv {v : V} {ds : List PyData} (h : DR H v (.list ds)) : ∃ a xs, v = .ref a ∧ H a = some (.lst xs) ∧ DRs H xs ds := by
  cases h with | lst e t => exact ⟨_, _, rfl, e, t⟩
theorem DR.tup_inv {v : V} {ds : List PyData} (h : DR H v (.tuple ds)) : ∃ a xs, v = .ref a ∧ H a = some (.tup xs) ∧ DRs H xs ds := by
  cases h with | tup e t => exact ⟨_, _, rfl, e, t⟩
end

/-! ### what a slot holds -/
structure Gp where
  p : Hp → V → Hp → Prop
  mono : ∀ {A A' : Hp} {v : V} {R R' : Hp}, Same A A' → Same R R' → p A v R → p A' v R'
/-- what stands still -/
structure Per where
  q : Hp → V → Prop
  mono : ∀ {A A' : Hp} {v : V}, Same A A' → q A v → q A' v
def per (q : Per) : Gp := ⟨fun A v _ => q.q A v, fun a _ h => q.mono a h⟩
def dP (d : PyData) : Per := ⟨fun A v => DR A v d, fun a h => h.mono a⟩
abbrev dat (d : PyData) : Gp := per (dP d)
/-- a list of one's own, of data that stands still -/
def own (ds : List PyData) : Gp := ⟨fun A v R => ∃ a vs, v = .ref a ∧ R a = some (.lst vs) ∧ DRs A vs ds,
  fun a r ⟨x, vs, e, h, t⟩ => ⟨x, vs, e, r _ _ h, t.mono a⟩⟩
abbrev Ga := List (Option Gp)
def Sta (Γ : Ga) (ω : Col) (σ : L2.St) (H : Hp) : Prop := σ.length = Γ.length ∧ ∀ (i : Nat) (g : Gp), Γ[i]? = some (some g) → ∃ v, σ[i]? = some (some v) ∧ g.p (vw ω H 0) v (vw ω H (i + 3))
def Fr (ω ω' : Col) (H H' : Hp) : Prop := Same (vw ω H 0) (vw ω' H' 0) ∧ Same (vw ω H 1) (vw ω' H' 1)
theorem Fr.refl {ω : Col} {H : Hp} : Fr ω ω H H := ⟨Same.refl _, Same.refl _⟩
theorem Fr.trans {ω ω1 ω2 : Col} {H H1 H2 : Hp} (a : Fr ω ω1 H H1) (b : Fr ω1 ω2 H1 H2) : Fr ω ω2 H H2 := ⟨a.1.trans b.1, a.2.trans b.2⟩

/-! ### expressions -/
def WE (te : TE) (Γ : Ga) (k : Gp → Ga → Prop) : Prop := ∀ ω σ H, Sta Γ ω σ H → ∀ Q : VK,
  (∀ v g Γ' ω' H', k g Γ' → Sta Γ' ω' σ H' → g.p (vw ω' H' 0) v (vw ω' H' 2) → Fr ω ω' H H' → Q v H') → te σ H Q
def WQ (te : TE) (Γ : Ga) (k : Per → Ga → Prop) : Prop := ∀ ω σ H, Sta Γ ω σ H → ∀ Q : VK,
  (∀ v q Γ' ω' H', k q Γ' → Sta Γ' ω' σ H' → q.q (vw ω' H' 0) v → Fr ω ω' H H' → Q v H') → te σ H Q
def WT (tt : TT) (Γ : Ga) (k : Bool → Ga → Prop) : Prop := ∀ ω σ H, Sta Γ ω σ H → ∀ Q : Bool → Hp → Prop,
  (∀ b Γ' ω' H', k b Γ' → Sta Γ' ω' σ H' → Fr ω ω' H H' → Q b H') → tt σ H Q
inductive Arg where
  | s (i : Nat)
  | q (q : Per)
def ArgOk (σ : L2.St) (A : Hp) : Arg → V → Prop
  | .s i, v => σ[i]? = some (some v)
  | .q q, v => q.q A v
theorem ArgOk.mono {σ : L2.St} {A A' : Hp} (s : Same A A') : ∀ {a : Arg} {v : V}, ArgOk σ A a v → ArgOk σ A' a v
  | .s _, _, h => h
  | .q q, _, h => q.mono s h
inductive ArgsOk (σ : L2.St) (A : Hp) : List Arg → List V → Prop
  | nil : ArgsOk σ A [] []
  | cons {a : Arg} {as : List Arg} {v : V} {vs : List V} : ArgOk σ A a v → ArgsOk σ A as vs → ArgsOk σ A (a :: as) (v :: vs)
theorem ArgsOk.mono {σ : L2.St} {A A' : Hp} (s : Same A A') : ∀ {as : List Arg} {vs : List V}, ArgsOk σ A as vs → ArgsOk σ A' as vs
  | [], _, h => by cases h; exact .nil
  | a :: as, _, h => by cases h with | cons x y => exact .cons (x.mono s) (ArgsOk.mono s y)
def WA (ta : TA) (Γ : Ga) (k : List Arg → Ga → Prop) : Prop := ∀ ω σ H, Sta Γ ω σ H → ∀ Q : List V → Hp → Prop,
  (∀ vs as Γ' ω' H', k as Γ' → Sta Γ' ω' σ H' → ArgsOk σ (vw ω' H' 0) as vs → Fr ω ω' H H' → Q vs H') → ta σ H Q
/-- g may be shut: it stands still from now on -/
def Frz (g : Gp) (q : Per) : Prop := ∀ A v R A', Same A A' → Same R A' → g.p A v R → q.q A' v
theorem frz_per {q : Per} : Frz (per q) q := fun _ _ _ _ a _ h => q.mono a h
theorem frz_own {ds : List PyData} : Frz (own ds) (dP (.list ds)) := fun _ _ _ _ a r ⟨x, vs, e, h, t⟩ => by
  subst e
  exact .lst (r _ _ h) (t.mono a)

/-- recolouring c to 0 -/
def shut (ω : Col) (c : Nat) : Col := fun b => if ω b = c then 0 else ω b
theorem shut_0 {ω : Col} {H : Hp} {c : Nat} : Same (vw ω H 0) (vw (shut ω c) H 0) := fun a o h => by
  obtain ⟨h1, h2⟩ := vw_iff.mp h
  refine vw_mk ?_ h2
  unfold shut
  split
  · rfl
  · exact h1
theorem shut_c {ω : Col} {H : Hp} {c : Nat} : Same (vw ω H c) (vw (shut ω c) H 0) := fun a o h => by
  obtain ⟨h1, h2⟩ := vw_iff.mp h
  refine vw_mk ?_ h2
  unfold shut
  rw [if_pos h1]
theorem shut_ne {ω : Col} {H : Hp} {c d : Nat} (n : d ≠ c) : Same (vw ω H d) (vw (shut ω c) H d) := fun a o h => by
  obtain ⟨h1, h2⟩ := vw_iff.mp h
  refine vw_mk ?_ h2
  unfold shut
  rw [if_neg (by rw [h1]; exact n)]
  exact h1
theorem Sta.move {Γ : Ga} {ω ω' : Col} {σ : L2.St} {H H' : Hp} (S : Sta Γ ω σ H) (a : Same (vw ω H 0) (vw ω' H' 0)) (r : ∀ i g, Γ[i]? = some (some g) → Same (vw ω H (i + 3)) (vw ω' H' (i + 3))) : Sta Γ ω' σ H' :=
  ⟨S.1, fun i g h => by
    obtain ⟨v, e, p⟩ := S.2 i g h
    exact ⟨v, e, g.mono a (r i g h) p⟩⟩
theorem wq_of {te : TE} {Γ : Ga} {k : Per → Ga → Prop} (h : WE te Γ fun g Γ' => ∃ q, Frz g q ∧ k q Γ') : WQ te Γ k := fun ω σ H S Q c =>
  h ω σ H S Q fun v g Γ' ω' H' ⟨q, fz, kk⟩ S' p fr => by
    refine c v q Γ' (shut ω' 2) H' kk (S'.move shut_0 fun i _ _ => shut_ne (by omega)) (fz _ _ _ _ shut_0 shut_c p) (fr.trans ⟨shut_0, shut_ne (by decide)⟩)
/-- a value as it stands still, as an expression's -/
theorem we_of {te : TE} {Γ : Ga} {k : Gp → Ga → Prop} (h : WQ te Γ fun q Γ' => k (per q) Γ') : WE te Γ k := fun ω σ H S Q c =>
  h ω σ H S Q fun v q Γ' ω' H' kk S' p fr => c v (per q) Γ' ω' H' kk S' p fr
section
variable {K : PySem.W.Frag} {Γ : Ga} {k : Gp → Ga → Prop} {kt : Bool → Ga → Prop} {ta tb tc te : TE} {t u : TT}
theorem we_var {i : Nat} {q : Per} (h : Γ[i]? = some (some (per q))) (c : k (per q) Γ) : WE (tVar i) Γ k := fun ω σ H S Q f => by
  obtain ⟨v, e, p⟩ := S.2 i _ h
  exact ⟨v, e, f v _ Γ ω H c S p Fr.refl⟩
theorem set_eq {α : Type} {l : List α} {i j : Nat} {x : α} : (l.set i x)[j]? = if i = j then (if i < l.length then some x else none) else l[j]? := by
  rw [List.getElem?_set]
/-- a slot's own is shut when it is read as a value -/
theorem we_varF {i : Nat} {g : Gp} {q : Per} (h : Γ[i]? = some (some g)) (z : Frz g q) (c : k (per q) (Γ.set i (some (per q)))) : WE (tVar i) Γ k := fun ω σ H S Q f => by
  obtain ⟨v, e, p⟩ := S.2 i _ h
  have pq : q.q (vw (shut ω (i + 3)) H 0) v := z _ _ _ _ shut_0 shut_c p
  refine ⟨v, e, f v (per q) _ (shut ω (i + 3)) H c ⟨by rw [List.length_set]; exact S.1, fun j g' hj => ?_⟩ pq ⟨shut_0, shut_ne (by omega)⟩⟩
  rw [set_eq] at hj
  by_cases hij : i = j
  · rw [if_pos hij] at hj
    split at hj
    · cases hj
      subst hij
      exact ⟨v, e, pq⟩
    · cases hj
  · rw [if_neg hij] at hj
    obtain ⟨w, e', p'⟩ := S.2 j _ hj
    exact ⟨w, e', g'.mono shut_0 (shut_ne (by omega)) p'⟩
theorem we_c {v : V} {q : Per} (h : ∀ A, q.q A v) (c : k (per q) Γ) : WE (tC v) Γ k := fun ω σ H S Q f => f v _ Γ ω H c S (h _) Fr.refl
theorem we_int {i : Int} (c : k (dat (.int i)) Γ) : WE (tC (.int i)) Γ k := we_c (q := dP (.int i)) (fun _ => DR.int i) c
theorem we_bl {i : Bool} (c : k (dat (.bool i)) Γ) : WE (tC (.bl i)) Γ k := we_c (q := dP (.bool i)) (fun _ => DR.bl i) c
theorem we_str {i : Str} (c : k (dat (.str i)) Γ) : WE (tC (.str i)) Γ k := we_c (q := dP (.str i)) (fun _ => DR.str i) c
theorem we_non (c : k (dat .none) Γ) : WE (tC .non) Γ k := we_c (q := dP .none) (fun _ => DR.non) c
theorem WE.imp {k k' : Gp → Ga → Prop} (h : WE te Γ k) (f : ∀ g Γ', k g Γ' → k' g Γ') : WE te Γ k' := fun ω σ H S Q c => h ω σ H S Q fun v g Γ' ω' H' kk => c v g Γ' ω' H' (f _ _ kk)
theorem WQ.imp {k k' : Per → Ga → Prop} (h : WQ te Γ k) (f : ∀ g Γ', k g Γ' → k' g Γ') : WQ te Γ k' := fun ω σ H S Q c => h ω σ H S Q fun v g Γ' ω' H' kk => c v g Γ' ω' H' (f _ _ kk)
theorem WT.imp {t : TT} {k k' : Bool → Ga → Prop} (h : WT t Γ k) (f : ∀ g Γ', k g Γ' → k' g Γ') : WT t Γ k' := fun ω σ H S Q c => h ω σ H S Q fun g Γ' ω' H' kk => c g Γ' ω' H' (f _ _ kk)

/-- a two-place operation upon what stands still -/
theorem we_op {r : R2} (h : WQ ta Γ fun q Γ1 => WQ tb Γ1 fun q' Γ2 => ∀ (ω : Col) (σ : L2.St) (H : Hp) (v w : V), Sta Γ2 ω σ H → q.q (vw ω H 0) v → q'.q (vw ω H 0) w → ∀ Q : VK,
    (∀ (v : V) (g : Gp) (Γ' : Ga) (ω' : Col) (H' : Hp), k g Γ' → Sta Γ' ω' σ H' → g.p (vw ω' H' 0) v (vw ω' H' 2) → Fr ω ω' H H' → Q v H') → r v w H Q) : WE (tOp r ta tb) Γ k := fun ω σ H S Q f =>
  h ω σ H S _ fun v q Γ1 ω1 H1 h1 S1 p1 f1 => h1 ω1 σ H1 S1 _ fun w q' Γ2 ω2 H2 h2 S2 p2 f2 =>
    h2 ω2 σ H2 v w S2 (q.mono f2.1 p1) p2 Q fun v g Γ' ω' H' kk S' p f3 => f v g Γ' ω' H' kk S' p ((f1.trans f2).trans f3)
theorem we_un {r : V → Hp → VK → Prop} (h : WQ ta Γ fun q Γ2 => ∀ (ω : Col) (σ : L2.St) (H : Hp) (v : V), Sta Γ2 ω σ H → q.q (vw ω H 0) v → ∀ Q : VK,
    (∀ (v : V) (g : Gp) (Γ' : Ga) (ω' : Col) (H' : Hp), k g Γ' → Sta Γ' ω' σ H' → g.p (vw ω' H' 0) v (vw ω' H' 2) → Fr ω ω' H H' → Q v H') → r v H Q) : WE (tUn r ta) Γ k := fun ω σ H S Q f =>
  h ω σ H S _ fun v q Γ1 ω1 H1 h1 S1 p1 f1 => h1 ω1 σ H1 v S1 p1 Q fun v g Γ' ω' H' kk S' p f3 => f v g Γ' ω' H' kk S' p (f1.trans f3)
end
end G

namespace G
open PySem L2

/-! ### something new -/
def paint (ω : Col) (p : Addr) (c : Nat) : Col := fun b => if b = p then c else ω b
theorem paint_same {ω : Col} {H : Hp} {p : Addr} {c : Nat} {o : HO} (n : H p = none) (d : Nat) : Same (vw ω H d) (vw (paint ω p c) (upd H p o) d) := fun a u h => by
  obtain ⟨h1, h2⟩ := vw_iff.mp h
  have e : a ≠ p := ne_of_none h2 n
  exact vw_mk (by unfold paint; rw [if_neg e]; exact h1) (by rw [upd_ne e]; exact h2)
theorem paint_at {ω : Col} {H : Hp} {p : Addr} {c : Nat} {o : HO} : vw (paint ω p c) (upd H p o) c p = some o := vw_mk (by unfold paint; rw [if_pos rfl]) upd_same
theorem paint_fr {ω : Col} {H : Hp} {p : Addr} {c : Nat} {o : HO} (n : H p = none) : Fr ω (paint ω p c) H (upd H p o) := ⟨paint_same n 0, paint_same n 1⟩
theorem Sta.new {Γ : Ga} {ω : Col} {σ : L2.St} {H : Hp} (S : Sta Γ ω σ H) {p : Addr} (c : Nat) {o : HO} (n : H p = none) : Sta Γ (paint ω p c) σ (upd H p o) :=
  S.move (paint_same n 0) fun _ _ _ => paint_same n _
/-- an own object is changed -/
theorem mut_same {ω : Col} {H : Hp} {p : Addr} {o : HO} {d : Nat} (n : ω p ≠ d) : Same (vw ω H d) (vw ω (upd H p o) d) := fun a u h => by
  obtain ⟨h1, h2⟩ := vw_iff.mp h
  have e : a ≠ p := fun q => n (by rw [← q]; exact h1)
  exact vw_mk h1 (by rw [upd_ne e]; exact h2)
theorem Sta.set {Γ : Ga} {ω ω' : Col} {σ : L2.St} {H H' : Hp} (S : Sta Γ ω σ H) {i : Nat} {v : V} {g : Gp} (a : Same (vw ω H 0) (vw ω' H' 0)) (r : ∀ j g, j ≠ i → Γ[j]? = some (some g) → Same (vw ω H (j + 3)) (vw ω' H' (j + 3)))
    (e : σ[i]? = some (some v)) (p : g.p (vw ω' H' 0) v (vw ω' H' (i + 3))) : Sta (Γ.set i (some g)) ω' σ H' := by
  refine ⟨by rw [List.length_set]; exact S.1, fun j g' hj => ?_⟩
  rw [set_eq] at hj
  by_cases hij : i = j
  · rw [if_pos hij] at hj
    split at hj
    · cases hj
      subst hij
      exact ⟨v, e, p⟩
    · cases hj
  · rw [if_neg hij] at hj
    obtain ⟨w, e', p'⟩ := S.2 j _ hj
    exact ⟨w, e', g'.mono a (r j _ (Ne.symm hij) hj) p'⟩
/-- the assignment x = e: the result's own goes to the slot -/
def give (ω : Col) (c d : Nat) : Col := fun b => if ω b = c then d else if ω b = d then c else ω b
theorem give_c {ω : Col} {H : Hp} {c d : Nat} : Same (vw ω H c) (vw (give ω c d) H d) := fun a o h => by
  obtain ⟨h1, h2⟩ := vw_iff.mp h
  exact vw_mk (by unfold give; rw [if_pos h1]) h2
theorem give_ne {ω : Col} {H : Hp} {c d e : Nat} (n : e ≠ c) (m : e ≠ d) : Same (vw ω H e) (vw (give ω c d) H e) := fun a o h => by
  obtain ⟨h1, h2⟩ := vw_iff.mp h
  exact vw_mk (by unfold give; rw [if_neg (by rw [h1]; exact n), if_neg (by rw [h1]; exact m)]; exact h1) h2
theorem Sta.asg {Γ : Ga} {ω : Col} {σ : L2.St} {H : Hp} (S : Sta Γ ω σ H) {i : Nat} {v : V} {g : Gp} (p : g.p (vw ω H 0) v (vw ω H 2)) : Sta (Γ.set i (some g)) (give ω 2 (i + 3)) (σ.set i (some v)) H := by
  refine ⟨by rw [List.length_set, List.length_set]; exact S.1, fun j g' hj => ?_⟩
  rw [set_eq] at hj
  by_cases hij : i = j
  · rw [if_pos hij] at hj
    split at hj
    next hl =>
      cases hj
      subst hij
      exact ⟨v, by rw [set_eq, if_pos rfl, if_pos (by rw [S.1]; exact hl)], g.mono (give_ne (by omega) (by omega)) give_c p⟩
    · cases hj
  · rw [if_neg hij] at hj
    obtain ⟨w, e', p'⟩ := S.2 j _ hj
    exact ⟨w, by rw [set_eq, if_neg hij]; exact e', g'.mono (give_ne (by omega) (by omega)) (give_ne (by omega) (by omega)) p'⟩
theorem give_fr {ω : Col} {H : Hp} {i : Nat} : Fr ω (give ω 2 (i + 3)) H H := ⟨give_ne (by omega) (by omega), give_ne (by omega) (by omega)⟩

section
variable {K : PySem.W.Frag} {Γ : Ga} {k : Gp → Ga → Prop} {kt : Bool → Ga → Prop} {ka : List Arg → Ga → Prop} {ta tb tc te : TE} {t u : TT} {tr : TA} {r r' : R2}

/-! ### tests -/
theorem wt_test (h : WQ te Γ fun q Γ1 => ∃ b, q = dP (.bool b) ∧ kt b Γ1) : WT (tTest te) Γ kt := fun ω σ H S Q f => h ω σ H S _ fun v q Γ1 ω1 H1 ⟨b, e, hk⟩ S1 p f1 => by
  subst e
  exact ⟨b, DR.bl_inv p, f b Γ1 ω1 H1 hk S1 f1⟩
theorem wt_B (h : WQ te Γ fun q Γ1 => ∃ b, q = dP (.bool b) ∧ kt b Γ1) : WT (tB te) Γ kt := fun ω σ H S Q f => h ω σ H S _ fun v q Γ1 ω1 H1 ⟨b, e, hk⟩ S1 p f1 => by
  subst e
  exact ⟨b, DR.bl_inv p, f b Γ1 ω1 H1 hk S1 f1⟩
theorem wt_not (h : WT t Γ fun b Γ1 => kt (!b) Γ1) : WT (tNot t) Γ kt := fun ω σ H S Q f => h ω σ H S _ fun b Γ1 ω1 H1 hk S1 f1 => f _ Γ1 ω1 H1 hk S1 f1
theorem wt_and (h : WT t Γ fun b Γ1 => if b = true then WT u Γ1 kt else kt false Γ1) : WT (tAnd t u) Γ kt := fun ω σ H S Q f => h ω σ H S _ fun b Γ1 ω1 H1 hk S1 f1 => by
  cases b with
  | true => exact iteT ((show WT u Γ1 kt from hk) ω1 σ H1 S1 Q fun b Γ2 ω2 H2 hk S2 f2 => f b Γ2 ω2 H2 hk S2 (f1.trans f2))
  | false => exact iteF (f false Γ1 ω1 H1 hk S1 f1)
theorem wt_or (h : WT t Γ fun b Γ1 => if b = true then kt true Γ1 else WT u Γ1 kt) : WT (tOr t u) Γ kt := fun ω σ H S Q f => h ω σ H S _ fun b Γ1 ω1 H1 hk S1 f1 => by
  cases b with
  | false => exact iteF ((show WT u Γ1 kt from hk) ω1 σ H1 S1 Q fun b Γ2 ω2 H2 hk S2 f2 => f b Γ2 ω2 H2 hk S2 (f1.trans f2))
  | true => exact iteT (f true Γ1 ω1 H1 hk S1 f1)
/-! ### and, or, not as values; a if t else b -/
theorem we_and (h : WQ ta Γ fun q Γ1 => ∃ b, q = dP (.bool b) ∧ if b = true then WE tb Γ1 k else k (dat (.bool false)) Γ1) : WE (tAndV ta tb) Γ k := fun ω σ H S Q f => h ω σ H S _ fun v q Γ1 ω1 H1 ⟨b, e, hk⟩ S1 p f1 => by
  subst e
  refine ⟨b, DR.bl_inv p, ?_⟩
  cases b with
  | true => exact iteT ((show WE tb Γ1 k from hk) ω1 σ H1 S1 Q fun v g Γ2 ω2 H2 hk S2 p2 f2 => f v g Γ2 ω2 H2 hk S2 p2 (f1.trans f2))
  | false => exact iteF (f _ _ Γ1 ω1 H1 hk S1 (DR.bl false) f1)
theorem we_or (h : WQ ta Γ fun q Γ1 => ∃ b, q = dP (.bool b) ∧ if b = true then k (dat (.bool true)) Γ1 else WE tb Γ1 k) : WE (tOrV ta tb) Γ k := fun ω σ H S Q f => h ω σ H S _ fun v q Γ1 ω1 H1 ⟨b, e, hk⟩ S1 p f1 => by
  subst e
  refine ⟨b, DR.bl_inv p, ?_⟩
  cases b with
  | false => exact iteF ((show WE tb Γ1 k from hk) ω1 σ H1 S1 Q fun v g Γ2 ω2 H2 hk S2 p2 f2 => f v g Γ2 ω2 H2 hk S2 p2 (f1.trans f2))
  | true => exact iteT (f _ _ Γ1 ω1 H1 hk S1 (DR.bl true) f1)
theorem we_not (h : WQ ta Γ fun q Γ1 => ∃ b, q = dP (.bool b) ∧ k (dat (.bool (!b))) Γ1) : WE (tNotV ta) Γ k := fun ω σ H S Q f => h ω σ H S _ fun v q Γ1 ω1 H1 ⟨b, e, hk⟩ S1 p f1 => by
  subst e
  exact ⟨b, DR.bl_inv p, f _ _ Γ1 ω1 H1 hk S1 (DR.bl _) f1⟩
theorem we_if (h : WT t Γ fun b Γ1 => if b = true then WE ta Γ1 k else WE tb Γ1 k) : WE (tIf t ta tb) Γ k := fun ω σ H S Q f => h ω σ H S _ fun b Γ1 ω1 H1 hk S1 f1 => by
  cases b with
  | true => exact iteT ((show WE ta Γ1 k from hk) ω1 σ H1 S1 Q fun v g Γ2 ω2 H2 hk S2 p2 f2 => f v g Γ2 ω2 H2 hk S2 p2 (f1.trans f2))
  | false => exact iteF ((show WE tb Γ1 k from hk) ω1 σ H1 S1 Q fun v g Γ2 ω2 H2 hk S2 p2 f2 => f v g Γ2 ω2 H2 hk S2 p2 (f1.trans f2))
/-! ### arguments -/
theorem wa_nil (h : ka [] Γ) : WA tNil Γ ka := fun ω σ H S Q f => f [] [] Γ ω H h S .nil Fr.refl
theorem wa_cons (h : WQ te Γ fun q Γ1 => WA tr Γ1 fun as Γ2 => ka (.q q :: as) Γ2) : WA (tCons te tr) Γ ka := fun ω σ H S Q f => h ω σ H S _ fun v q Γ1 ω1 H1 hk S1 p f1 =>
  hk ω1 σ H1 S1 _ fun vs as Γ2 ω2 H2 h2 S2 a f2 => f (v :: vs) (.q q :: as) Γ2 ω2 H2 h2 S2 (.cons (q.mono f2.1 p) a) (f1.trans f2)
theorem wa_slot {i : Nat} (hi : ∃ g, Γ[i]? = some (some g)) (h : WA tr Γ fun as Γ2 => ka (.s i :: as) Γ2) : WA (tCons (tVar i) tr) Γ ka := fun ω σ H S Q f => by
  obtain ⟨g, hg⟩ := hi
  obtain ⟨v, e, p⟩ := S.2 i g hg
  exact ⟨v, e, h ω σ H S _ fun vs as Γ2 ω2 H2 h2 S2 a f2 => f (v :: vs) (.s i :: as) Γ2 ω2 H2 h2 S2 (.cons e a) f2⟩
theorem WA.imp {ka' : List Arg → Ga → Prop} (h : WA tr Γ ka) (f : ∀ as Γ', ka as Γ' → ka' as Γ') : WA tr Γ ka' := fun ω σ H S Q c => h ω σ H S Q fun vs as Γ' ω' H' kk => c vs as Γ' ω' H' (f _ _ kk)
/-- arguments that are all data -/
def ArgD : List Arg → List PyData → Prop
  | [], [] => True
  | .q q :: as, d :: ds => q = dP d ∧ ArgD as ds
  | _, _ => False
theorem ArgD.drs {σ : L2.St} {A : Hp} : ∀ {as : List Arg} {ds : List PyData} {vs : List V}, ArgD as ds → ArgsOk σ A as vs → DRs A vs ds
  | [], [], _, _, h => by cases h; exact .nil
  | [], _ :: _, _, h, _ => h.elim
  | .q q :: as, [], _, h, _ => h.elim
  | .s i :: as, _, _, h, _ => by unfold ArgD at h; exact h.elim
  | .q q :: as, d :: ds, _, h, a => by
    obtain ⟨e, h⟩ := h
    subst e
    cases a with | cons x y => exact .cons x (ArgD.drs h y)
theorem we_tup (h : WA tr Γ fun as Γ1 => ∃ ds, ArgD as ds ∧ ds.length ≤ 100000 ∧ k (dat (.tuple ds)) Γ1) : WE (tTup tr) Γ k := fun ω σ H S Q f => h ω σ H S _ fun vs as Γ1 ω1 H1 ⟨ds, e, hl, hk⟩ S1 a f1 => by
  have hd := e.drs a
  refine ⟨by rw [hd.length]; exact Nat.le_trans hl (by decide), fun p hp => f _ _ Γ1 (paint ω1 p 0) _ hk (S1.new 0 hp) ?_ (f1.trans (paint_fr hp))⟩
  exact DR.tup paint_at (hd.mono (paint_same hp 0))
theorem we_lst (h : WA tr Γ fun as Γ1 => ∃ ds, ArgD as ds ∧ ds.length ≤ 100000 ∧ k (own ds) Γ1) : WE (tLst tr) Γ k := fun ω σ H S Q f => h ω σ H S _ fun vs as Γ1 ω1 H1 ⟨ds, e, hl, hk⟩ S1 a f1 => by
  have hd := e.drs a
  exact ⟨by rw [hd.length]; exact Nat.le_trans hl (by decide), fun p hp => f _ _ Γ1 (paint ω1 p 2) _ hk (S1.new 2 hp) ⟨p, vs, rfl, paint_at, hd.mono (paint_same hp 0)⟩ (f1.trans (paint_fr hp))⟩

/-! ### operations -/
def rOr (r r' : R2) : R2 := fun x y H Q => r x y H Q ∨ r' x y H Q
theorem op_or {X : Cx} {f : Value → Value → Sem Value} (h : OpR X f r) (h' : OpR X f r') : OpR X f (rOr r r') := fun pins s σ H x y v u Q I rx ry q => by
  rcases q with q | q
  · exact h pins s σ H x y v u Q I rx ry q
  · exact h' pins s σ H x y v u Q I rx ry q
/-- what r does upon two data -/
def OpD (r : R2) (d e : PyData) (q : Per) : Prop := ∀ (A H : Hp) (v w : V), Same A H → DR A v d → DR A w e → ∀ Q : VK, (∀ z, q.q A z → Q z H) → r v w H Q
theorem OpD.lft {d e : PyData} {q : Per} (h : OpD r d e q) : OpD (rOr r r') d e q := fun A H v w s a b Q c => .inl (h A H v w s a b Q c)
theorem od_I {C : Int → Int → Prop} {gi : Int → Int → Int} {i j : Int} (c : C i j) : OpD (rI C fun i j => .int (gi i j)) (.int i) (.int j) (dP (.int (gi i j))) := fun A H v w _ hv hw Q g => by
  cases hv.int_inv
  cases hw.int_inv
  exact ⟨i, j, rfl, rfl, c, g _ (DR.int _)⟩
theorem od_I0 {gi : Int → Int → Int} {i j : Int} : OpD (rI0 fun i j => .int (gi i j)) (.int i) (.int j) (dP (.int (gi i j))) := fun A H v w _ hv hw Q g => by
  cases hv.int_inv
  cases hw.int_inv
  exact ⟨i, j, rfl, rfl, g _ (DR.int _)⟩
theorem od_B0 {gi : Int → Int → Bool} {i j : Int} : OpD (rI0 fun i j => .bl (gi i j)) (.int i) (.int j) (dP (.bool (gi i j))) := fun A H v w _ hv hw Q g => by
  cases hv.int_inv
  cases hw.int_inv
  exact ⟨i, j, rfl, rfl, g _ (DR.bl _)⟩
theorem Dp.same {H H' : Hp} {v : V} {d : PyData} (z : SeqAt.shaped d = true) (s : Same H H') (h : DR H v d) : Dp K H' v d := DR.dp d (SeqAt.canLay_of_shaped z) (h.mono s)
theorem od_eq {d e : PyData} (hd : SeqAt.shaped d = true) (he : SeqAt.shaped e = true) : OpD (rEqD K) d e (dP (.bool (PyData.eqv d e))) := fun A H v w s a b Q g => ⟨d, e, Dp.same hd s a, Dp.same he s b, hd, he, g _ (DR.bl _)⟩
theorem od_ne {d e : PyData} (hd : SeqAt.shaped d = true) (he : SeqAt.shaped e = true) : OpD (rNeD K) d e (dP (.bool (!PyData.eqv d e))) := fun A H v w s a b Q g => ⟨d, e, Dp.same hd s a, Dp.same he s b, hd, he, g _ (DR.bl _)⟩
theorem od_in {d : PyData} {ds : List PyData} (hd : SeqAt.shaped d = true) (he : SeqAt.shaped (.list ds) = true) : OpD (rInD K) d (.list ds) (dP (.bool (ds.any fun z => PyData.eqv z d))) := fun A H v w s a b Q g =>
  ⟨d, ds, Dp.same hd s a, Dp.same he s b, hd, he, g _ (DR.bl _)⟩
theorem od_notIn {d : PyData} {ds : List PyData} (hd : SeqAt.shaped d = true) (he : SeqAt.shaped (.list ds) = true) : OpD (rNotInD K) d (.list ds) (dP (.bool (!ds.any fun z => PyData.eqv z d))) := fun A H v w s a b Q g =>
  ⟨d, ds, Dp.same hd s a, Dp.same he s b, hd, he, g _ (DR.bl _)⟩
theorem od_ixL {ds : List PyData} {i : Int} {d : PyData} (h : atI ds i = some d) : OpD (rIx K) (.list ds) (.int i) (dP d) := fun A H v w s a b Q g => by
  obtain ⟨x, xs, rfl, hx, hd⟩ := a.lst_inv
  cases b.int_inv
  obtain ⟨z, hz, dz⟩ : ∃ z, atI xs i = some z ∧ DR A z d := by
    unfold atI at h ⊢
    rw [← hd.length] at h
    cases e : ixN xs.length i with
    | none => rw [e] at h; cases h
    | some j =>
      rw [e] at h
      obtain ⟨z, hz, dz⟩ := hd.at (i := j) h
      exact ⟨z, hz, dz⟩
  exact .inl ⟨x, xs, i, z, rfl, rfl, SqL.of (s _ _ hx), hz, g _ dz⟩
theorem od_ixT {ds : List PyData} {i : Int} {d : PyData} (h : atI ds i = some d) : OpD (rIx K) (.tuple ds) (.int i) (dP d) := fun A H v w s a b Q g => by
  obtain ⟨x, xs, rfl, hx, hd⟩ := a.tup_inv
  cases b.int_inv
  obtain ⟨z, hz, dz⟩ : ∃ z, atI xs i = some z ∧ DR A z d := by
    unfold atI at h ⊢
    rw [← hd.length] at h
    cases e : ixN xs.length i with
    | none => rw [e] at h; cases h
    | some j =>
      rw [e] at h
      obtain ⟨z, hz, dz⟩ := hd.at (i := j) h
      exact ⟨z, hz, dz⟩
  exact .inr (.inl ⟨x, xs, i, z, rfl, rfl, SqT.of (s _ _ hx), hz, g _ dz⟩)
theorem at_nat {α : Type} {xs : List α} {i : Int} {d : α} (j : Nat) (e : i = j) (h : xs[j]? = some d) : atI xs i = some d := by
  rw [e]
  exact atI_nat h
/-- a slot's own list read by its place -/
theorem we_ixS {i : Nat} {ds : List PyData} (h : Γ[i]? = some (some (own ds))) (hb : WQ tb Γ fun q Γ1 => ∃ j d, q = dP (.int j) ∧ Γ1[i]? = some (some (own ds)) ∧ atI ds j = some d ∧ k (dat d) Γ1) : WE (tOp (rIx K) (tVar i) tb) Γ k := fun ω σ H S Q f => by
  obtain ⟨v, e, p⟩ := S.2 i _ h
  refine ⟨v, e, hb ω σ H S _ fun w q Γ1 ω1 H1 ⟨j, d, eq, hi, ha, hk⟩ S1 pq f1 => ?_⟩
  subst eq
  cases DR.int_inv pq
  obtain ⟨v', e', p'⟩ := S1.2 i _ hi
  rw [e] at e'
  cases e'
  obtain ⟨a, vs, rfl, hr, hd⟩ := p'
  obtain ⟨z, hz, dz⟩ : ∃ z, atI vs j = some z ∧ DR (vw ω1 H1 0) z d := by
    unfold atI at ha ⊢
    rw [← hd.length] at ha
    cases e : ixN vs.length j with
    | none => rw [e] at ha; cases ha
    | some j =>
      rw [e] at ha
      obtain ⟨z, hz, dz⟩ := hd.at (i := j) ha
      exact ⟨z, hz, dz⟩
  exact .inl ⟨a, vs, j, z, rfl, rfl, SqL.of (vw_H hr), hz, f _ _ Γ1 ω1 H1 hk S1 dz f1⟩
/-! ### calls of built-ins upon data -/
def CbD (r : List V → Hp → VK → Prop) (ds : List PyData) (q : Per) : Prop := ∀ (A H : Hp) (vs : List V), Same A H → DRs A vs ds → ∀ Q : VK, (∀ z, q.q A z → Q z H) → r vs H Q
/-- .. that gives a new list -/
def CbL (r : List V → Hp → VK → Prop) (ds : List PyData) (P : List PyData → Prop) : Prop := ∀ (A H : Hp) (vs : List V), Same A H → DRs A vs ds → ∀ Q : VK, (∀ es xs p, P es → DRs A xs es → H p = none → Q (.ref p) (upd H p (.lst xs))) → r vs H Q
/-- len of a slot's own list -/
theorem we_lenS {i : Nat} {ds : List PyData} (h : Γ[i]? = some (some (own ds))) (hk : k (dat (.int ds.length)) Γ) : WE (tCB (fun xs H Q => ∃ x n, xs = [x] ∧ LenV K x H n ∧ Q (.int n) H) (tCons (tVar i) tNil)) Γ k := fun ω σ H S Q f => by
  obtain ⟨v, e, p⟩ := S.2 i _ h
  obtain ⟨a, vs, rfl, hr, hd⟩ := id p
  exact ⟨_, e, _, vs.length, rfl, .inl ⟨vs, SqL.of (vw_H hr), rfl⟩, by rw [hd.length]; exact f _ _ Γ ω H hk S (DR.int _) Fr.refl⟩
end
end G

namespace G
open PySem L2

/-! ### statements -/
structure Pe where
  nx : Ga → Prop
  rt : Gp → Ga → Prop
  bk : Ga → Prop
  ct : Ga → Prop
/-- what follows another statement; what a loop's body is to reach -/
abbrev Pe.to (D : Pe) (n : Ga → Prop) : Pe := ⟨n, D.rt, D.bk, D.ct⟩
abbrev Pe.lp (D : Pe) (n : Ga → Prop) : Pe := ⟨n, D.rt, D.nx, n⟩
def Pin (P : Nat → Bool) (σ σ' : L2.St) : Prop := σ'.length = σ.length ∧ ∀ i, P i = true → σ'[i]? = σ[i]?
theorem Pin.refl {P : Nat → Bool} {σ : L2.St} : Pin P σ σ := ⟨rfl, fun _ _ => rfl⟩
theorem Pin.trans {P : Nat → Bool} {σ σ1 σ2 : L2.St} (a : Pin P σ σ1) (b : Pin P σ1 σ2) : Pin P σ σ2 := ⟨b.1.trans a.1, fun i h => (b.2 i h).trans (a.2 i h)⟩
structure Met (P : Nat → Bool) (D : Pe) (ω : Col) (σ : L2.St) (H : Hp) (E : Ends) : Prop where
  nx : ∀ Γ' ω' σ' H', D.nx Γ' → Sta Γ' ω' σ' H' → Fr ω ω' H H' → Pin P σ σ' → E.nx σ' H'
  rt : ∀ v g Γ' ω' σ' H', D.rt g Γ' → Sta Γ' ω' σ' H' → Gp.p g (vw ω' H' 0) v (vw ω' H' 2) → Fr ω ω' H H' → Pin P σ σ' → E.rt v H'
  bk : ∀ Γ' ω' σ' H', D.bk Γ' → Sta Γ' ω' σ' H' → Fr ω ω' H H' → Pin P σ σ' → E.bk σ' H'
  ct : ∀ Γ' ω' σ' H', D.ct Γ' → Sta Γ' ω' σ' H' → Fr ω ω' H H' → Pin P σ σ' → E.ct σ' H'
theorem Met.after {P : Nat → Bool} {D : Pe} {ω ω1 : Col} {σ σ1 : L2.St} {H H1 : Hp} {E : Ends} (m : Met P D ω σ H E) (f : Fr ω ω1 H H1) (p : Pin P σ σ1) : Met P D ω1 σ1 H1 E :=
  ⟨fun Γ' ω' σ' H' h S g q => m.nx Γ' ω' σ' H' h S (f.trans g) (p.trans q), fun v g Γ' ω' σ' H' h S x y q => m.rt v g Γ' ω' σ' H' h S x (f.trans y) (p.trans q),
   fun Γ' ω' σ' H' h S g q => m.bk Γ' ω' σ' H' h S (f.trans g) (p.trans q), fun Γ' ω' σ' H' h S g q => m.ct Γ' ω' σ' H' h S (f.trans g) (p.trans q)⟩
def WS (P : Nat → Bool) (t : TS) (Γ : Ga) (D : Pe) : Prop := ∀ ω σ H, Sta Γ ω σ H → ∀ E : Ends, Met P D ω σ H E → t E σ H
def WG (P : Nat → Bool) (g : TG) (q : Per) (Γ : Ga) (k : Ga → Prop) : Prop := ∀ ω σ H v, Sta Γ ω σ H → q.q (vw ω H 0) v → ∀ R : L2.St → Hp → Prop,
  (∀ Γ' ω' σ' H', k Γ' → Sta Γ' ω' σ' H' → Fr ω ω' H H' → Pin P σ σ' → R σ' H') → g v σ H R
section
variable {K : PySem.W.Frag} {P : Nat → Bool} {Γ : Ga} {D : Pe} {k : Gp → Ga → Prop} {kt : Bool → Ga → Prop} {kg : Ga → Prop} {te tl : TE} {c : TT} {t u tb : TS} {ta : TA} {g : TG}
theorem ws_seq (h : WS P t Γ (D.to fun Γ' => WS P u Γ' D)) : WS P (tSeq t u) Γ D := fun ω σ H S E m =>
  h ω σ H S { E with nx := u E } ⟨fun Γ' ω' σ' H' hk S' f p => (show WS P u Γ' D from hk) ω' σ' H' S' E (m.after f p), m.rt, m.bk, m.ct⟩
theorem ws_next (h : D.nx Γ) : WS P tNext Γ D := fun ω σ H S E m => m.nx Γ ω σ H h S Fr.refl Pin.refl
theorem pin_set {σ : L2.St} {i : Nat} {x : Option V} (h : P i = false) : Pin P σ (σ.set i x) := ⟨by rw [List.length_set], fun j hj => by
  rw [set_eq, if_neg]
  intro e
  subst e
  rw [h] at hj
  cases hj⟩
theorem ws_asg {i : Nat} (hp : P i = false) (h : WE te Γ fun g Γ' => D.nx (Γ'.set i (some g))) : WS P (tAsg te (gName i)) Γ D := fun ω σ H S E m => h ω σ H S _ fun v g Γ' ω' H' hk S' p f =>
  m.nx _ _ _ H' hk (S'.asg p) (f.trans give_fr) (pin_set hp)
theorem ws_asgG (h : WQ te Γ fun q Γ' => WG P g q Γ' D.nx) : WS P (tAsg te g) Γ D := fun ω σ H S E m => h ω σ H S _ fun v q Γ' ω' H' hk S' p f =>
  hk ω' σ H' v S' p _ fun Γ2 ω2 σ2 H2 h2 S2 f2 p2 => m.nx Γ2 ω2 σ2 H2 h2 S2 (f.trans f2) p2
theorem Sta.setq {ω : Col} {σ : L2.St} {H : Hp} (S : Sta Γ ω σ H) {i : Nat} {v : V} {q : Per} (p : q.q (vw ω H 0) v) : Sta (Γ.set i (some (per q))) ω (σ.set i (some v)) H := by
  refine ⟨by rw [List.length_set, List.length_set]; exact S.1, fun j g' hj => ?_⟩
  rw [set_eq] at hj
  by_cases hij : i = j
  · rw [if_pos hij] at hj
    split at hj
    next hl =>
      cases hj
      subst hij
      exact ⟨v, by rw [set_eq, if_pos rfl, if_pos (by rw [S.1]; exact hl)], p⟩
    · cases hj
  · rw [if_neg hij] at hj
    obtain ⟨w, e', p'⟩ := S.2 j _ hj
    exact ⟨w, by rw [set_eq, if_neg hij]; exact e', p'⟩
theorem wg_name {i : Nat} {q : Per} (hp : P i = false) (h : kg (Γ.set i (some (per q)))) : WG P (gName i) q Γ kg := fun ω σ H v S p R f => f _ ω _ H h (S.setq p) Fr.refl (pin_set hp)
def WGs (P : Nat → Bool) (g : TGs) (ds : List PyData) (Γ : Ga) (k : Ga → Prop) : Prop := ∀ ω σ H vs, Sta Γ ω σ H → DRs (vw ω H 0) vs ds → ∀ R : L2.St → Hp → Prop,
  (∀ Γ' ω' σ' H', k Γ' → Sta Γ' ω' σ' H' → Fr ω ω' H H' → Pin P σ σ' → R σ' H') → g vs σ H R
theorem wgs_nil (h : kg Γ) : WGs P gNil [] Γ kg := fun ω σ H vs S p R f => by
  cases p
  exact ⟨rfl, f Γ ω σ H h S Fr.refl Pin.refl⟩
theorem wgs_cons {gs : TGs} {d : PyData} {ds : List PyData} (h : WG P g (dP d) Γ fun Γ1 => WGs P gs ds Γ1 kg) : WGs P (gCons g gs) (d :: ds) Γ kg := fun ω σ H vs S p R f => by
  cases p with | cons a b =>
  exact ⟨_, _, rfl, h ω σ H _ S a _ fun Γ1 ω1 σ1 H1 h1 S1 f1 p1 => h1 ω1 σ1 H1 _ S1 (b.mono f1.1) R fun Γ2 ω2 σ2 H2 h2 S2 f2 p2 => f Γ2 ω2 σ2 H2 h2 S2 (f1.trans f2) (p1.trans p2)⟩
theorem wg_tup {gs : TGs} {n : Nat} {ds : List PyData} (hn : ds.length = n) (h : WGs P gs ds Γ kg) : WG P (gTup K n gs) (dP (.tuple ds)) Γ kg := fun ω σ H v S p R f => by
  obtain ⟨a, xs, rfl, ha, hd⟩ := DR.tup_inv p
  exact ⟨a, xs, rfl, SqT.of (vw_H ha), by rw [hd.length]; exact hn, h ω σ H xs S hd R f⟩
/-- xs[i] = e, xs a slot's own -/
theorem wg_set {i : Nat} {ds : List PyData} {ti : TE} {d : PyData} (hi : Γ[i]? = some (some (own ds))) (h : WQ ti Γ fun q Γ1 => ∃ j m ds', q = dP (.int j) ∧ Γ1[i]? = some (some (own ds')) ∧ ixN ds'.length j = some m ∧ kg (Γ1.set i (some (own (ds'.set m d))))) :
    WG P (gSub (tVar i) ti rSetL) (dP d) Γ kg := fun ω σ H v S p R f => by
  obtain ⟨x, e, p0⟩ := S.2 i _ hi
  refine ⟨x, e, h ω σ H S _ fun w q Γ1 ω1 H1 ⟨j, m, ds', eq, hi1, hj, hk⟩ S1 pq f1 => ?_⟩
  subst eq
  cases DR.int_inv pq
  obtain ⟨x', e', p1⟩ := S1.2 i _ hi1
  rw [e] at e'
  cases e'
  obtain ⟨a, vs, rfl, hr, hd⟩ := p1
  have ca := vw_c hr
  refine ⟨a, vs, j, m, rfl, rfl, vw_H hr, by rw [hd.length]; exact hj, ?_⟩
  have m0 : Same (vw ω1 H1 0) (vw ω1 (upd H1 a (.lst (vs.set m v))) 0) := mut_same (by rw [ca]; omega)
  refine f _ ω1 σ _ hk (S1.set m0 (fun j' g' hne _ => mut_same (by rw [ca]; omega)) e ⟨a, _, rfl, vw_mk ca upd_same, ?_⟩) (f1.trans ⟨m0, mut_same (by rw [ca]; omega)⟩) Pin.refl
  exact (hd.mono m0).set m ((DR.mono f1.1 d p).mono m0)
theorem ws_drop (h : WE te Γ fun _ Γ' => D.nx Γ') : WS P (tDrop te) Γ D := fun ω σ H S E m => h ω σ H S _ fun v g Γ' ω' H' hk S' p f => m.nx Γ' ω' σ H' hk S' f Pin.refl
theorem ws_ret (h : WE te Γ fun g Γ' => D.rt g Γ') : WS P (tRet te) Γ D := fun ω σ H S E m => h ω σ H S _ fun v g Γ' ω' H' hk S' p f => m.rt v g Γ' ω' σ H' hk S' p f Pin.refl
theorem ws_retN (h : D.rt (dat .none) Γ) : WS P tRetN Γ D := fun ω σ H S E m => m.rt .non _ Γ ω σ H h S DR.non Fr.refl Pin.refl
theorem ws_if (h : WT c Γ fun b Γ' => if b = true then WS P t Γ' D else WS P u Γ' D) : WS P (tIfS c t u) Γ D := fun ω σ H S E m => h ω σ H S _ fun b Γ' ω' H' hk S' f => by
  cases b with
  | true => exact iteT ((show WS P t Γ' D from hk) ω' σ H' S' E (m.after f Pin.refl))
  | false => exact iteF ((show WS P u Γ' D from hk) ω' σ H' S' E (m.after f Pin.refl))
theorem ws_augAdd {i : Nat} {n : Int} (hp : P i = false) (hi : Γ[i]? = some (some (dat (.int n)))) (h : WQ te Γ fun q Γ1 => ∃ m, q = dP (.int m) ∧ D.nx (Γ1.set i (some (dat (.int (n + m)))))) : WS P (tAug i te (ipI fun i j => i + j)) Γ D := fun ω σ H S E m => by
  obtain ⟨v, e, p⟩ := S.2 i _ hi
  cases DR.int_inv p
  refine ⟨_, e, h ω σ H S _ fun w q Γ1 ω1 H1 ⟨j, eq, hk⟩ S1 pq f1 => ?_⟩
  subst eq
  cases DR.int_inv pq
  exact ⟨n, j, rfl, rfl, m.nx _ ω1 _ H1 hk (S1.setq (q := dP (.int (n + j))) (DR.int _)) f1 (pin_set hp)⟩
/-! ### loops -/
def Walks (J : It) (A : Hp) (n : Nat) (it : Nat → Per) : Prop := ∀ i H', Same A H' →
  (i < n → J.go i H' ∧ ∀ x H'', J.yld i H' x H'' → (H'' = H' ∧ (it i).q A x) ∨ ∃ T vs ds, H' T = none ∧ H'' = upd H' T (.tup vs) ∧ x = .ref T ∧ it i = dP (.tuple ds) ∧ DRs A vs ds) ∧ (n ≤ i → J.stop i H')
def WI (wi : TI) (Γ : Ga) (k : Nat → (Nat → Per) → Ga → Prop) : Prop := ∀ ω σ H, Sta Γ ω σ H → ∀ R : It → Hp → Prop,
  (∀ J n it Γ' ω' H', k n it Γ' → Sta Γ' ω' σ H' → Walks J (vw ω' H' 0) n it → Fr ω ω' H H' → R J H') → wi σ H R
/-- an item has come: it stands still -/
theorem yld_ok {J : It} {A : Hp} {n i : Nat} {it : Nat → Per} (W : Walks J A n it) {ω ω0 : Col} {σ : L2.St} {H0 H H'' : Hp} {x : V} (hA : A = vw ω0 H0 0) (f : Fr ω0 ω H0 H) (S : Sta Γ ω σ H) (hi : i < n) (y : J.yld i H x H'') :
    ∃ ω', Sta Γ ω' σ H'' ∧ Fr ω ω' H H'' ∧ (it i).q (vw ω' H'' 0) x := by
  have sA : Same A H := fun a o e => vw_H (f.1 a o (by rw [← hA]; exact e))
  rcases ((W i H sA).1 hi).2 x H'' y with ⟨e, q⟩ | ⟨T, vs, ds, hT, e, ex, ei, hd⟩
  · subst e
    exact ⟨ω, S, Fr.refl, (it i).mono f.1 (by rw [← hA]; exact q)⟩
  · subst e ex
    refine ⟨paint ω T 0, S.new 0 hT, paint_fr hT, ?_⟩
    rw [ei]
    refine DR.tup paint_at ?_
    rw [hA] at hd
    exact (hd.mono f.1).mono (paint_same hT 0)
theorem ws_for {wi : TI} (Pv : Nat → Ga → Prop) (h : WI wi Γ fun n it Γ1 => Pv 0 Γ1 ∧ (∀ Γ2, Pv n Γ2 → D.nx Γ2) ∧ ∀ i Γ2, i < n → Pv i Γ2 →
    WG P g (it i) Γ2 fun Γ3 => WS P tb Γ3 (D.lp (Pv (i + 1)))) : WS P (tFor wi g tb) Γ D := fun ω σ H S E m => h ω σ H S _ fun J n it Γ1 ω1 H1 ⟨h0, hd, hs⟩ S1 W f1 => by
  refine ⟨fun i μ σ' H' => μ = n - i ∧ i ≤ n ∧ ∃ Γ2 ω2, Pv i Γ2 ∧ Sta Γ2 ω2 σ' H' ∧ Fr ω1 ω2 H1 H' ∧ Pin P σ σ', ⟨n, by simp, Nat.zero_le _, Γ1, ω1, h0, S1, Fr.refl, Pin.refl⟩, ?_⟩
  rintro i μ σ' H' ⟨rfl, hi, Γ2, ω2, p2, S2, f2, q2⟩
  have sA : Same (vw ω1 H1 0) H' := fun a o e => vw_H (f2.1 a o e)
  by_cases hlt : i < n
  · refine .inr ⟨((W i H' sA).1 hlt).1, fun σ'' H'' => ∃ Γ2 ω2, Pv (i + 1) Γ2 ∧ Sta Γ2 ω2 σ'' H'' ∧ Fr ω1 ω2 H1 H'' ∧ Pin P σ σ'', fun σ'' H'' z => ⟨n - (i + 1), by omega, rfl, hlt, z⟩, fun x H'' y => ?_⟩
    obtain ⟨ω3, S3, f3, q3⟩ := yld_ok W rfl f2 S2 hlt y
    refine hs i Γ2 hlt p2 ω3 σ' H'' x S3 q3 _ fun Γ4 ω4 σ4 H4 h4 S4 f4 q4 => ?_
    have f14 : Fr ω1 ω4 H1 H4 := (f2.trans f3).trans f4
    refine h4 ω4 σ4 H4 S4 _ ⟨fun Γ' ω' σ5 H5 hk S5 f5 q5 => ⟨Γ', ω', hk, S5, f14.trans f5, (q2.trans q4).trans q5⟩,
      fun v gg Γ' ω' σ5 H5 hk S5 p5 f5 q5 => m.rt v gg Γ' ω' σ5 H5 hk S5 p5 (f1.trans (f14.trans f5)) ((q2.trans q4).trans q5),
      fun Γ' ω' σ5 H5 hk S5 f5 q5 => m.nx Γ' ω' σ5 H5 hk S5 (f1.trans (f14.trans f5)) ((q2.trans q4).trans q5),
      fun Γ' ω' σ5 H5 hk S5 f5 q5 => ⟨Γ', ω', hk, S5, f14.trans f5, (q2.trans q4).trans q5⟩⟩
  · have e : i = n := by omega
    subst e
    exact .inl ⟨(W i H' sA).2 (Nat.le_refl _), m.nx Γ2 ω2 σ' H' (hd Γ2 p2) S2 (f1.trans f2) q2⟩
theorem ws_while (Pv : Nat → Ga → Prop) (h0 : ∃ m, Pv m Γ) (hs : ∀ m Γ1, Pv m Γ1 → WT c Γ1 fun b Γ2 => if b = true then WS P tb Γ2 (D.lp fun Γ3 => ∃ m', m' < m ∧ Pv m' Γ3) else D.nx Γ2) :
    WS P (tWhile c tb) Γ D := fun ω σ H S E m => by
  obtain ⟨m0, h0⟩ := h0
  refine ⟨fun μ σ' H' => ∃ Γ2 ω2, Pv μ Γ2 ∧ Sta Γ2 ω2 σ' H' ∧ Fr ω ω2 H H' ∧ Pin P σ σ', ⟨m0, Γ, ω, h0, S, Fr.refl, Pin.refl⟩, ?_⟩
  rintro μ σ' H' ⟨Γ2, ω2, p2, S2, f2, q2⟩
  refine hs μ Γ2 p2 ω2 σ' H' S2 _ fun b Γ3 ω3 H3 hk S3 f3 => ?_
  cases b with
  | false => exact iteF (m.nx Γ3 ω3 σ' H3 hk S3 (f2.trans f3) q2)
  | true =>
    refine iteT ⟨fun σ'' H'' => ∃ m', m' < μ ∧ ∃ Γ2 ω2, Pv m' Γ2 ∧ Sta Γ2 ω2 σ'' H'' ∧ Fr ω ω2 H H'' ∧ Pin P σ σ'', fun σ'' H'' z => z, ?_⟩
    refine (show WS P tb Γ3 _ from hk) ω3 σ' H3 S3 _ ⟨fun Γ' ω' σ5 H5 ⟨m', hm, hk⟩ S5 f5 q5 => ⟨m', hm, Γ', ω', hk, S5, (f2.trans f3).trans f5, q2.trans q5⟩,
      fun v gg Γ' ω' σ5 H5 hk S5 p5 f5 q5 => m.rt v gg Γ' ω' σ5 H5 hk S5 p5 ((f2.trans f3).trans f5) (q2.trans q5),
      fun Γ' ω' σ5 H5 hk S5 f5 q5 => m.nx Γ' ω' σ5 H5 hk S5 ((f2.trans f3).trans f5) (q2.trans q5),
      fun Γ' ω' σ5 H5 ⟨m', hm, hk⟩ S5 f5 q5 => ⟨m', hm, Γ', ω', hk, S5, (f2.trans f3).trans f5, q2.trans q5⟩⟩
/-! ### what is walked -/
theorem wi_list {ki : Nat → (Nat → Per) → Ga → Prop} (h : WQ tl Γ fun q Γ1 => ∃ ds, q = dP (.list ds) ∧ ki ds.length (fun i => dP (ds.getD i .none)) Γ1) : WI (iList K tl) Γ ki := fun ω σ H S R f => h ω σ H S _ fun v q Γ1 ω1 H1 ⟨ds, e, hk⟩ S1 p f1 => by
  subst e
  obtain ⟨a, xs, rfl, ha, hd⟩ := DR.lst_inv p
  refine ⟨a, rfl, ⟨xs, SqL.of (vw_H ha)⟩, f (Itl K a) ds.length _ Γ1 ω1 H1 hk S1 (fun i H' s => ?_) f1⟩
  have hq : H' a = some (.lst xs) := s _ _ ha
  refine ⟨fun hi => ?_, fun hi => ⟨xs, SqL.of hq, by rw [hd.length]; exact hi⟩⟩
  have hix : i < xs.length := by rw [hd.length]; exact hi
  refine ⟨⟨xs, xs[i], SqL.of hq, by simp [hix]⟩, fun x H'' y => .inl ?_⟩
  obtain ⟨e, y⟩ := y
  refine ⟨e, ?_⟩
  have hx := y xs (SqL.of hq)
  obtain ⟨d, h1, h2⟩ := hd.get hx
  show DR _ x (ds.getD i .none)
  rw [List.getD_eq_getElem?_getD, h1]
  exact h2
theorem walks_r {lo : Int} {n : Nat} {A : Hp} : Walks (Itr lo n) A n fun i => dP (.int (lo + i)) := fun i H' s =>
  ⟨fun hi => ⟨hi, fun x H'' y => .inl ⟨y.1, by rw [y.2]; exact DR.int _⟩⟩, fun hi => hi⟩
theorem wi_range1 {ki : Nat → (Nat → Per) → Ga → Prop} (h : WA ta Γ fun as Γ1 => ∃ j : Int, as = [.q (dP (.int j))] ∧ -(2 ^ 62) ≤ j ∧ j < 2 ^ 62 ∧ ki j.toNat (fun i => dP (.int (0 + i))) Γ1) : WI (iRng1 ta) Γ ki := fun ω σ H S R f => h ω σ H S _ fun vs as Γ1 ω1 H1 ⟨j, e, l, u, hk⟩ S1 a f1 => by
  subst e
  cases a with | cons x y =>
  cases y
  cases DR.int_inv x
  exact ⟨j, rfl, l, u, f _ _ _ Γ1 ω1 H1 hk S1 walks_r f1⟩
end
end G

namespace G
open PySem L2

/-! ### comprehensions -/
def wipeG (Γ : Ga) : List Nat → Ga
  | [] => Γ
  | v :: vs => (wipeG Γ vs).set v none
theorem wipe_get {σ : L2.St} : ∀ {vs : List Nat} {i : Nat}, (wipe σ vs)[i]? = if i ∈ vs then (if i < σ.length then some none else none) else σ[i]?
  | [], i => by simp [wipe]
  | v :: vs, i => by
    unfold wipe
    rw [set_eq, wipe_length]
    by_cases h : v = i
    · subst h; simp
    · rw [if_neg h, wipe_get]
      have : (i ∈ v :: vs) ↔ i ∈ vs := by simp [Ne.symm h]
      simp only [this]
theorem wipeG_length {Γ : Ga} : ∀ vs : List Nat, (wipeG Γ vs).length = Γ.length
  | [] => rfl
  | v :: vs => by unfold wipeG; rw [List.length_set, wipeG_length vs]
theorem wipeG_get {Γ : Ga} : ∀ {vs : List Nat} {i : Nat} {g : Gp}, (wipeG Γ vs)[i]? = some (some g) → i ∉ vs ∧ Γ[i]? = some (some g)
  | [], i, g, h => ⟨by simp, h⟩
  | v :: vs, i, g, h => by
    unfold wipeG at h
    rw [set_eq] at h
    by_cases e : v = i
    · rw [if_pos e] at h
      split at h <;> cases h
    · rw [if_neg e] at h
      obtain ⟨h1, h2⟩ := wipeG_get h
      exact ⟨by simp [Ne.symm e, h1], h2⟩
theorem Sta.wipe {Γ : Ga} {ω : Col} {σ : L2.St} {H : Hp} (S : Sta Γ ω σ H) (vs : List Nat) : Sta (wipeG Γ vs) ω (L2.wipe σ vs) H := by
  refine ⟨by rw [wipe_length, wipeG_length]; exact S.1, fun i g h => ?_⟩
  obtain ⟨h1, h2⟩ := wipeG_get h
  obtain ⟨v, e, p⟩ := S.2 i g h2
  exact ⟨v, by rw [wipe_get, if_neg h1]; exact e, p⟩
/-- back at the whole frame: only the block's own names may be other -/
theorem Sta.unwipe {Γ : Ga} {ω : Col} {σ σ2 : L2.St} {H : Hp} {vs : List Nat} (S : Sta Γ ω σ2 H) (p : Pin (fun i => !vs.contains i) (L2.wipe σ vs) σ2) : Sta (wipeG Γ vs) ω σ H ∧ L2.wipe σ2 vs = L2.wipe σ vs := by
  have hl : σ2.length = σ.length := by rw [p.1, wipe_length]
  refine ⟨⟨by rw [wipeG_length, ← S.1]; exact hl.symm, fun i g h => ?_⟩, ?_⟩
  · obtain ⟨h1, h2⟩ := wipeG_get h
    obtain ⟨v, e, q⟩ := S.2 i g h2
    refine ⟨v, ?_, q⟩
    rw [← e, p.2 i (by simp [h1]), wipe_get, if_neg h1]
  · apply List.ext_getElem?
    intro i
    rw [wipe_get, wipe_get, hl]
    by_cases h1 : i ∈ vs
    · simp only [h1, if_true]
    · simp only [h1, if_false]
      rw [p.2 i (by simp [h1]), wipe_get, if_neg h1]
section
variable {K : PySem.W.Frag} {P : Nat → Bool} {Γ : Ga} {D : Pe} {k : Gp → Ga → Prop} {kt : Bool → Ga → Prop} {kg : Ga → Prop} {te tl : TE} {tt : TT} {t u tb : TS} {ta : TA} {g : TG}
theorem wt_yes (h : kt true Γ) : WT tYes Γ kt := fun ω σ H S Q f => f true Γ ω H h S Fr.refl
/-- a new list by a comprehension; Pv: turn, what is made, slots -/
theorem we_lc {wi : TI} {vs : List Nat} (Pv : Nat → List PyData → Ga → Prop) (h : WI wi Γ fun n it Γ1 => Pv 0 [] Γ1 ∧ (∀ acc Γ2, Pv n acc Γ2 → k (own acc) Γ2) ∧ ∀ i acc Γ2, i < n → Pv i acc Γ2 → Γ2.length = Γ.length →
    WG (fun i => !vs.contains i) g (it i) (wipeG Γ2 vs) fun Γ3 => WT tt Γ3 fun b Γ4 => if b = true then WQ te Γ4 fun q Γ5 => ∃ d, q = dP d ∧ acc.length < 100000 ∧ Pv (i + 1) (acc ++ [d]) (wipeG Γ5 vs) else Pv (i + 1) acc (wipeG Γ4 vs)) :
    WE (tLc wi g tt te vs) Γ k := fun ω σ H S Q f => h ω σ H S _ fun J n it Γ1 ω1 H1 ⟨h0, hd, hs⟩ S1 W f1 => by
  intro L hL
  have hlen : ∀ {Γ2 : Ga} {ω2 : Col} {σ2 : L2.St} {H2 : Hp}, Sta Γ2 ω2 σ2 H2 → σ2.length = σ.length → Γ2.length = Γ.length := fun {Γ2 ω2 σ2 H2} S2 e => by rw [← S2.1, e, S.1]
  refine ⟨fun i μ H' => μ = n - i ∧ i ≤ n ∧ ∃ acc xs Γ2 ω2, Pv i acc Γ2 ∧ Sta Γ2 ω2 σ H' ∧ Fr ω1 ω2 H1 H' ∧ ω2 L = 1 ∧ H' L = some (.lst xs) ∧ DRs (vw ω2 H' 0) xs acc,
    ⟨n, by simp, Nat.zero_le _, [], [], Γ1, paint ω1 L 1, h0, S1.new 1 hL, paint_fr hL, by unfold paint; rw [if_pos rfl], upd_same, .nil⟩, ?_⟩
  rintro i μ H' ⟨rfl, hi, acc, xs, Γ2, ω2, p2, S2, f2, c2, e2, d2⟩
  have sA : Same (vw ω1 H1 0) H' := fun a o e => vw_H (f2.1 a o e)
  by_cases hlt : i < n
  · refine .inr ⟨((W i H' sA).1 hlt).1, fun H'' => ∃ acc xs Γ2 ω2, Pv (i + 1) acc Γ2 ∧ Sta Γ2 ω2 σ H'' ∧ Fr ω1 ω2 H1 H'' ∧ ω2 L = 1 ∧ H'' L = some (.lst xs) ∧ DRs (vw ω2 H'' 0) xs acc, fun H'' z => ⟨n - (i + 1), by omega, rfl, hlt, z⟩, fun x H'' y => ?_⟩
    obtain ⟨ω3, S3, f3, q3⟩ := yld_ok W rfl f2 S2 hlt y
    refine hs i acc Γ2 hlt p2 (hlen S2 rfl) ω3 _ H'' x (S3.wipe vs) q3 _ fun Γ4 ω4 σ4 H4 h4 S4 f4 q4 => ?_
    obtain ⟨S5, ew⟩ := S4.unwipe q4
    refine ⟨ew, h4 ω4 σ4 H4 S4 _ fun b Γ6 ω6 H6 hk S6 f6 => ?_⟩
    have f16 : Fr ω1 ω6 H1 H6 := ((f2.trans f3).trans f4).trans f6
    have f26 : Fr ω2 ω6 H' H6 := (f3.trans f4).trans f6
    have keep : ∀ {ω7 : Col} {H7 : Hp}, Fr ω2 ω7 H' H7 → ω7 L = 1 ∧ H7 L = some (.lst xs) ∧ DRs (vw ω7 H7 0) xs acc := fun {ω7 H7} f7 => by
      have z := f7.2 L _ (vw_mk c2 e2)
      exact ⟨vw_c z, vw_H z, d2.mono f7.1⟩
    cases b with
    | false =>
      refine iteF ?_
      obtain ⟨k1, k2, k3⟩ := keep f26
      exact ⟨acc, xs, _, ω6, hk, (S6.unwipe q4).1, f16, k1, k2, k3⟩
    | true =>
      refine iteT ((show WQ te Γ6 _ from hk) ω6 σ4 H6 S6 _ fun w q Γ7 ω7 H7 ⟨d, eq, hl, h7⟩ S7 p7 f7 => ?_)
      subst eq
      obtain ⟨k1, k2, k3⟩ := keep (f26.trans f7)
      have m0 : Same (vw ω7 H7 0) (vw ω7 (upd H7 L (.lst (xs ++ [w]))) 0) := mut_same (by rw [k1]; decide)
      refine ⟨xs, k2, by rw [k3.length]; exact Nat.lt_of_lt_of_le hl (by decide), acc ++ [d], xs ++ [w], _, ω7, h7, ?_, ?_, k1, upd_same, (k3.mono m0).snoc (DR.mono m0 d p7)⟩
      · exact ((S7.unwipe q4).1).move m0 fun i g _ => mut_same (by rw [k1]; omega)
      · exact ⟨(f16.trans f7).1.trans m0, fun a o h => by
          have z := (f16.trans f7).2 a o h
          exact vw_mk (vw_c z) (by rw [upd_ne (ne_of_none (vw_H h) hL)]; exact vw_H z)⟩
  · have e : i = n := by omega
    subst e
    refine .inl ⟨(W i H' sA).2 (Nat.le_refl _), ?_⟩
    have pn : ∀ c, c ≠ 1 → Same (vw ω2 H' c) (vw (paint ω2 L 2) H' c) := fun c hc a o h => by
      refine vw_mk ?_ (vw_H h)
      unfold paint
      rw [if_neg]
      · exact vw_c h
      · intro e
        rw [e] at h
        exact hc ((vw_c h).symm.trans c2)
    refine f (.ref L) (own acc) Γ2 (paint ω2 L 2) H' (hd acc Γ2 p2) (S2.move (pn 0 (by decide)) fun i _ _ => pn _ (by omega)) ⟨L, xs, rfl, vw_mk (by unfold paint; rw [if_pos rfl]) e2, d2.mono (pn 0 (by decide))⟩ (f1.trans ⟨f2.1.trans (pn 0 (by decide)), fun a o h => ?_⟩)
    have z := f2.2 a o h
    refine vw_mk ?_ (vw_H z)
    unfold paint
    rw [if_neg (ne_of_none (vw_H h) hL)]
    exact vw_c z

/-! ### methods of a slot's own list -/
def MtO (r : V → List V → Hp → VK → Prop) (ds : List PyData) (es : List PyData) (ds' : List PyData) (res : PyData) : Prop := ∀ (A H : Hp) (a : Addr) (vs xs : List V), Same A H → A a = none → H a = some (.lst vs) → DRs A vs ds → DRs A xs es →
  ∀ Q : VK, (∀ ws z, DRs A ws ds' → DR A z res → Q z (upd H a (.lst ws))) → r (.ref a) xs H Q
theorem we_mt {i : Nat} {r : V → List V → Hp → VK → Prop} {ds0 : List PyData} (h : Γ[i]? = some (some (own ds0))) (ha : WA ta Γ fun as Γ1 => ∃ ds es ds' res, Γ1[i]? = some (some (own ds)) ∧ ArgD as es ∧ MtO r ds es ds' res ∧ k (dat res) (Γ1.set i (some (own ds')))) :
    WE (tBM K "list" r (tVar i) ta) Γ k := fun ω σ H S Q f => by
  obtain ⟨v, e, p⟩ := S.2 i _ h
  obtain ⟨a, vs, rfl, hr, hd⟩ := id p
  refine ⟨_, e, .inl ⟨rfl, vs, SqL.of (vw_H hr)⟩, ha ω σ H S _ fun xs as Γ1 ω1 H1 ⟨ds, es, ds', res, hi, hes, hm, hk⟩ S1 ax f1 => ?_⟩
  obtain ⟨v', e', p'⟩ := S1.2 i _ hi
  rw [e] at e'
  cases e'
  obtain ⟨a', vs', ea, hr', hd'⟩ := p'
  cases ea
  have ca := vw_c hr'
  have an : vw ω1 H1 0 a = none := by
    unfold vw
    rw [if_neg (by rw [ca]; omega)]
  refine hm (vw ω1 H1 0) H1 a vs' xs (fun _ _ z => vw_H z) an (vw_H hr') hd' (hes.drs ax) Q fun ws z hws hz => ?_
  have m0 : Same (vw ω1 H1 0) (vw ω1 (upd H1 a (.lst ws)) 0) := mut_same (by rw [ca]; omega)
  exact f z _ _ ω1 _ hk (S1.set m0 (fun j' g' hne _ => mut_same (by rw [ca]; omega)) e ⟨a, ws, rfl, vw_mk ca upd_same, hws.mono m0⟩) (hz.mono m0) (f1.trans ⟨m0, mut_same (by rw [ca]; omega)⟩)
theorem we_mt0 {i : Nat} {r : V → List V → Hp → VK → Prop} {ds ds' : List PyData} {res : PyData} (h : Γ[i]? = some (some (own ds))) (hm : MtO r ds [] ds' res) (hk : k (dat res) (Γ.set i (some (own ds')))) :
    WE (tBM0 K "list" r (tVar i)) Γ k := fun ω σ H S Q f => by
  obtain ⟨v, e, p⟩ := S.2 i _ h
  obtain ⟨a, vs, rfl, hr, hd⟩ := id p
  refine ⟨_, e, .inl ⟨rfl, vs, SqL.of (vw_H hr)⟩, ?_⟩
  have ca := vw_c hr
  have an : vw ω H 0 a = none := by
    unfold vw
    rw [if_neg (by rw [ca]; omega)]
  refine hm (vw ω H 0) H a vs [] (fun _ _ z => vw_H z) an (vw_H hr) hd .nil Q fun ws z hws hz => ?_
  have m0 : Same (vw ω H 0) (vw ω (upd H a (.lst ws)) 0) := mut_same (by rw [ca]; omega)
  exact f z _ _ ω _ hk (S.set m0 (fun j' g' hne _ => mut_same (by rw [ca]; omega)) e ⟨a, ws, rfl, vw_mk ca upd_same, hws.mono m0⟩) (hz.mono m0) ⟨m0, mut_same (by rw [ca]; omega)⟩
theorem mo_append {ds : List PyData} {d : PyData} (hl : ds.length < 100000) : MtO rAppend ds [d] (ds ++ [d]) .none := fun A H a vs xs s an ha hd he Q f => by
  cases he with | cons x y =>
  cases y
  exact ⟨a, vs, _, rfl, rfl, ha, by rw [hd.length]; exact Nat.lt_of_lt_of_le hl (by decide), f _ _ (hd.snoc x) DR.non⟩
theorem mo_extend {ds es : List PyData} (hl : ds.length + es.length ≤ 100000) : MtO rExtend ds [.list es] (ds ++ es) .none := fun A H a vs xs s an ha hd he Q f => by
  cases he with | cons x y =>
  cases y
  obtain ⟨b, zs, rfl, hb, hz⟩ := x.lst_inv
  exact ⟨a, b, vs, zs, rfl, rfl, ha, s _ _ hb, by rw [hd.length, hz.length]; exact Nat.le_trans hl (by decide), f _ _ (hd.append hz) DR.non⟩
theorem mo_pop {ds : List PyData} {d : PyData} (hl : ds[ds.length - 1]? = some d) : MtO rPop ds [] ds.dropLast d := fun A H a vs xs s an ha hd he Q f => by
  cases he
  obtain ⟨z, hz, dz⟩ := hd.at hl
  refine ⟨a, vs, z, rfl, rfl, ha, by rw [hd.length]; exact hz, f _ _ ?_ dz⟩
  rw [List.dropLast_eq_take, List.dropLast_eq_take, hd.length]
  exact hd.take _
theorem mo_popAt {ds : List PyData} {d : PyData} {i : Int} (j : Nat) (e : i = j) (hl : ds[j]? = some d) (hs : ds.length ≤ 100000) : MtO rPopAt ds [.int i] (ds.eraseIdx j) d := fun A H a vs xs s an ha hd he Q f => by
  cases he with | cons x y =>
  cases y
  cases x.int_inv
  obtain ⟨z, hz, dz⟩ := hd.at hl
  have hj := (List.getElem?_eq_some_iff.mp hl).1
  refine ⟨a, vs, i, j, z, rfl, rfl, ha, by omega, by omega, ?_, hz, f _ _ (hd.erase j) dz⟩
  rw [e, hd.length]
  unfold seqIndex?
  simp
  omega
end
end G

namespace G
open PySem L2

/-! ### promises of defs by what their slots hold -/
abbrev Fw := List Gp → (Gp → Ga → Prop) → (Value → Ga → Prop) → Prop
def ParOk (gs : List Gp) (ω : Col) (H : Hp) (vs : List V) : Prop := gs.length = vs.length ∧ ∀ (i : Nat) (g : Gp) (v : V), gs[i]? = some g → vs[i]? = some v → g.p (vw ω H 0) v (vw ω H (i + 3))
def EndOk (Γp : Ga) (ω : Col) (H : Hp) (vs : List V) : Prop := ∀ (i : Nat) (g : Gp) (v : V), Γp[i]? = some (some g) → vs[i]? = some v → g.p (vw ω H 0) v (vw ω H (i + 3))
def SpG (n : Nat) (F : Fw) : Sp := fun vs H Q E => ∃ gs kk xx ω, vs.length = n ∧ F gs kk xx ∧ ParOk gs ω H vs ∧
  (∀ (v : V) (g : Gp) (Γp : Ga) (ω' : Col) (H' : Hp), kk g Γp → EndOk Γp ω' H' vs → g.p (vw ω' H' 0) v (vw ω' H' 2) → Fr ω ω' H H' → Q v H') ∧
  (∀ (c : Value) (Γp : Ga) (ω' : Col) (H' : Hp), xx c Γp → EndOk Γp ω' H' vs → Fr ω ω' H H' → E c none H')
theorem SpG.len {n : Nat} {F : Fw} : ∀ vs H Q E, SpG n F vs H Q E → vs.length = n := fun vs H Q E ⟨_, _, _, _, h, _⟩ => h
def mask (P : Nat → Bool) (n : Nat) (Γ : Ga) : Ga := (List.range n).map fun i => if P i = true then (Γ[i]?).join else none
theorem mask_get {P : Nat → Bool} {n : Nat} {Γ : Ga} {i : Nat} {g : Gp} (h : (mask P n Γ)[i]? = some (some g)) : i < n ∧ P i = true ∧ Γ[i]? = some (some g) := by
  unfold mask at h
  rw [List.getElem?_map] at h
  by_cases hi : i < n
  · rw [List.getElem?_range hi] at h
    simp only [Option.map_some, Option.some.injEq] at h
    by_cases hp : P i = true
    · rw [if_pos hp] at h
      refine ⟨hi, hp, ?_⟩
      cases e : Γ[i]? with
      | none => rw [e] at h; cases h
      | some o => rw [e] at h; exact congrArg some h
    · rw [if_neg hp] at h; cases h
  · rw [List.getElem?_eq_none (by simp; omega)] at h
    cases h
theorem par_sta {gs : List Gp} {ω : Col} {H : Hp} {vs : List V} {N : List Str} (h : ParOk gs ω H vs) : Sta (gs.map some ++ List.replicate (N.length - vs.length) none) ω (start N vs) H := by
  refine ⟨by simp [L2.start, h.1], fun i g hg => ?_⟩
  by_cases hi : i < gs.length
  · rw [List.getElem?_append_left (by simpa using hi), List.getElem?_map] at hg
    have hiv : i < vs.length := by rw [← h.1]; exact hi
    rw [List.getElem?_eq_getElem hi] at hg
    cases hg
    refine ⟨vs[i], ?_, h.2 i _ _ (List.getElem?_eq_getElem hi) (List.getElem?_eq_getElem hiv)⟩
    unfold L2.start
    rw [List.getElem?_append_left (by simpa using hiv), List.getElem?_map, List.getElem?_eq_getElem hiv]
    rfl
  · rw [List.getElem?_append_right (by simpa using Nat.le_of_not_lt hi)] at hg
    rw [List.getElem?_replicate] at hg
    split at hg <;> cases hg
/-- g holds, so g' -/
def Ent (g g' : Gp) : Prop := ∀ A v R, g.p A v R → g'.p A v R
theorem Ent.refl {g : Gp} : Ent g g := fun _ _ _ h => h
def Les : Ga → Ga → Prop
  | [], [] => True
  | _ :: Γ, none :: Γp => Les Γ Γp
  | some g :: Γ, some g' :: Γp => Ent g g' ∧ Les Γ Γp
  | _, _ => False
theorem Les.get : ∀ {Γ Γp : Ga} {i : Nat} {g' : Gp}, Les Γ Γp → Γp[i]? = some (some g') → ∃ g, Γ[i]? = some (some g) ∧ Ent g g'
  | [], [], _, _, _, h => by simp at h
  | [], _ :: _, _, _, l, _ => by simp [Les] at l
  | _ :: Γ, [], _, _, _, h => by simp at h
  | o :: Γ, none :: Γp, 0, _, _, h => by simp at h
  | o :: Γ, none :: Γp, i + 1, g', l, h => by
    have l' : Les Γ Γp := by cases o <;> exact l
    exact Les.get (i := i) l' (by simpa using h)
  | none :: Γ, some _ :: Γp, _, _, l, _ => l.elim
  | some g :: Γ, some g1 :: Γp, 0, g', l, h => by
    obtain ⟨e, _⟩ := l
    simp at h
    subst h
    exact ⟨g, rfl, e⟩
  | some g :: Γ, some g1 :: Γp, i + 1, g', l, h => by
    obtain ⟨_, l⟩ := l
    exact Les.get (i := i) l (by simpa using h)
theorem EndOk.les {Γ Γp : Ga} {ω : Col} {H : Hp} {vs : List V} (h : EndOk Γ ω H vs) (l : Les Γ Γp) : EndOk Γp ω H vs := fun i g' v hg hv => by
  obtain ⟨g, e, z⟩ := l.get hg
  exact z _ _ _ (h i g v e hv)
theorem body_ok {n : Nat} {F : Fw} (P : Nat → Bool) {t : TS} {N : List Str} {vs : List V} {H : Hp} {Q : VK} {E : XK}
    (h : ∀ gs kk xx, F gs kk xx → gs.length = n → WS P t (gs.map some ++ List.replicate (N.length - n) none) ⟨fun Γ => ∃ Γp, Les (mask P n Γ) Γp ∧ kk (dat .none) Γp, fun g Γ => ∃ g' Γp, Ent g g' ∧ Les (mask P n Γ) Γp ∧ kk g' Γp, fun _ => False, fun _ => False⟩) (hs : SpG n F vs H Q E) :
    t { nx := fun _ H' => Q .non H', rt := Q } (start N vs) H := by
  obtain ⟨gs, kk, xx, ω, hn, hF, hp, hq, _⟩ := hs
  have S := par_sta (N := N) hp
  rw [hn] at S
  have stv : ∀ (i : Nat) (v : V), vs[i]? = some v → (start N vs)[i]? = some (some v) := fun i v e => by
    have hi := (List.getElem?_eq_some_iff.mp e).1
    unfold L2.start
    rw [List.getElem?_append_left (by simpa using hi), List.getElem?_map, e]
    rfl
  have en : ∀ (Γ' : Ga) (ω' : Col) (σ' : L2.St) (H' : Hp), Sta Γ' ω' σ' H' → Pin P (start N vs) σ' → EndOk (mask P n Γ') ω' H' vs := fun Γ' ω' σ' H' S' pi i g v hg hv => by
    obtain ⟨_, hP, hg⟩ := mask_get hg
    obtain ⟨v', e, p⟩ := S'.2 i g hg
    rw [pi.2 i hP, stv i v hv] at e
    cases e
    exact p
  refine h gs kk xx hF (by rw [hp.1, hn]) ω _ H S _ ⟨fun Γ' ω' σ' H' ⟨Γp, l, hk⟩ S' f pi => ?_, fun v g Γ' ω' σ' H' ⟨g', Γp, eg, l, hk⟩ S' p f pi => ?_, fun _ _ _ _ hk => hk.elim, fun _ _ _ _ hk => hk.elim⟩
  · exact hq .non _ _ ω' H' hk ((en Γ' ω' σ' H' S' pi).les l) DR.non f
  · exact hq v g' _ ω' H' hk ((en Γ' ω' σ' H' S' pi).les l) (eg _ _ _ p) f

/-! ### a call -/
def anyG : Gp := ⟨fun _ _ _ => True, fun _ _ h => h⟩
def gsOf (Γ : Ga) : List Arg → List Gp
  | [] => []
  | .s i :: as => ((Γ[i]?).join).getD anyG :: gsOf Γ as
  | .q q :: as => per q :: gsOf Γ as
def back (Γ : Ga) : List Arg → Ga → Ga
  | [], _ => Γ
  | .s i :: as, [] => (back Γ as []).set i none
  | .s i :: as, o :: r => (back Γ as r).set i o
  | .q _ :: as, [] => back Γ as []
  | .q _ :: as, _ :: r => back Γ as r
def slots : List Arg → List Nat
  | [] => []
  | .s i :: as => i :: slots as
  | .q _ :: as => slots as
def inn' : List Arg → Nat → Nat → Nat
  | [], _, _ => 1
  | .s i :: as, j, c => if c = i + 3 then j + 3 else inn' as (j + 1) c
  | .q _ :: as, j, c => inn' as (j + 1) c
def inn (as : List Arg) (c : Nat) : Nat := if c = 0 then 0 else inn' as 0 c
def outt (as : List Arg) (c : Nat) : Nat := if c = 2 then 2 else if c < 3 then 0 else match as[c - 3]? with
  | some (Arg.s i) => i + 3
  | _ => 0
theorem back_len {Γ : Ga} : ∀ (as : List Arg) (Γp : Ga), (back Γ as Γp).length = Γ.length
  | [], _ => rfl
  | .s i :: as, [] => by unfold back; rw [List.length_set, back_len as]
  | .s i :: as, o :: r => by unfold back; rw [List.length_set, back_len as]
  | .q _ :: as, [] => by unfold back; rw [back_len as]
  | .q _ :: as, _ :: r => by unfold back; rw [back_len as]
theorem back_get {Γ : Ga} : ∀ {as : List Arg} {Γp : Ga} {i : Nat} {g : Gp}, (back Γ as Γp)[i]? = some (some g) → (∃ j : Nat, as[j]? = some (Arg.s i) ∧ Γp[j]? = some (some g)) ∨ (i ∉ slots as ∧ Γ[i]? = some (some g))
  | [], _, i, g, h => .inr ⟨by simp [slots], h⟩
  | .s i0 :: as, [], i, g, h => by
    unfold back at h
    rw [set_eq] at h
    by_cases e : i0 = i
    · rw [if_pos e] at h
      split at h <;> cases h
    · rw [if_neg e] at h
      rcases back_get h with ⟨j, _, h2⟩ | ⟨h1, h2⟩
      · simp at h2
      · exact .inr ⟨by simp [slots, Ne.symm e, h1], h2⟩
  | .s i0 :: as, o :: r, i, g, h => by
    unfold back at h
    rw [set_eq] at h
    by_cases e : i0 = i
    · rw [if_pos e] at h
      split at h
      · cases h
        exact .inl ⟨0, by simp [e], rfl⟩
      · cases h
    · rw [if_neg e] at h
      rcases back_get h with ⟨j, h1, h2⟩ | ⟨h1, h2⟩
      · exact .inl ⟨j + 1, by simpa using h1, by simpa using h2⟩
      · exact .inr ⟨by simp [slots, Ne.symm e, h1], h2⟩
  | .q _ :: as, [], i, g, h => by
    unfold back at h
    rcases back_get h with ⟨j, _, h2⟩ | ⟨h1, h2⟩
    · simp at h2
    · exact .inr ⟨by simpa [slots] using h1, h2⟩
  | .q _ :: as, o :: r, i, g, h => by
    unfold back at h
    rcases back_get h with ⟨j, h1, h2⟩ | ⟨h1, h2⟩
    · exact .inl ⟨j + 1, by simpa using h1, by simpa using h2⟩
    · exact .inr ⟨by simpa [slots] using h1, h2⟩
theorem slots_mem : ∀ {as : List Arg} {i j : Nat}, as[j]? = some (Arg.s i) → i ∈ slots as
  | [], _, _, h => by simp at h
  | .s i0 :: as, i, 0, h => by simp at h; simp [slots, h]
  | .s i0 :: as, i, j + 1, h => by simp [slots, slots_mem (as := as) (i := i) (j := j) (by simpa using h)]
  | .q _ :: as, i, 0, h => by simp at h
  | .q _ :: as, i, j + 1, h => by simp [slots, slots_mem (as := as) (i := i) (j := j) (by simpa using h)]
theorem inn'_at : ∀ {as : List Arg} {i j m : Nat}, (slots as).Nodup → as[j]? = some (Arg.s i) → inn' as m (i + 3) = m + j + 3
  | [], _, _, _, _, h => by simp at h
  | .s i0 :: as, i, 0, m, nd, h => by simp at h; simp [inn', h]
  | .s i0 :: as, i, j + 1, m, nd, h => by
    have h' : as[j]? = some (Arg.s i) := by simpa using h
    have hm := slots_mem h'
    have nd' : i0 ∉ slots as ∧ (slots as).Nodup := List.nodup_cons.mp nd
    have ne : ¬ i + 3 = i0 + 3 := fun e => nd'.1 (by have : i = i0 := by omega
                                                     rw [← this]; exact hm)
    unfold inn'
    rw [if_neg ne, inn'_at nd'.2 h']
    omega
  | .q _ :: as, i, 0, m, nd, h => by simp at h
  | .q _ :: as, i, j + 1, m, nd, h => by
    unfold inn'
    rw [inn'_at (as := as) (j := j) (by simpa [slots] using nd) (by simpa using h)]
    omega
theorem inn'_not : ∀ {as : List Arg} {c m : Nat}, (∀ i ∈ slots as, c ≠ i + 3) → inn' as m c = 1
  | [], _, _, _ => rfl
  | .s i0 :: as, c, m, h => by
    unfold inn'
    rw [if_neg (h i0 (by simp [slots])), inn'_not fun i hi => h i (by simp [slots, hi])]
  | .q _ :: as, c, m, h => by
    unfold inn'
    rw [inn'_not fun i hi => h i (by simpa [slots] using hi)]
def cIn (as : List Arg) (ω : Col) : Col := fun b => inn as (ω b)
def cOut (as : List Arg) (ω ω' : Col) (H : Hp) : Col := fun b => if (H b).isSome = true ∧ inn as (ω b) = 1 then ω b else outt as (ω' b)
section
variable {as : List Arg} {ω ω' : Col} {H H' : Hp}
theorem cIn_0 : Same (vw ω H 0) (vw (cIn as ω) H 0) := fun a o h => vw_mk (by unfold cIn; rw [vw_c h]; rfl) (vw_H h)
theorem cIn_s (nd : (slots as).Nodup) {i j : Nat} (hj : as[j]? = some (Arg.s i)) : Same (vw ω H (i + 3)) (vw (cIn as ω) H (j + 3)) := fun a o h => vw_mk (by
  unfold cIn inn
  rw [vw_c h, if_neg (by omega), inn'_at nd hj]
  omega) (vw_H h)
theorem cOut_0 (f : Fr (cIn as ω) ω' H H') : Same (vw ω H 0) (vw (cOut as ω ω' H) H' 0) := fun a o h => by
  have z := f.1 a o (cIn_0 a o h)
  refine vw_mk ?_ (vw_H z)
  unfold cOut
  have e : inn as (ω a) = 0 := by rw [vw_c h]; rfl
  rw [if_neg (by rw [e]; intro q; cases q.2), vw_c z]
  rfl
/-- what the callee doesn't know stays as it was -/
theorem cOut_k {c : Nat} (hc : c ≠ 0) (hs : ∀ i ∈ slots as, c ≠ i + 3) (f : Fr (cIn as ω) ω' H H') : Same (vw ω H c) (vw (cOut as ω ω' H) H' c) := fun a o h => by
  have e : inn as (ω a) = 1 := by
    unfold inn
    rw [vw_c h, if_neg hc]
    exact inn'_not hs
  have z := f.2 a o (vw_mk (by unfold cIn; exact e) (vw_H h))
  refine vw_mk ?_ (vw_H z)
  unfold cOut
  rw [if_pos ⟨by rw [vw_H h]; rfl, e⟩]
  exact vw_c h
theorem cOut_of {c d : Nat} (h1 : c ≠ 1) (ho : outt as c = d) (f : Fr (cIn as ω) ω' H H') : Same (vw ω' H' c) (vw (cOut as ω ω' H) H' d) := fun a o h => by
  refine vw_mk ?_ (vw_H h)
  unfold cOut
  rw [if_neg, vw_c h]
  · exact ho
  · intro ⟨q1, q2⟩
    obtain ⟨u, hu⟩ := Option.isSome_iff_exists.mp q1
    have z := f.2 a u (vw_mk (by unfold cIn; exact q2) hu)
    exact h1 ((vw_c h).symm.trans (vw_c z))
end
theorem gsOf_get {Γ : Ga} {σ : L2.St} {A : Hp} : ∀ {as : List Arg} {vs : List V} {j : Nat} {g : Gp} {v : V}, ArgsOk σ A as vs → (gsOf Γ as)[j]? = some g → vs[j]? = some v →
    (∃ i, as[j]? = some (Arg.s i) ∧ σ[i]? = some (some v) ∧ (g = anyG ∨ Γ[i]? = some (some g))) ∨ ∃ q, as[j]? = some (Arg.q q) ∧ g = per q ∧ q.q A v
  | [], _, _, _, _, _, h, _ => by simp [gsOf] at h
  | .s i :: as, _, 0, g, v, a, h, hv => by
    cases a with | cons x y =>
    simp [gsOf] at h hv
    subst hv
    refine .inl ⟨i, rfl, x, ?_⟩
    cases e : Γ[i]? with
    | none => rw [e] at h; left; exact h.symm
    | some o =>
      cases o with
      | none => rw [e] at h; left; exact h.symm
      | some g' => rw [e] at h; right; cases h; rfl
  | .q q :: as, _, 0, g, v, a, h, hv => by
    cases a with | cons x y =>
    simp [gsOf] at h hv
    subst hv
    exact .inr ⟨q, rfl, h.symm, x⟩
  | .s i :: as, _, j + 1, g, v, a, h, hv => by
    cases a with | cons x y =>
    rcases gsOf_get (as := as) (j := j) y (by simpa [gsOf] using h) (by simpa using hv) with ⟨i', h1, h2⟩ | ⟨q, h1, h2⟩
    · exact .inl ⟨i', by simpa using h1, h2⟩
    · exact .inr ⟨q, by simpa using h1, h2⟩
  | .q _ :: as, _, j + 1, g, v, a, h, hv => by
    cases a with | cons x y =>
    rcases gsOf_get (as := as) (j := j) y (by simpa [gsOf] using h) (by simpa using hv) with ⟨i', h1, h2⟩ | ⟨q, h1, h2⟩
    · exact .inl ⟨i', by simpa using h1, h2⟩
    · exact .inr ⟨q, by simpa using h1, h2⟩
theorem gsOf_len {Γ : Ga} : ∀ as : List Arg, (gsOf Γ as).length = as.length
  | [] => rfl
  | .s i :: as => by simp [gsOf, gsOf_len as]
  | .q _ :: as => by simp [gsOf, gsOf_len as]
theorem ArgsOk.len {σ : L2.St} {A : Hp} : ∀ {as : List Arg} {vs : List V}, ArgsOk σ A as vs → vs.length = as.length
  | [], _, h => by cases h; rfl
  | a :: as, _, h => by cases h with | cons x y => simp [ArgsOk.len y]
theorem ArgsOk.slot {σ : L2.St} {A : Hp} : ∀ {as : List Arg} {vs : List V} {i j : Nat}, ArgsOk σ A as vs → as[j]? = some (Arg.s i) → ∃ v, vs[j]? = some v ∧ σ[i]? = some (some v)
  | [], _, _, _, _, h => by simp at h
  | a :: as, _, i, 0, h, e => by cases h with | cons x y => simp at e; subst e; exact ⟨_, rfl, x⟩
  | a :: as, _, i, j + 1, h, e => by cases h with | cons x y => exact ArgsOk.slot (j := j) y (by simpa using e)
section
variable {K : PySem.W.Frag} {Γ : Ga} {k : Gp → Ga → Prop} {ta : TA} {n : Nat} {F : Fw} {E : XK}
/-- the promise is kept at a call -/
theorem call_core {Γ1 : Ga} {ω1 : Col} {σ : L2.St} {H1 : Hp} {as : List Arg} {vs : List V} {Q : VK} {kx : Value → Ga → Prop} (S1 : Sta Γ1 ω1 σ H1) (a : ArgsOk σ (vw ω1 H1 0) as vs) (hn : as.length = n) (nd : (slots as).Nodup)
    (hF : F (gsOf Γ1 as) (fun g Γp => k g (back Γ1 as Γp)) fun c Γp => kx c (back Γ1 as Γp))
    (c : ∀ v g Γ' ω' H', k g Γ' → Sta Γ' ω' σ H' → Gp.p g (vw ω' H' 0) v (vw ω' H' 2) → Fr ω1 ω' H1 H' → Q v H')
    (cx : ∀ cl Γ' ω' H', kx cl Γ' → Sta Γ' ω' σ H' → Fr ω1 ω' H1 H' → E cl none H') : SpG n F vs H1 Q E := by
  have fin : ∀ (Γp : Ga) (ω' : Col) (H' : Hp), EndOk Γp ω' H' vs → Fr (cIn as ω1) ω' H1 H' → Sta (back Γ1 as Γp) (cOut as ω1 ω' H1) σ H' := fun Γp ω' H' he f => by
    refine ⟨by rw [back_len]; exact S1.1, fun i g hg => ?_⟩
    rcases back_get hg with ⟨j, hj, hp⟩ | ⟨hni, hg⟩
    · obtain ⟨v, hv, hs⟩ := a.slot hj
      refine ⟨v, hs, g.mono (cOut_of (by decide) rfl f) (cOut_of (by omega) ?_ f) (he j g v hp hv)⟩
      unfold outt
      rw [if_neg (by omega), if_neg (by omega)]
      have : j + 3 - 3 = j := by omega
      rw [this, hj]
    · obtain ⟨v, hs, p⟩ := S1.2 i g hg
      have hc : ∀ i' ∈ slots as, i + 3 ≠ i' + 3 := fun i' hi' e => hni ((show i' = i by omega) ▸ hi')
      exact ⟨v, hs, g.mono (cOut_0 f) (cOut_k (by omega) hc f) p⟩
  have fr : ∀ (ω' : Col) (H' : Hp), Fr (cIn as ω1) ω' H1 H' → Fr ω1 (cOut as ω1 ω' H1) H1 H' := fun ω' H' f => ⟨cOut_0 f, cOut_k (by decide) (fun i _ => by omega) f⟩
  refine ⟨gsOf Γ1 as, _, _, cIn as ω1, by rw [a.len]; exact hn, hF, ⟨by rw [gsOf_len, a.len], fun j g v hg hv => ?_⟩, fun v g Γp ω' H' hk he p f => ?_, fun cl Γp ω' H' hk he f => ?_⟩
  · rcases gsOf_get a hg hv with ⟨i, hj, hs, e | e⟩ | ⟨q, hj, e, hq⟩
    · subst e; trivial
    · obtain ⟨v', e', p⟩ := S1.2 i g e
      rw [hs] at e'
      cases e'
      exact g.mono cIn_0 (cIn_s nd hj) p
    · subst e
      exact q.mono cIn_0 hq
  · exact c v g _ (cOut as ω1 ω' H1) H' hk (fin Γp ω' H' he f) (g.mono (cOut_of (by decide) rfl f) (cOut_of (by decide) rfl f) p) (fr ω' H' f)
  · exact cx cl _ (cOut as ω1 ω' H1) H' hk (fin Γp ω' H' he f) (fr ω' H' f)
theorem we_call (h : WA ta Γ fun as Γ1 => as.length = n ∧ (slots as).Nodup ∧ F (gsOf Γ1 as) (fun g Γp => k g (back Γ1 as Γp)) fun _ _ => False) : WE (tCall (SpG n F) [] E ta) Γ k := fun ω σ H S Q f => h ω σ H S _ fun vs as Γ1 ω1 H1 ⟨hn, nd, hF⟩ S1 a f1 => by
  show SpG n F (vs ++ []) H1 Q E
  rw [List.append_nil]
  exact call_core (kx := fun _ _ => False) S1 a hn nd hF (fun v g Γ' ω' H' hk S' p f2 => f v g Γ' ω' H' hk S' p (f1.trans f2)) fun _ _ _ _ hx => hx.elim
end

/-! ### assertions with something left open -/
def exG {α : Type} (f : α → Gp) : Gp := ⟨fun A v R => ∃ x, (f x).p A v R, fun a r ⟨x, h⟩ => ⟨x, (f x).mono a r h⟩⟩
def whenG (φ : Prop) (g : Gp) : Gp := ⟨fun A v R => φ ∧ g.p A v R, fun a r h => ⟨h.1, g.mono a r h.2⟩⟩
theorem Sta.sub {Γ : Ga} {ω : Col} {σ : L2.St} {H : Hp} (S : Sta Γ ω σ H) {i : Nat} {v : V} {g : Gp} (e : σ[i]? = some (some v)) (p : g.p (vw ω H 0) v (vw ω H (i + 3))) : Sta (Γ.set i (some g)) ω σ H :=
  S.set (Same.refl _) (fun _ _ _ _ => Same.refl _) e p
section
variable {Γ : Ga} {P : Nat → Bool} {t : TS} {D : Pe}
theorem ws_open {α : Type} {f : α → Gp} {i : Nat} (h : Γ[i]? = some (some (exG f))) (c : ∀ x, WS P t (Γ.set i (some (f x))) D) : WS P t Γ D := fun ω σ H S E m => by
  obtain ⟨v, e, x, p⟩ := S.2 i _ h
  exact c x ω σ H (S.sub e p) E m
theorem ws_when {φ : Prop} {g : Gp} {i : Nat} (h : Γ[i]? = some (some (whenG φ g))) (c : φ → WS P t (Γ.set i (some g)) D) : WS P t Γ D := fun ω σ H S E m => by
  obtain ⟨v, e, x, p⟩ := S.2 i _ h
  exact c x ω σ H (S.sub e p) E m
end
end G

namespace G
open PySem L2

/-! ### the readings by name -/
abbrev rAddI : R2 := rI0 fun i j => .int (i + j)
def rAddS : R2 := fun x y H Q => ∃ i j, x = .str i ∧ y = .str j ∧ i.length + j.length ≤ sizeLine ∧ Q (.str (i ++ j)) H
def rPlus (K : PySem.W.Frag) : R2 := rOr rAddI (rOr rCat (rOr rAddS (rCatT K)))
abbrev rSubI : R2 := rI0 fun i j => .int (i - j)
abbrev rMulI : R2 := rI CMul fun i j => .int (i * j)
abbrev rDivI : R2 := rI CDivW fun i j => .int (i / j)
abbrev rModI : R2 := rI (fun _ j => 0 < j) fun i j => .int (i % j)
abbrev rPowI : R2 := rI CPow fun i j => .int (i ^ j.toNat)
abbrev rLtI : R2 := rI0 fun i j => .bl (decide (i < j))
abbrev rLeI : R2 := rI0 fun i j => .bl (decide (i ≤ j))
abbrev rGtI : R2 := rI0 fun i j => .bl (decide (j < i))
abbrev rGeI : R2 := rI0 fun i j => .bl (decide (j ≤ i))
abbrev rNegI : V → Hp → VK → Prop := rU fun i => .int (-i)
def rIsN0 : R2 := fun x y H Q => y = .non ∧ Q (.bl (decide (x = .non))) H
def rNotN0 : R2 := fun x y H Q => y = .non ∧ Q (.bl (!decide (x = .non))) H
def rLenA (K : PySem.W.Frag) : List V → Hp → VK → Prop := fun xs H Q => ∃ x n, xs = [x] ∧ LenV K x H n ∧ Q (.int n) H
def rInt1 : List V → Hp → VK → Prop := fun xs H Q => (∃ i, xs = [.int i] ∧ Q (.int i) H) ∨ ∃ k, xs = [.bl k] ∧ Q (.int (if k then 1 else 0)) H
def rMax2 : List V → Hp → VK → Prop := fun xs H Q => ∃ i j, xs = [.int i, .int j] ∧ Q (.int (if j > i then j else i)) H
def rMin2 : List V → Hp → VK → Prop := fun xs H Q => ∃ i j, xs = [.int i, .int j] ∧ Q (.int (if j < i then j else i)) H
def rListOf (K : PySem.W.Frag) : List V → Hp → VK → Prop := fun xs H Q => ∃ p ys, xs = [.ref p] ∧ (SqL K H p ys ∨ SqT K H p ys) ∧ ∀ l, H l = none → Q (.ref l) (upd H l (.lst ys))
def cOr (r r' : List V → Hp → VK → Prop) : List V → Hp → VK → Prop := fun xs H Q => r xs H Q ∨ r' xs H Q
def rSortA (K : PySem.W.Frag) : List V → Hp → VK → Prop := cOr (rSortedI K) (rSortedPO K)
section
variable {X : Cx}
theorem c_or {f : Value} {r r' : List V → Hp → VK → Prop} (h : CallR X f r) (h' : CallR X f r') : CallR X f (cOr r r') := fun pins s σ H xs us Q I r q => by
  rcases q with q | q
  · exact h pins s σ H xs us Q I r q
  · exact h' pins s σ H xs us Q I r q
theorem op_plus : OpR X (binaryOp .Add) (rPlus X.K) := op_or op_add (op_or op_cat (op_or op_add_str op_catT))
theorem op_notN0 : OpR X (compareOp .IsNot) rNotN0 := op_notN
theorem c_len : CallR X (.builtin "len") (rLenA X.K) := call_len
theorem c_int : CallR X (.type "int") rInt1 := call_int1
theorem c_max (hc : X.calm = true) : CallR X (.builtin "max") rMax2 := call_max2 hc
theorem c_min (hc : X.calm = true) : CallR X (.builtin "min") rMin2 := call_min2 hc
theorem c_list : CallR X (.type "list") (rListOf X.K) := call_list_of
theorem c_sorted : CallR X (.builtin "sorted") (rSortA X.K) := c_or cr_sortedI cr_sortedPO
end
section
variable {K : PySem.W.Frag} {Γ : Ga} {k : Gp → Ga → Prop} {ta tb te : TE} {tr : TA} {kt : Bool → Ga → Prop}
/-! ### what they do upon data -/
theorem od_addI {i j : Int} : OpD (rPlus K) (.int i) (.int j) (dP (.int (i + j))) := OpD.lft od_I0
theorem we_neg (h : WQ ta Γ fun q Γ1 => ∃ i, q = dP (.int i) ∧ k (dat (.int (-i))) Γ1) : WE (tUn rNegI ta) Γ k := we_un (h.imp fun q Γ1 ⟨i, e, hk⟩ => by
  subst e
  intro ω σ H v S p Q f
  cases DR.int_inv p
  exact ⟨i, rfl, f _ _ Γ1 ω H hk S (DR.int _) Fr.refl⟩)
/-! ### built-ins -/
/-- arguments that are all data, told one by one -/
theorem argD1 {d : PyData} : ArgD [.q (dP d)] [d] := ⟨rfl, trivial⟩
theorem argD2 {d e : PyData} : ArgD [.q (dP d), .q (dP e)] [d, e] := ⟨rfl, rfl, trivial⟩
theorem cb_lenL {ds : List PyData} : CbD (rLenA K) [.list ds] (dP (.int ds.length)) := fun A H vs s h Q f => by
  cases h with | cons x y =>
  cases y
  obtain ⟨a, xs, rfl, ha, hd⟩ := x.lst_inv
  exact ⟨_, xs.length, rfl, .inl ⟨xs, SqL.of (s _ _ ha), rfl⟩, by rw [hd.length]; exact f _ (DR.int _)⟩
theorem cb_lenT {ds : List PyData} : CbD (rLenA K) [.tuple ds] (dP (.int ds.length)) := fun A H vs s h Q f => by
  cases h with | cons x y =>
  cases y
  obtain ⟨a, xs, rfl, ha, hd⟩ := x.tup_inv
  exact ⟨_, xs.length, rfl, .inr ⟨xs, SqT.of (s _ _ ha), rfl⟩, by rw [hd.length]; exact f _ (DR.int _)⟩
theorem cb_int {i : Int} : CbD rInt1 [.int i] (dP (.int i)) := fun A H vs s h Q f => by
  cases h with | cons x y =>
  cases y
  cases x.int_inv
  exact .inl ⟨i, rfl, f _ (DR.int _)⟩
theorem cb_intB {b : Bool} : CbD rInt1 [.bool b] (dP (.int (if b then 1 else 0))) := fun A H vs s h Q f => by
  cases h with | cons x y =>
  cases y
  cases x.bl_inv
  exact .inr ⟨b, rfl, f _ (DR.int _)⟩
theorem cb_max {i j : Int} : CbD rMax2 [.int i, .int j] (dP (.int (if j > i then j else i))) := fun A H vs s h Q f => by
  cases h with | cons x y =>
  cases y with | cons z y =>
  cases y
  cases x.int_inv
  cases z.int_inv
  exact ⟨i, j, rfl, f _ (DR.int _)⟩
theorem cb_min {i j : Int} : CbD rMin2 [.int i, .int j] (dP (.int (if j < i then j else i))) := fun A H vs s h Q f => by
  cases h with | cons x y =>
  cases y with | cons z y =>
  cases y
  cases x.int_inv
  cases z.int_inv
  exact ⟨i, j, rfl, f _ (DR.int _)⟩
theorem cb_list {ds : List PyData} : CbL (rListOf K) [.list ds] (fun es => es = ds) := fun A H vs s h Q f => by
  cases h with | cons x y =>
  cases y
  obtain ⟨a, xs, rfl, ha, hd⟩ := x.lst_inv
  exact ⟨a, xs, rfl, .inl (SqL.of (s _ _ ha)), fun l hl => f ds xs l rfl hd hl⟩
theorem cb_sortI {ns : List Int} : CbL (rSortA K) [.list (ns.map .int)] (fun es => ∃ ns' : List Int, es = ns'.map .int ∧ ns'.Perm ns ∧ ns'.Pairwise (· ≤ ·)) := fun A H vs s h Q f => by
  cases h with | cons x y =>
  cases y
  obtain ⟨a, xs, rfl, ha, hd⟩ := x.lst_inv
  rw [hd.ints] at ha
  exact .inl ⟨a, ns, rfl, SqL.of (s _ _ ha), fun ns' p h1 h2 hp => f _ _ p ⟨ns', rfl, h1, h2⟩ DRs.of_ints hp⟩
end
end G

namespace G
open PySem L2
/-! ### operations upon data, one rule for all -/
def OpK (r : R2) (d e : PyData) (k : Gp → Ga → Prop) (Γ : Ga) : Prop := ∀ (ω : Col) (σ : L2.St) (H : Hp) (v w : V), Sta Γ ω σ H → DR (vw ω H 0) v d → DR (vw ω H 0) w e → ∀ Q : VK,
  (∀ (v : V) (g : Gp) (Γ' : Ga) (ω' : Col) (H' : Hp), k g Γ' → Sta Γ' ω' σ H' → g.p (vw ω' H' 0) v (vw ω' H' 2) → Fr ω ω' H H' → Q v H') → r v w H Q
def CbK (r : List V → Hp → VK → Prop) (ds : List PyData) (k : Gp → Ga → Prop) (Γ : Ga) : Prop := ∀ (ω : Col) (σ : L2.St) (H : Hp) (vs : List V), Sta Γ ω σ H → DRs (vw ω H 0) vs ds → ∀ Q : VK,
  (∀ (v : V) (g : Gp) (Γ' : Ga) (ω' : Col) (H' : Hp), k g Γ' → Sta Γ' ω' σ H' → g.p (vw ω' H' 0) v (vw ω' H' 2) → Fr ω ω' H H' → Q v H') → r vs H Q
section
variable {K : PySem.W.Frag} {Γ : Ga} {k : Gp → Ga → Prop} {ta tb te : TE} {tr : TA} {kt : Bool → Ga → Prop} {ka : List Arg → Ga → Prop}
theorem we_opK {r : R2} (h : WQ ta Γ fun q Γ1 => ∃ d, q = dP d ∧ WQ tb Γ1 fun q' Γ2 => ∃ e, q' = dP e ∧ OpK r d e k Γ2) : WE (tOp r ta tb) Γ k :=
  we_op (h.imp fun q Γ1 ⟨d, e1, h1⟩ => h1.imp fun q' Γ2 ⟨e, e2, hk⟩ => by
    subst e1 e2
    exact hk)
theorem ok_of {r : R2} {d e : PyData} {q : Per} (h : OpD r d e q) (hk : k (per q) Γ) : OpK r d e k Γ := fun ω σ H v w S a b Q f => h (vw ω H 0) H v w (fun _ _ z => vw_H z) a b Q fun z hz => f z (per q) Γ ω H hk S hz Fr.refl
theorem ok_plusI {i j : Int} (hk : k (dat (.int (i + j))) Γ) : OpK (rPlus K) (.int i) (.int j) k Γ := ok_of od_addI hk
theorem ok_sub {i j : Int} (hk : k (dat (.int (i - j))) Γ) : OpK rSubI (.int i) (.int j) k Γ := ok_of od_I0 hk
theorem ok_mul {i j : Int} (c : CMul i j) (hk : k (dat (.int (i * j))) Γ) : OpK rMulI (.int i) (.int j) k Γ := ok_of (od_I c) hk
theorem ok_div {i j : Int} (c : CDivW i j) (hk : k (dat (.int (i / j))) Γ) : OpK rDivI (.int i) (.int j) k Γ := ok_of (od_I c) hk
theorem ok_mod {i j : Int} (c : 0 < j) (hk : k (dat (.int (i % j))) Γ) : OpK rModI (.int i) (.int j) k Γ := ok_of (od_I c) hk
theorem ok_pow {i j : Int} (c : CPow i j) (hk : k (dat (.int (i ^ j.toNat))) Γ) : OpK rPowI (.int i) (.int j) k Γ := ok_of (od_I c) hk
theorem ok_lt {i j : Int} (hk : k (dat (.bool (decide (i < j)))) Γ) : OpK rLtI (.int i) (.int j) k Γ := ok_of od_B0 hk
theorem ok_le {i j : Int} (hk : k (dat (.bool (decide (i ≤ j)))) Γ) : OpK rLeI (.int i) (.int j) k Γ := ok_of od_B0 hk
theorem ok_gt {i j : Int} (hk : k (dat (.bool (decide (j < i)))) Γ) : OpK rGtI (.int i) (.int j) k Γ := ok_of od_B0 hk
theorem ok_ge {i j : Int} (hk : k (dat (.bool (decide (j ≤ i)))) Γ) : OpK rGeI (.int i) (.int j) k Γ := ok_of od_B0 hk
theorem shaped_int {i : Int} : SeqAt.shaped (.int i) = true := by rfl
theorem eqv_int {i j : Int} : PyData.eqv (.int i) (.int j) = decide (i = j) := by
  show (i == j) = decide (i = j)
  exact Bool.beq_eq_decide_eq i j
theorem ok_eqI {i j : Int} (hk : k (dat (.bool (decide (i = j)))) Γ) : OpK (rEqD K) (.int i) (.int j) k Γ := ok_of (od_eq shaped_int shaped_int) (by rw [eqv_int]; exact hk)
theorem ok_neI {i j : Int} (hk : k (dat (.bool (!decide (i = j)))) Γ) : OpK (rNeD K) (.int i) (.int j) k Γ := ok_of (od_ne shaped_int shaped_int) (by rw [eqv_int]; exact hk)
theorem ok_eq {d e : PyData} (hd : SeqAt.shaped d = true) (he : SeqAt.shaped e = true) (hk : k (dat (.bool (PyData.eqv d e))) Γ) : OpK (rEqD K) d e k Γ := ok_of (od_eq hd he) hk
theorem ok_ne {d e : PyData} (hd : SeqAt.shaped d = true) (he : SeqAt.shaped e = true) (hk : k (dat (.bool (!PyData.eqv d e))) Γ) : OpK (rNeD K) d e k Γ := ok_of (od_ne hd he) hk
theorem ok_notIn {d : PyData} {ds : List PyData} (hd : SeqAt.shaped d = true) (he : SeqAt.shaped (.list ds) = true) (hk : k (dat (.bool (!ds.any fun z => PyData.eqv z d))) Γ) : OpK (rNotInD K) d (.list ds) k Γ := ok_of (od_notIn hd he) hk
theorem ok_ixL {ds : List PyData} {i : Int} {d : PyData} (h : atI ds i = some d) (hk : k (dat d) Γ) : OpK (rIx K) (.list ds) (.int i) k Γ := ok_of (od_ixL h) hk
theorem ok_ixT {ds : List PyData} {i : Int} {d : PyData} (h : atI ds i = some d) (hk : k (dat d) Γ) : OpK (rIx K) (.tuple ds) (.int i) k Γ := ok_of (od_ixT h) hk
/-- an own list looked at, on the right, on the left -/
theorem we_opR {r : R2} {i : Nat} (h : WQ ta Γ fun q Γ1 => ∃ d, q = dP d ∧ ∃ ds b, Γ1[i]? = some (some (own ds)) ∧ OpD r d (.list ds) (dP (.bool b)) ∧ k (dat (.bool b)) Γ1) : WE (tOp r ta (tVar i)) Γ k := fun ω σ H S Q f => h ω σ H S _ fun v q Γ1 ω1 H1 ⟨d, e, ds, b, hi, ho, hk⟩ S1 p f1 => by
  subst e
  obtain ⟨w, ew, a, vs, rfl, hr, hd⟩ := S1.2 i _ hi
  exact ⟨_, ew, ho H1 H1 v _ (Same.refl _) (DR.mono (fun _ _ z => vw_H z) d p) (.lst (vw_H hr) (hd.mono fun _ _ z => vw_H z)) Q fun z hz => by
    cases DR.bl_inv hz
    exact f _ _ Γ1 ω1 H1 hk S1 (DR.bl b) f1⟩
theorem we_opL {r : R2} {i : Nat} {ds : List PyData} (hi : Γ[i]? = some (some (own ds))) (h : WQ tb Γ fun q Γ1 => ∃ d, q = dP d ∧ ∃ b, Γ1[i]? = some (some (own ds)) ∧ OpD r (.list ds) d (dP (.bool b)) ∧ k (dat (.bool b)) Γ1) : WE (tOp r (tVar i) tb) Γ k := fun ω σ H S Q f => by
  obtain ⟨w, ew, p0⟩ := S.2 i _ hi
  refine ⟨_, ew, h ω σ H S _ fun v q Γ1 ω1 H1 ⟨d, e, b, hi, ho, hk⟩ S1 p f1 => ?_⟩
  subst e
  obtain ⟨w', ew', a, vs, e2, hr, hd⟩ := S1.2 i _ hi
  rw [ew] at ew'
  cases ew'
  subst e2
  exact ho H1 H1 _ v (Same.refl _) (.lst (vw_H hr) (hd.mono fun _ _ z => vw_H z)) (DR.mono (fun _ _ z => vw_H z) d p) Q fun z hz => by
    cases DR.bl_inv hz
    exact f _ _ Γ1 ω1 H1 hk S1 (DR.bl b) f1
/-! ### built-ins -/
theorem we_cbK {rc : List V → Hp → VK → Prop} (h : WA tr Γ fun as Γ1 => ∃ ds, ArgD as ds ∧ CbK rc ds k Γ1) : WE (tCB rc tr) Γ k := fun ω σ H S Q f => h ω σ H S _ fun vs as Γ1 ω1 H1 ⟨ds, e, hc⟩ S1 a f1 =>
  hc ω1 σ H1 vs S1 (e.drs a) Q fun v g Γ' ω' H' hk S' p f2 => f v g Γ' ω' H' hk S' p (f1.trans f2)
theorem ck_of {rc : List V → Hp → VK → Prop} {ds : List PyData} {q : Per} (h : CbD rc ds q) (hk : k (per q) Γ) : CbK rc ds k Γ := fun ω σ H vs S a Q f => h (vw ω H 0) H vs (fun _ _ z => vw_H z) a Q fun z hz => f z (per q) Γ ω H hk S hz Fr.refl
theorem ck_L {rc : List V → Hp → VK → Prop} {ds : List PyData} {P : List PyData → Prop} (h : CbL rc ds P) (hk : ∀ es, P es → k (own es) Γ) : CbK rc ds k Γ := fun ω σ H vs S a Q f => h (vw ω H 0) H vs (fun _ _ z => vw_H z) a Q fun es xs p hP hx hp =>
  f _ _ Γ (paint ω p 2) _ (hk es hP) (S.new 2 hp) ⟨p, xs, rfl, paint_at, hx.mono (paint_same hp 0)⟩ (paint_fr hp)
theorem ck_lenL {ds : List PyData} (hk : k (dat (.int ds.length)) Γ) : CbK (rLenA K) [.list ds] k Γ := ck_of cb_lenL hk
theorem ck_lenT {ds : List PyData} (hk : k (dat (.int ds.length)) Γ) : CbK (rLenA K) [.tuple ds] k Γ := ck_of cb_lenT hk
theorem ck_int {i : Int} (hk : k (dat (.int i)) Γ) : CbK rInt1 [.int i] k Γ := ck_of cb_int hk
theorem ck_intB {i : Bool} (hk : k (dat (.int (if i then 1 else 0))) Γ) : CbK rInt1 [.bool i] k Γ := ck_of cb_intB hk
theorem ck_max {i j : Int} (hk : k (dat (.int (if j > i then j else i))) Γ) : CbK rMax2 [.int i, .int j] k Γ := ck_of cb_max hk
theorem ck_min {i j : Int} (hk : k (dat (.int (if j < i then j else i))) Γ) : CbK rMin2 [.int i, .int j] k Γ := ck_of cb_min hk
theorem ck_list {ds : List PyData} (hk : k (own ds) Γ) : CbK (rListOf K) [.list ds] k Γ := ck_L cb_list fun es e => by subst e; exact hk
theorem argD0 : ArgD [] [] := trivial
theorem argD3 {d e f : PyData} : ArgD [.q (dP d), .q (dP e), .q (dP f)] [d, e, f] := ⟨rfl, rfl, rfl, trivial⟩
theorem argD4 {d e f g : PyData} : ArgD [.q (dP d), .q (dP e), .q (dP f), .q (dP g)] [d, e, f, g] := ⟨rfl, rfl, rfl, rfl, trivial⟩
theorem we_lenS' {i : Nat} {ds : List PyData} (h : Γ[i]? = some (some (own ds))) (hk : k (dat (.int ds.length)) Γ) : WE (tCB (rLenA K) (tCons (tVar i) tNil)) Γ k := we_lenS h hk
/-- no argument is one's own -/
def urn (m : Nat) : Gp := exG fun x : Int × Int × Int => whenG (0 ≤ x.2.2 ∧ x.2.2 + (m : Int) ≤ 2 ^ 60) (own [.int x.1, .int x.2.1, .int x.2.2])
/-- a list of ints that is only read: the script -/
def scrP (K : PySem.W.Frag) (ns : List Int) : Per := ⟨fun A v => ∃ a, v = .ref a ∧ SqL K A a (ns.map V.int), fun s ⟨a, e, h⟩ => ⟨a, e, Same.seq s h⟩⟩
theorem we_lenScr {i : Nat} {ns : List Int} (h : Γ[i]? = some (some (per (scrP K ns)))) (hk : k (dat (.int ns.length)) Γ) : WE (tCB (rLenA K) (tCons (tVar i) tNil)) Γ k := fun ω σ H S Q f => by
  obtain ⟨v, e, a, rfl, hs⟩ := S.2 i _ h
  exact ⟨_, e, _, (ns.map V.int).length, rfl, .inl ⟨_, Same.seq (fun _ _ z => vw_H z) hs, rfl⟩, by rw [List.length_map]; exact f _ _ Γ ω H hk S (DR.int _) Fr.refl⟩
theorem we_ixScr {i : Nat} {ns : List Int} (h : Γ[i]? = some (some (per (scrP K ns)))) (hb : WQ tb Γ fun q Γ1 => ∃ j n, q = dP (.int j) ∧ atI ns j = some n ∧ k (dat (.int n)) Γ1) : WE (tOp (rIx K) (tVar i) tb) Γ k := fun ω σ H S Q f => by
  obtain ⟨v, e, a, rfl, hs⟩ := S.2 i _ h
  refine ⟨_, e, hb ω σ H S _ fun w q Γ1 ω1 H1 ⟨j, n, eq, ha, hk⟩ S1 pq f1 => ?_⟩
  subst eq
  cases DR.int_inv pq
  refine .inl ⟨a, _, j, .int n, rfl, rfl, Same.seq (fun x o z => vw_H (f1.1 x o z)) hs, ?_, f _ _ Γ1 ω1 H1 hk S1 (DR.int _) f1⟩
  unfold atI at ha ⊢
  rw [List.length_map]
  cases e : ixN ns.length j with
  | none => rw [e] at ha; cases ha
  | some m =>
    rw [e] at ha
    show (ns.map V.int)[m]? = _
    rw [List.getElem?_map, show ns[m]? = some n from ha]
    rfl
end
end G
namespace G
open PySem L2
theorem ite_dec {c A B : Prop} [Decidable c] (h1 : c → A) (h2 : ¬ c → B) : if decide c = true then A else B := by
  by_cases h : c
  · rw [if_pos (decide_eq_true h)]; exact h1 h
  · rw [if_neg (by simp [h])]; exact h2 h
theorem ite_ndec {c A B : Prop} [Decidable c] (h1 : ¬ c → A) (h2 : c → B) : if (!decide c) = true then A else B := by
  by_cases h : c
  · rw [if_neg (by simp [h])]; exact h2 h
  · rw [if_pos (by simp [h])]; exact h1 h
theorem ite_b {b : Bool} {A B : Prop} (h1 : b = true → A) (h2 : b = false → B) : if b = true then A else B := by
  cases b with
  | true => exact iteT (h1 rfl)
  | false => exact iteF (h2 rfl)
theorem cmul_l {i j : Int} (h : -(2 ^ 64) < i) (h' : i < 2 ^ 64) : CMul i j := .inl ⟨h, h'⟩
theorem cmul_r {i j : Int} (h : -(2 ^ 64) < j) (h' : j < 2 ^ 64) : CMul i j := .inr ⟨h, h'⟩
theorem cdiv_of {i j : Int} {b : Nat} (h : 0 < j) (hb : j < 2 ^ b) (h0 : 0 < b) (h9 : b ≤ 9000) : CDivW i j := by
  refine wide_div h (b := b) ?_ h0 h9
  have e : ((2 : Int) ^ b) = ((2 ^ b : Nat) : Int) := by simp
  rw [e] at hb
  omega
end G
namespace G
open PySem L2
theorem les_nil : Les [] [] := trivial
theorem les_none {o : Option Gp} {Γ Γp : Ga} (l : Les Γ Γp) : Les (o :: Γ) (none :: Γp) := by cases o <;> exact l
theorem les_some {g g' : Gp} {Γ Γp : Ga} (e : Ent g g') (l : Les Γ Γp) : Les (some g :: Γ) (some g' :: Γp) := ⟨e, l⟩
end G
namespace G
open PySem L2
end G

namespace G
open PySem L2
/-! ### pairs of ints -/
def tieD (t : Int × Int) : PyData := .tuple [.int t.1, .int t.2]
theorem canLay_all : ∀ {ds : List PyData}, (∀ d ∈ ds, d.canLay0 = true) → PyData.canLayAll0 ds = true
  | [], _ => by simp [PyData.canLayAll0]
  | d :: ds, h => by
    have h1 := h d (by simp)
    have h2 := canLay_all (ds := ds) fun e he => h e (List.mem_cons_of_mem _ he)
    simp [PyData.canLayAll0, h1, h2]
theorem depth_all {n : Nat} : ∀ {ds : List PyData}, (∀ d ∈ ds, d.depth ≤ n) → PyData.depthAll ds ≤ n
  | [], _ => by simp [PyData.depthAll]
  | d :: ds, h => by
    have h1 := h d (by simp)
    have h2 := depth_all (n := n) (ds := ds) fun e he => h e (by simp [he])
    simp only [PyData.depthAll]
    omega
/-- what may be compared: no dict within, so deep -/
structure Lay (n : Nat) (d : PyData) : Prop where
  lay : d.canLay0 = true
  dep : d.depth ≤ n
theorem Lay.shaped {n : Nat} {d : PyData} (h : Lay n d) (hn : n ≤ 64 := by decide) : SeqAt.shaped d = true := by
  show (d.canLay0 && decide (d.depth ≤ 64)) = true
  rw [Bool.and_eq_true]
  exact ⟨h.lay, decide_eq_true (Nat.le_trans h.dep hn)⟩
theorem lay_list {n : Nat} {ds : List PyData} (h : ∀ d ∈ ds, Lay n d) : Lay (n + 1) (.list ds) := ⟨by simp only [PyData.canLay0]; exact canLay_all fun d hd => (h d hd).lay, by
  simp only [PyData.depth]
  have := depth_all (n := n) (ds := ds) fun d hd => (h d hd).dep
  omega⟩
theorem lay_tuple {n : Nat} {ds : List PyData} (h : ∀ d ∈ ds, Lay n d) : Lay (n + 1) (.tuple ds) := ⟨by simp only [PyData.canLay0]; exact canLay_all fun d hd => (h d hd).lay, by
  simp only [PyData.depth]
  have := depth_all (n := n) (ds := ds) fun d hd => (h d hd).dep
  omega⟩
theorem Lay.up {n m : Nat} {d : PyData} (h : Lay n d) (hm : n ≤ m) : Lay m d := ⟨h.lay, Nat.le_trans h.dep hm⟩
theorem lay_int {i : Int} : Lay 0 (.int i) := ⟨by simp [PyData.canLay0], by simp [PyData.depth]⟩
theorem lay_bool {i : Bool} : Lay 0 (.bool i) := ⟨by simp [PyData.canLay0], by simp [PyData.depth]⟩
theorem lay_none : Lay 0 .none := ⟨by simp [PyData.canLay0], by simp [PyData.depth]⟩
theorem lay_str {i : Str} (h : PyData.strOk i = true) : Lay 0 (.str i) := ⟨by simp [PyData.canLay0, h], by simp [PyData.depth]⟩
theorem lay_tie {t : Int × Int} : Lay 1 (tieD t) := lay_tuple fun d hd => by
  simp at hd
  rcases hd with rfl | rfl <;> exact lay_int
theorem lay_ints {ns : List Int} : Lay 1 (.list (ns.map .int)) := lay_list fun d hd => by
  obtain ⟨t, _, rfl⟩ := List.mem_map.mp hd
  exact lay_int
theorem eqv_tie {s t : Int × Int} : PyData.eqv (tieD s) (tieD t) = decide (s = t) := by
  obtain ⟨a, b⟩ := s
  obtain ⟨c, d⟩ := t
  show (PyData.eqv (.tuple [.int a, .int b]) (.tuple [.int c, .int d])) = _
  simp only [PyData.eqv, PyData.eqvAll, Bool.and_true]
  by_cases h1 : a = c <;> by_cases h2 : b = d <;> simp [h1, h2]
theorem eqvAll_inj {α : Type} [DecidableEq α] {f : α → PyData} (h : ∀ x y, PyData.eqv (f x) (f y) = decide (x = y)) : ∀ {xs ys : List α}, PyData.eqvAll (xs.map f) (ys.map f) = decide (xs = ys)
  | [], [] => by simp [PyData.eqvAll]
  | [], _ :: _ => by simp [PyData.eqvAll]
  | _ :: _, [] => by simp [PyData.eqvAll]
  | x :: xs, y :: ys => by
    simp only [List.map_cons, PyData.eqvAll, h, eqvAll_inj h]
    by_cases h1 : x = y <;> by_cases h2 : xs = ys <;> simp [h1, h2]
theorem eqv_list_inj {α : Type} [DecidableEq α] {f : α → PyData} (h : ∀ x y, PyData.eqv (f x) (f y) = decide (x = y)) {xs ys : List α} : PyData.eqv (.list (xs.map f)) (.list (ys.map f)) = decide (xs = ys) := by
  simp only [PyData.eqv]
  exact eqvAll_inj h
theorem any_inj {α : Type} [BEq α] [LawfulBEq α] [DecidableEq α] {f : α → PyData} (h : ∀ x y, PyData.eqv (f x) (f y) = decide (x = y)) {xs : List α} {y : α} : ((xs.map f).any fun z => PyData.eqv z (f y)) = decide (y ∈ xs) := by
  induction xs with
  | nil => simp
  | cons x xs ih =>
    rw [List.map_cons, List.any_cons, ih, h]
    by_cases h1 : x = y
    · simp [h1]
    · have : ¬ y = x := fun e => h1 e.symm
      simp [h1, this]
theorem any_ints {ns : List Int} {n : Int} : ((ns.map PyData.int).any fun z => PyData.eqv z (.int n)) = decide (n ∈ ns) := by rw [any_inj fun _ _ => eqv_int]
/-! ### sorted of pairs -/
def LexLe (a b : Int × Int) : Prop := a.1 < b.1 ∨ (a.1 = b.1 ∧ a.2 ≤ b.2)
def LexLt (a b : Int × Int) : Prop := a.1 < b.1 ∨ (a.1 = b.1 ∧ a.2 < b.2)
def keyP (A : Hp) : V → Int × Int
  | .ref t => match A t with
    | some (.tup [.int i, .int j]) => (i, j)
    | _ => (0, 0)
  | _ => (0, 0)
theorem key_tie {A : Hp} {v : V} {t : Int × Int} (h : DR A v (tieD t)) : keyP A v = t ∧ ∃ a, v = .ref a ∧ A a = some (.tup [.int t.1, .int t.2]) := by
  obtain ⟨a, xs, rfl, ha, hx⟩ := DR.tup_inv h
  cases hx with | cons x y =>
  cases y with | cons z y =>
  cases y
  cases x.int_inv
  cases z.int_inv
  refine ⟨?_, a, rfl, ha⟩
  show (match A a with | some (.tup [.int i, .int j]) => (i, j) | _ => (0, 0)) = t
  rw [ha]
theorem key_ties {A : Hp} : ∀ {vs : List V} {ts : List (Int × Int)}, DRs A vs (ts.map tieD) → vs.map (keyP A) = ts
  | _, [], h => by cases h; rfl
  | _, t :: ts, h => by cases h with | cons x y => rw [List.map_cons, (key_tie x).1, key_ties y]
theorem DRs.mem {H : Hp} : ∀ {ds : List PyData} {vs : List V} {v : V}, DRs H vs ds → v ∈ vs → ∃ d ∈ ds, DR H v d
  | [], _, _, h, e => by cases h; simp at e
  | d :: ds, _, v, h, e => by
    cases h with | cons a b =>
    rcases List.mem_cons.mp e with rfl | e
    · exact ⟨d, by simp, a⟩
    · obtain ⟨d', h1, h2⟩ := DRs.mem b e
      exact ⟨d', by simp [h1], h2⟩
theorem cb_sortP {ts : List (Int × Int)} {K : PySem.W.Frag} : CbL (rSortA K) [.list (ts.map tieD)] (fun es => ∃ ts' : List (Int × Int), es = ts'.map tieD ∧ ts'.Perm ts ∧ ts'.Pairwise LexLe) := fun A H vs s h Q f => by
  cases h with | cons x y =>
  cases y
  obtain ⟨a, xs, rfl, ha, hd⟩ := x.lst_inv
  have hk : ∀ x ∈ xs, ∃ t : Int × Int, DR A x (tieD t) := fun x hx => by
    obtain ⟨d, h1, h2⟩ := hd.mem hx
    obtain ⟨t, _, rfl⟩ := List.mem_map.mp h1
    exact ⟨t, h2⟩
  refine .inr ⟨a, xs, keyP A, rfl, SqL.of (s _ _ ha), fun x hx => ?_, fun ys p hs hst hp => ?_⟩
  · obtain ⟨t, ht⟩ := hk x hx
    obtain ⟨e, b, eb, hb⟩ := key_tie ht
    rw [e]
    exact ⟨b, eb, s _ _ hb⟩
  · have hp' := hst.perm
    have hy : ∀ y ∈ ys, ∃ t : Int × Int, DR A y (tieD t) := fun y hy => hk y (hp'.mem_iff.mp hy)
    have hdr : ∀ {zs : List V}, (∀ y ∈ zs, ∃ t : Int × Int, DR A y (tieD t)) → DRs A zs ((zs.map (keyP A)).map tieD) := fun {zs} hz => by
      induction zs with
      | nil => exact .nil
      | cons z zs ih =>
        obtain ⟨t, ht⟩ := hz z (by simp)
        refine .cons ?_ (ih fun y h => hz y (by simp [h]))
        rw [(key_tie ht).1]
        exact ht
    refine f _ ys p ⟨ys.map (keyP A), rfl, ?_, ?_⟩ (hdr hy) hp
    · rw [← key_ties hd]
      exact hp'.map _
    · rw [List.pairwise_map]
      refine hs.imp fun {x y} hxy => ?_
      have e := SrtO.lexB_no.mp hxy
      unfold LexLe
      omega
section
variable {Γ : Ga} {k : Gp → Ga → Prop} {ta tb te : TE} {K : PySem.W.Frag}
theorem ck_sortP {ts : List (Int × Int)} (hk : ∀ ts' : List (Int × Int), ts'.Perm ts → ts'.Pairwise LexLe → k (own (ts'.map tieD)) Γ) : CbK (rSortA K) [.list (ts.map tieD)] k Γ := ck_L cb_sortP fun es ⟨ts', e, h1, h2⟩ => by subst e; exact hk ts' h1 h2
theorem ck_sortI {ns : List Int} (hk : ∀ ns' : List Int, ns'.Perm ns → ns'.Pairwise (· ≤ ·) → k (own (ns'.map .int)) Γ) : CbK (rSortA K) [.list (ns.map .int)] k Γ := ck_L cb_sortI fun es ⟨ts', e, h1, h2⟩ => by subst e; exact hk ts' h1 h2
/-- list(range(n)) -/
def upTo (n : Int) : List Int := (List.range n.toNat).map fun (i : Nat) => (i : Int)
theorem we_upTo (h : WQ ta Γ fun q Γ1 => ∃ n : Int, q = dP (.int n) ∧ (0 ≤ n ∧ n ≤ 1000000) ∧ k (own ((upTo n).map .int)) Γ1) : WE (tLstRg (tRg1 ta)) Γ k := fun ω σ H S Q f => h ω σ H S _ fun v q Γ1 ω1 H1 ⟨n, e, ⟨h0, h1⟩, hk⟩ S1 p f1 => by
  subst e
  cases DR.int_inv p
  refine ⟨n, rfl, ⟨by omega, by omega, by omega, by omega, by omega⟩, fun l hl => ?_⟩
  have er : rgV 0 n = (upTo n).map V.int := by
    unfold rgV upTo
    rw [List.map_map, Int.sub_zero]
    refine List.map_congr_left fun i _ => ?_
    show V.int (0 + (i : Int)) = V.int (i : Int)
    rw [Int.zero_add]
  rw [er]
  exact f _ _ Γ1 (paint ω1 l 2) _ hk (S1.new 2 hl) ⟨l, _, rfl, paint_at, DRs.of_ints⟩ (f1.trans (paint_fr hl))
end
/-- two strictly sorted lists of the same items are one -/
theorem lex_uniq {ts us : List (Int × Int)} (h : ts.Pairwise LexLe) (h' : us.Pairwise LexLe) (p : ts.Perm us) : ts = us :=
  List.Perm.eq_of_pairwise (fun a b _ _ h1 h2 => by
    unfold LexLe at h1 h2
    refine Prod.ext ?_ ?_ <;> omega) h h' p
theorem LexLt.le {a b : Int × Int} (h : LexLt a b) : LexLe a b := by
  unfold LexLt at h
  unfold LexLe
  omega
end G
namespace G
open PySem L2
/-- what a slot owns is handed on -/
theorem we_varM {Γ : Ga} {k : Gp → Ga → Prop} {i : Nat} {g : Gp} (h : Γ[i]? = some (some g)) (c : k g (Γ.set i none)) : WE (tVar i) Γ k := fun ω σ H S Q f => by
  obtain ⟨v, e, p⟩ := S.2 i _ h
  have s0 : Same (vw ω H 0) (vw (give ω (i + 3) 2) H 0) := give_ne (by omega) (by omega)
  refine ⟨v, e, f v g _ (give ω (i + 3) 2) H c ⟨by rw [List.length_set]; exact S.1, fun j g' hj => ?_⟩ (g.mono s0 give_c p) ⟨s0, give_ne (by omega) (by omega)⟩⟩
  rw [set_eq] at hj
  by_cases hij : i = j
  · rw [if_pos hij] at hj
    split at hj <;> cases hj
  · rw [if_neg hij] at hj
    obtain ⟨w, e', p'⟩ := S.2 j _ hj
    exact ⟨w, e', g'.mono s0 (give_ne (by omega) (by omega)) p'⟩
theorem cpow_of {i j : Int} (h0 : 0 ≤ j) (h1 : j ≤ 1000000) (h2 : i.natAbs < 2 ^ 64) : CPow i j := ⟨h0, h1, h2⟩
end G
namespace G
open PySem L2
theorem nd0 : ([] : List Nat).Nodup := List.nodup_nil
theorem nd1 {i : Nat} : [i].Nodup := by simp
theorem erase_perm {α : Type} : ∀ {l : List α} {j : Nat} {d : α}, l[j]? = some d → (d :: l.eraseIdx j).Perm l
  | [], _, _, h => by simp at h
  | a :: l, 0, d, h => by
    simp at h
    subst h
    exact List.Perm.refl _
  | a :: l, j + 1, d, h => by
    have ih := erase_perm (l := l) (j := j) (d := d) (by simpa using h)
    rw [List.eraseIdx_cons_succ]
    exact (List.Perm.swap a d _).trans (ih.cons a)
theorem perm_pick {α : Type} {found left ds : List α} {d : α} {j : Nat} (hp : (found ++ left).Perm ds) (hj : left[j]? = some d) : (found ++ [d] ++ left.eraseIdx j).Perm ds := by
  refine List.Perm.trans ?_ hp
  rw [List.append_assoc]
  refine List.Perm.append_left found ?_
  exact erase_perm hj
end G
namespace G
open PySem L2
theorem ws_cut {P : Nat → Bool} {t u : TS} {Γ : Ga} {D : Pe} (M : Ga → Prop) (h1 : WS P t Γ (D.to M)) (h2 : ∀ Γ', M Γ' → WS P u Γ' D) : WS P (tSeq t u) Γ D := fun ω σ H S E m =>
  h1 ω σ H S { E with nx := u E } ⟨fun Γ' ω' σ' H' hk S' f p => h2 Γ' hk ω' σ' H' S' E (m.after f p), m.rt, m.bk, m.ct⟩
end G
namespace G
open PySem L2
theorem wa_slotU {Γ : Ga} {ka : List Arg → Ga → Prop} {tr : TA} {i m : Nat} (hi : Γ[i]? = some (some (urn m))) (h : WA tr Γ fun as Γ2 => ka (.s i :: as) Γ2) : WA (tCons (tVar i) tr) Γ ka := wa_slot ⟨_, hi⟩ h
end G
namespace G
open PySem L2
theorem ws_seqA {P : Nat → Bool} {te : TE} {g : TG} {u : TS} {Γ : Ga} {D : Pe} (h : WS P (tAsg te g) Γ (D.to fun Γ' => WS P u Γ' D)) : WS P (tSeq (tAsg te g) u) Γ D := ws_seq h
theorem ws_seqD {P : Nat → Bool} {te : TE} {u : TS} {Γ : Ga} {D : Pe} (h : WS P (tDrop te) Γ (D.to fun Γ' => WS P u Γ' D)) : WS P (tSeq (tDrop te) u) Γ D := ws_seq h
end G
namespace G
open PySem L2
section
variable {K : PySem.W.Frag} {Γ : Ga} {k : Gp → Ga → Prop} {ta tb : TE}
theorem we_inS {i : Nat} {ds0 : List PyData} (hi : Γ[i]? = some (some (own ds0))) (h : WQ ta Γ fun q Γ1 => ∃ d, q = dP d ∧ ∃ ds, Γ1[i]? = some (some (own ds)) ∧ (SeqAt.shaped d = true ∧ SeqAt.shaped (.list ds) = true) ∧ k (dat (.bool (ds.any fun z => PyData.eqv z d))) Γ1) : WE (tOp (rInD K) ta (tVar i)) Γ k :=
  we_opR (h.imp fun q Γ1 ⟨d, e, ds, h1, h2, h3⟩ => ⟨d, e, ds, _, h1, od_in h2.1 h2.2, h3⟩)
theorem we_notInS {i : Nat} {ds0 : List PyData} (hi : Γ[i]? = some (some (own ds0))) (h : WQ ta Γ fun q Γ1 => ∃ d, q = dP d ∧ ∃ ds, Γ1[i]? = some (some (own ds)) ∧ (SeqAt.shaped d = true ∧ SeqAt.shaped (.list ds) = true) ∧ k (dat (.bool (!ds.any fun z => PyData.eqv z d))) Γ1) : WE (tOp (rNotInD K) ta (tVar i)) Γ k :=
  we_opR (h.imp fun q Γ1 ⟨d, e, ds, h1, h2, h3⟩ => ⟨d, e, ds, _, h1, od_notIn h2.1 h2.2, h3⟩)
theorem we_eqS {i : Nat} {ds : List PyData} (hi : Γ[i]? = some (some (own ds))) (h : WQ tb Γ fun q Γ1 => ∃ d, q = dP d ∧ Γ1[i]? = some (some (own ds)) ∧ (SeqAt.shaped (.list ds) = true ∧ SeqAt.shaped d = true) ∧ k (dat (.bool (PyData.eqv (.list ds) d))) Γ1) : WE (tOp (rEqD K) (tVar i) tb) Γ k :=
  we_opL hi (h.imp fun q Γ1 ⟨d, e, h1, h2, h3⟩ => ⟨d, e, _, h1, od_eq h2.1 h2.2, h3⟩)
theorem we_neS {i : Nat} {ds : List PyData} (hi : Γ[i]? = some (some (own ds))) (h : WQ tb Γ fun q Γ1 => ∃ d, q = dP d ∧ Γ1[i]? = some (some (own ds)) ∧ (SeqAt.shaped (.list ds) = true ∧ SeqAt.shaped d = true) ∧ k (dat (.bool (!PyData.eqv (.list ds) d))) Γ1) : WE (tOp (rNeD K) (tVar i) tb) Γ k :=
  we_opL hi (h.imp fun q Γ1 ⟨d, e, h1, h2, h3⟩ => ⟨d, e, _, h1, od_ne h2.1 h2.2, h3⟩)
end
end G

namespace G
open PySem L2
theorem un65 {k : Nat} {A : Around} (hr : Room k A) : A.units + 65 < cLine := by have := hr.un; omega
theorem bt_len : bootBuiltins "len" = some (.builtin "len") := by decide +kernel
theorem bt_max : bootBuiltins "max" = some (.builtin "max") := by decide +kernel
theorem bt_min : bootBuiltins "min" = some (.builtin "min") := by decide +kernel
theorem bt_sorted : bootBuiltins "sorted" = some (.builtin "sorted") := by decide +kernel
theorem bt_all : bootBuiltins "all" = some (.builtin "all") := by decide +kernel
theorem bt_isinstance : bootBuiltins "isinstance" = some (.builtin "isinstance") := by decide +kernel
theorem bt_int : bootBuiltins "int" = some (.type "int") := by decide +kernel
theorem bt_bool : bootBuiltins "bool" = some (.type "bool") := by decide +kernel
theorem bt_list : bootBuiltins "list" = some (.type "list") := by decide +kernel
theorem bt_tuple : bootBuiltins "tuple" = some (.type "tuple") := by decide +kernel
theorem bt_ValueError : bootBuiltins "ValueError" = some (.type "ValueError") := by decide +kernel
/-! ### isinstance, all -/
abbrev rIsiA (K : PySem.W.Frag) : List V → Hp → VK → Prop := rIsi K
abbrev rAllA (K : PySem.W.Frag) : List V → Hp → VK → Prop := rAll K
theorem c_isi {X : Cx} : CallR X (.builtin "isinstance") (rIsiA X.K) := call_isi
theorem c_all {X : Cx} (hc : X.calm = true) : CallR X (.builtin "all") (rAllA X.K) := cr_all hc
def tyD : PyData → Option String
  | .none => some "NoneType"
  | .bool _ => some "bool"
  | .int _ => some "int"
  | .str _ => some "str"
  | .list _ => some "list"
  | .tuple _ => some "tuple"
  | .dict _ => some "dict"
theorem tyD_ok {K : PySem.W.Frag} {H : Hp} {v : V} {d : PyData} {n : String} (h : DR H v d) (e : tyD d = some n) : TyX K H v (.type n) := by
  cases h with
  | non => cases e; exact .base .non
  | bl b => cases e; exact .base (.bl b)
  | int i => cases e; exact .base (.int i)
  | str x => cases e; exact .base (.str x)
  | lst a b => cases e; exact .base (.lst a)
  | tup a b => cases e; exact .base (.tup a)
  | dic a => cases e; exact .base (.dK a)
section
variable {K : PySem.W.Frag} {Γ : Ga} {k : Gp → Ga → Prop} {ta tb te : TE} {tr : TA}
theorem kb_ii : kitB "int" "int" = some true := by decide +kernel
theorem kb_bi : kitB "bool" "int" = some true := by decide +kernel
theorem kb_ni : kitB "NoneType" "int" = some false := by decide +kernel
theorem kb_si : kitB "str" "int" = some false := by decide +kernel
theorem kb_li : kitB "list" "int" = some false := by decide +kernel
theorem kb_ti : kitB "tuple" "int" = some false := by decide +kernel
theorem kb_bb : kitB "bool" "bool" = some true := by decide +kernel
theorem kb_nl : kitB "NoneType" "list" = some false := by decide +kernel
theorem kb_bl : kitB "bool" "list" = some false := by decide +kernel
theorem kb_il : kitB "int" "list" = some false := by decide +kernel
theorem kb_sl : kitB "str" "list" = some false := by decide +kernel
theorem kb_ll : kitB "list" "list" = some true := by decide +kernel
theorem kb_tl : kitB "tuple" "list" = some false := by decide +kernel
theorem kb_nt : kitB "NoneType" "tuple" = some false := by decide +kernel
theorem kb_bt : kitB "bool" "tuple" = some false := by decide +kernel
theorem kb_it : kitB "int" "tuple" = some false := by decide +kernel
theorem kb_st : kitB "str" "tuple" = some false := by decide +kernel
theorem kb_lt : kitB "list" "tuple" = some false := by decide +kernel
theorem kb_tt : kitB "tuple" "tuple" = some true := by decide +kernel
def isInt : PyData → Bool
  | .int _ => true
  | .bool _ => true
  | _ => false
def isBl : PyData → Bool
  | .bool _ => true
  | _ => false
def isLst : PyData → Bool
  | .list _ => true
  | _ => false
def isTup : PyData → Bool
  | .tuple _ => true
  | _ => false
theorem kb_dint : kitB "dict" "int" = some false := by decide +kernel
theorem isi_int : ∀ {d : PyData}, (tyD d).isSome = true → ∃ n, tyD d = some n ∧ kitB n "int" = some (isInt d)
  | .none, _ => ⟨_, rfl, kb_ni⟩
  | .bool _, _ => ⟨_, rfl, kb_bi⟩
  | .int _, _ => ⟨_, rfl, kb_ii⟩
  | .str _, _ => ⟨_, rfl, kb_si⟩
  | .list _, _ => ⟨_, rfl, kb_li⟩
  | .tuple _, _ => ⟨_, rfl, kb_ti⟩
  | .dict _, _ => ⟨_, rfl, kb_dint⟩
theorem kb_dlist : kitB "dict" "list" = some false := by decide +kernel
theorem isi_list : ∀ {d : PyData}, (tyD d).isSome = true → ∃ n, tyD d = some n ∧ kitB n "list" = some (isLst d)
  | .none, _ => ⟨_, rfl, kb_nl⟩
  | .bool _, _ => ⟨_, rfl, kb_bl⟩
  | .int _, _ => ⟨_, rfl, kb_il⟩
  | .str _, _ => ⟨_, rfl, kb_sl⟩
  | .list _, _ => ⟨_, rfl, kb_ll⟩
  | .tuple _, _ => ⟨_, rfl, kb_tl⟩
  | .dict _, _ => ⟨_, rfl, kb_dlist⟩
theorem kb_dtuple : kitB "dict" "tuple" = some false := by decide +kernel
theorem isi_tuple : ∀ {d : PyData}, (tyD d).isSome = true → ∃ n, tyD d = some n ∧ kitB n "tuple" = some (isTup d)
  | .none, _ => ⟨_, rfl, kb_nt⟩
  | .bool _, _ => ⟨_, rfl, kb_bt⟩
  | .int _, _ => ⟨_, rfl, kb_it⟩
  | .str _, _ => ⟨_, rfl, kb_st⟩
  | .list _, _ => ⟨_, rfl, kb_lt⟩
  | .tuple _, _ => ⟨_, rfl, kb_tt⟩
  | .dict _, _ => ⟨_, rfl, kb_dtuple⟩
theorem DR.ty {H : Hp} {v : V} {d : PyData} (h : DR H v d) : (tyD d).isSome = true := by cases h <;> rfl
/-- isinstance(x, int), (.., list), (.., tuple) of any data: the answer -/
theorem we_isInt (h : WQ ta Γ fun q Γ1 => ∃ d, q = dP d ∧ k (dat (.bool (isInt d))) Γ1) : WE (tCB (rIsiA K) (tCons ta (tCons (tC (.ty "int")) tNil))) Γ k := fun ω σ H S Q f => h ω σ H S _ fun v q Γ1 ω1 H1 ⟨d, e, hk⟩ S1 p f1 => by
  subst e
  obtain ⟨n, e1, e2⟩ := isi_int (DR.ty p)
  exact ⟨v, .ty "int", .type n, .type "int", _, rfl, .ty "int", tyD_ok (DR.mono (fun _ _ z => vw_H z) d p) e1, kit_ty e2, f _ _ Γ1 ω1 H1 hk S1 (DR.bl _) f1⟩
theorem we_isLst (h : WQ ta Γ fun q Γ1 => ∃ d, q = dP d ∧ k (dat (.bool (isLst d))) Γ1) : WE (tCB (rIsiA K) (tCons ta (tCons (tC (.ty "list")) tNil))) Γ k := fun ω σ H S Q f => h ω σ H S _ fun v q Γ1 ω1 H1 ⟨d, e, hk⟩ S1 p f1 => by
  subst e
  obtain ⟨n, e1, e2⟩ := isi_list (DR.ty p)
  exact ⟨v, .ty "list", .type n, .type "list", _, rfl, .ty "list", tyD_ok (DR.mono (fun _ _ z => vw_H z) d p) e1, kit_ty e2, f _ _ Γ1 ω1 H1 hk S1 (DR.bl _) f1⟩
theorem we_isTup (h : WQ ta Γ fun q Γ1 => ∃ d, q = dP d ∧ k (dat (.bool (isTup d))) Γ1) : WE (tCB (rIsiA K) (tCons ta (tCons (tC (.ty "tuple")) tNil))) Γ k := fun ω σ H S Q f => h ω σ H S _ fun v q Γ1 ω1 H1 ⟨d, e, hk⟩ S1 p f1 => by
  subst e
  obtain ⟨n, e1, e2⟩ := isi_tuple (DR.ty p)
  exact ⟨v, .ty "tuple", .type n, .type "tuple", _, rfl, .ty "tuple", tyD_ok (DR.mono (fun _ _ z => vw_H z) d p) e1, kit_ty e2, f _ _ Γ1 ω1 H1 hk S1 (DR.bl _) f1⟩
theorem DRs.bools : ∀ {bs : List Bool} {vs : List V}, DRs H vs (bs.map PyData.bool) → vs = bs.map V.bl
  | [], _, h => by cases h; rfl
  | n :: ns, _, h => by
    cases h with | cons a b => cases a; rw [DRs.bools b]; rfl
theorem ck_all {bs : List Bool} (hk : k (dat (.bool (bs.all id))) Γ) : CbK (rAllA K) [.list (bs.map .bool)] k Γ := ck_of (q := dP (.bool (bs.all id))) (fun A H vs s h Q f => by
  cases h with | cons x y =>
  cases y
  obtain ⟨a, xs, rfl, ha, hd⟩ := x.lst_inv
  rw [hd.bools] at ha
  exact ⟨a, bs, rfl, SqL.of (s _ _ ha), f _ (DR.bl _)⟩) hk
end
end G

/-! ### len(o) by an own __len__ -/
namespace GLen
open PySem PySem.Spec PyProof.Rows L2 PySem.Builtin
theorem len_at {prog : Program} {w : World} {A : Around} {E : Value → Shared → Prop} {s : Shared} {K : PySem.W.Frag} {x C f : Addr} {ox : Obj} {odd : Option Obj} {Q : Value → Shared → Prop}
    (kin : K.In s.heap) (at_ : PySem.W.InstAt s.heap x ox C odd) (hs : PySem.W.findIn K (.ref C) "__len__" = some (some (.ref f))) (hf : PySem.W.isFn K (.ref f) = true)
    (h : wpAny (model prog w) A.in1 (call (.ref f) [.ref x]) (fun r s' => ∃ n u, r = .int n u ∧ 0 ≤ n ∧ n < 2 ^ 63 ∧ Q (.int n s'.toks) { s' with toks := s'.toks + 1 }) E s) :
    wpAny (model prog w) A (call (.builtin "len") [.ref x]) Q E s := by
  refine Calls.call_function_entry kind_len plain_len entry_len (args_len1 _) ?_
  unfold Builtin.«len»
  refine wpAny_bind (m := oneArg "len" _) (wpAny_pure ?_)
  refine wpAny_bind (m := callSpecial? (.ref x) (Str.ofString "__len__")) (PySem.W.special_fn kin at_ hs (beq_iff_eq.mp hf) (wpAny_mono h (fun r s' hr => ?_) fun _ _ y => y))
  obtain ⟨n, u, rfl, h0, h1, hq⟩ := hr
  refine wpAny_bind (wpAny_holding (wpAny_pure ?_))
  refine wpAny_bind (wpAny_letGo ?_)
  show wpAny _ _ (if n < 0 then _ else _) _ _ _
  rw [if_neg (by omega)]
  show wpAny _ _ (if n ≥ 2 ^ 63 then _ else _) _ _ _
  rw [if_neg (by omega)]
  exact wpAny_bind (wpAny_mkInt (wpAny_pure ⟨_, rfl, hq⟩))
end GLen
namespace G
open PySem L2
/-- len of an instance of the class at C, by its own def -/
def rLenOwn (C : Addr) (sp : Sp) (E : XK) : List V → Hp → VK → Prop := fun xs H Q => ∃ a dx fs, xs = [V.ref a] ∧ H a = some (.ins C dx fs) ∧ sp [.ref a] H (fun z H' => ∃ n : Int, z = .int n ∧ 0 ≤ n ∧ n < 2 ^ 63 ∧ Q (.int n) H') E
theorem c_lenOwn {X : Cx} {CX : CXT} {k : Nat} {C f : Addr} {fd : FuncData} {ps : List Str} {sp : Sp} {E : XK} (hs : PySem.W.findIn X.K (.ref C) "__len__" = some (some (.ref f))) (hf : PySem.W.isFn X.K (.ref f) = true)
    (F : FnOk X.prog X.w X.K X.mg X.base CX k f fd ps sp) (hr : Room (k + 1) X.A) (hb : Binds X.K fd ps []) (hx : Passes CX X E) : CallR X (.builtin "len") (rLenOwn C sp E) := by
  intro pins s σ H xs us Q I r h
  obtain ⟨a, dx, fs, rfl, ha, q⟩ := h
  obtain ⟨u, rfl, ru⟩ := r.one
  cases (show u = Value.ref a from ru)
  obtain ⟨mA, O, _⟩ := ins_get I.hok ha
  obtain ⟨od, J, _⟩ := O.look
  have hl : ([Value.ref a] ++ []).length = ps.length := (F.len _ _ _ _ q)
  refine GLen.len_at I.kIn J hs hf (wpAny_call (codeAny_mono (F.run X.A.in1 X.stack s H ⟨[.ref a], []⟩ ([.ref a] ++ []) [.ref a] _ E hr.in1 I.env0.in1 (hb s [.ref a] I.kIn hl) (show Vals [V.ref a] ([Value.ref a] ++ []) from .cons rfl .nil) q) fun r s' hq => ?_))
  cases r with
  | error e => exact hx pins σ H s e s' I hq
  | ok fl =>
    cases fl with
    | next => exact False.elim hq
    | brk => exact False.elim hq
    | cont => exact False.elim hq
    | ret u =>
      obtain ⟨z, H', I', rz, n, e, h0, h1, hQ⟩ := I.after hq
      subst e
      obtain ⟨t, e⟩ := (show ∃ t, u = Value.int n t from rz)
      subst e
      exact ⟨n, t, rfl, h0, h1, .int n, H', I'.tok _, ⟨_, rfl⟩, hQ⟩

/-! ### instances: their attributes are data -/
inductive Fds (A : Hp) : List (Str × V) → List (Str × PyData) → Prop
  | nil : Fds A [] []
  | cons {f : Str} {v : V} {d : PyData} {fs : List (Str × V)} {ds : List (Str × PyData)} : DR A v d → Fds A fs ds → Fds A ((f, v) :: fs) ((f, d) :: ds)
theorem Fds.mono {A A' : Hp} (s : Same A A') : ∀ {fs : List (Str × V)} {ds : List (Str × PyData)}, Fds A fs ds → Fds A' fs ds
  | _, _, .nil => .nil
  | _, _, .cons a b => .cons (a.mono s) (Fds.mono s b)
theorem Fds.len {A : Hp} : ∀ {fs : List (Str × V)} {ds : List (Str × PyData)}, Fds A fs ds → fs.length = ds.length
  | _, _, .nil => rfl
  | _, _, .cons _ b => congrArg Nat.succ (Fds.len b)
def lookD (f : Str) : List (Str × PyData) → Option PyData
  | [] => none
  | (g, d) :: r => if g = f then some d else lookD f r
def putD (f : Str) (d : PyData) : List (Str × PyData) → List (Str × PyData)
  | [] => [(f, d)]
  | (g, e) :: r => if g = f then (g, d) :: r else (g, e) :: putD f d r
theorem Fds.look {A : Hp} {f : Str} : ∀ {fs : List (Str × V)} {ds : List (Str × PyData)} {d : PyData}, Fds A fs ds → lookD f ds = some d → ∃ v, fs.lookup f = some v ∧ DR A v d
  | _, _, _, .nil, h => by simp [lookD] at h
  | _, _, d, .cons (f := g) (v := v) a b, h => by
    unfold lookD at h
    by_cases e : g = f
    · rw [if_pos e] at h
      cases h
      exact ⟨v, by rw [List.lookup_cons, e, beq_self_eq_true], a⟩
    · rw [if_neg e] at h
      obtain ⟨v', h1, h2⟩ := Fds.look b h
      exact ⟨v', by rw [List.lookup_cons, beq_eq_false_iff_ne.mpr (Ne.symm e)]; exact h1, h2⟩
theorem Fds.none {A : Hp} {f : Str} : ∀ {fs : List (Str × V)} {ds : List (Str × PyData)}, Fds A fs ds → lookD f ds = none → fs.lookup f = none
  | _, _, .nil, _ => rfl
  | _, _, .cons (f := g) (v := v) a b, h => by
    unfold lookD at h
    by_cases e : g = f
    · rw [if_pos e] at h
      cases h
    · rw [if_neg e] at h
      rw [List.lookup_cons, beq_eq_false_iff_ne.mpr (Ne.symm e)]
      exact Fds.none b h
theorem Fds.put {A : Hp} {f : Str} {v : V} {d : PyData} : ∀ {fs : List (Str × V)} {ds : List (Str × PyData)}, Fds A fs ds → DR A v d → Fds A (putF f v fs) (putD f d ds)
  | _, _, .nil, h => .cons h .nil
  | _, _, .cons (f := g) (v := u) (d := e) (fs := fs) (ds := ds) a b, h => by
    show Fds A (if g = f then (g, v) :: fs else (g, u) :: putF f v fs) (if g = f then (g, d) :: ds else (g, e) :: putD f d ds)
    by_cases e : g = f
    · rw [if_pos e, if_pos e]
      exact .cons h b
    · rw [if_neg e, if_neg e]
      exact .cons a (Fds.put b h)
/-- an instance of one's own | one that stands still -/
def insG (C : Addr) (ds : List (Str × PyData)) : Gp := ⟨fun A v R => ∃ a dx fs, v = .ref a ∧ R a = some (.ins C dx fs) ∧ Fds A fs ds, fun s r ⟨a, dx, fs, e, h, t⟩ => ⟨a, dx, fs, e, r _ _ h, t.mono s⟩⟩
def objP (C : Addr) (ds : List (Str × PyData)) : Per := ⟨fun A v => ∃ a dx fs, v = .ref a ∧ A a = some (.ins C dx fs) ∧ Fds A fs ds, fun s ⟨a, dx, fs, e, h, t⟩ => ⟨a, dx, fs, e, s _ _ h, t.mono s⟩⟩
theorem frz_ins {C : Addr} {ds : List (Str × PyData)} : Frz (insG C ds) (objP C ds) := fun _ _ _ _ s r ⟨a, dx, fs, e, h, t⟩ => ⟨a, dx, fs, e, r _ _ h, t.mono s⟩
section
variable {K : PySem.W.Frag} {P : Nat → Bool} {Γ : Ga} {D : Pe} {k : Gp → Ga → Prop} {te tv : TE} {ta : TA} {C : Addr} {ds : List (Str × PyData)} {f m : Str} {n : Nat} {F : Fw} {E : XK}
/-- o.f -/
theorem we_fldP {i : Nat} {d : PyData} (c : Cls K C) (nA : NoAttr K C f) (h : Γ[i]? = some (some (per (objP C ds)))) (hl : lookD f ds = some d) (hk : k (dat d) Γ) : WE (tFld K (tVar i) f) Γ k := fun ω σ H S Q q => by
  obtain ⟨v, e, a, dx, fs, rfl, ha, hf⟩ := S.2 i _ h
  obtain ⟨u, hu, du⟩ := hf.look hl
  exact ⟨_, e, a, C, dx, fs, u, rfl, vw_H ha, c, nA, hu, q u _ Γ ω H hk S du Fr.refl⟩
theorem we_fldI {i : Nat} {d : PyData} (c : Cls K C) (nA : NoAttr K C f) (h : Γ[i]? = some (some (insG C ds))) (hl : lookD f ds = some d) (hk : k (dat d) Γ) : WE (tFld K (tVar i) f) Γ k := fun ω σ H S Q q => by
  obtain ⟨v, e, a, dx, fs, rfl, ha, hf⟩ := S.2 i _ h
  obtain ⟨u, hu, du⟩ := hf.look hl
  exact ⟨_, e, a, C, dx, fs, u, rfl, vw_H ha, c, nA, hu, q u _ Γ ω H hk S du Fr.refl⟩
/-- o.f = e, o one's own -/
theorem ws_fld {i : Nat} (c : Cls K C) (nA : NoAttr K C f) (h : WQ tv Γ fun q Γ1 => ∃ d ds, q = dP d ∧ Γ1[i]? = some (some (insG C ds)) ∧ ds.length < 1000 ∧ D.nx (Γ1.set i (some (insG C (putD f d ds))))) : WS P (sFld K (tVar i) tv f) Γ D := fun ω σ H S E m => h ω σ H S _ fun y q Γ1 ω1 H1 ⟨d, ds, eq, hi, hl, hk⟩ S1 p f1 => by
  subst eq
  obtain ⟨v, e, a, dx, fs, rfl, ha, hf⟩ := S1.2 i _ hi
  have ca := vw_c ha
  refine ⟨_, e, a, C, dx, fs, rfl, vw_H ha, c, nA, by rw [hf.len]; exact hl, ?_⟩
  have m0 : Same (vw ω1 H1 0) (vw ω1 (upd H1 a (.ins C dx (putF f y fs))) 0) := mut_same (by rw [ca]; omega)
  exact m.nx _ ω1 σ _ hk (S1.set m0 (fun j g hne _ => mut_same (by rw [ca]; omega)) e ⟨a, dx, _, rfl, vw_mk ca upd_same, (hf.put p).mono m0⟩) (f1.trans ⟨m0, mut_same (by rw [ca]; omega)⟩) Pin.refl
/-- a call with what stands still alone -/
theorem call_per {Γ1 : Ga} {ω1 : Col} {σ : L2.St} {H1 : Hp} {qs : List Per} {vs : List V} {Q : VK} {kx : Value → Prop} (S1 : Sta Γ1 ω1 σ H1) (hq : ∀ (j : Nat) (q : Per) (v : V), qs[j]? = some q → vs[j]? = some v → q.q (vw ω1 H1 0) v) (hl : vs.length = qs.length) (hn : qs.length = n)
    (hF : F (qs.map per) (fun g _ => k g Γ1) fun c _ => kx c)
    (c : ∀ v g ω' H', k g Γ1 → Sta Γ1 ω' σ H' → Gp.p g (vw ω' H' 0) v (vw ω' H' 2) → Fr ω1 ω' H1 H' → Q v H')
    (cx : ∀ cl ω' H', kx cl → Sta Γ1 ω' σ H' → Fr ω1 ω' H1 H' → E cl none H') : SpG n F vs H1 Q E := by
  have hns : ∀ qs : List Per, slots (qs.map Arg.q) = [] := fun qs => by
    induction qs with
    | nil => rfl
    | cons q qs ih => exact ih
  have hgs : ∀ qs : List Per, gsOf Γ1 (qs.map Arg.q) = qs.map per := fun qs => by
    induction qs with
    | nil => rfl
    | cons q qs ih => exact congrArg (per q :: ·) ih
  have hbk : ∀ (qs : List Per) (Γp : Ga), back Γ1 (qs.map Arg.q) Γp = Γ1 := fun qs => by
    induction qs with
    | nil => intro Γp; rfl
    | cons q qs ih => intro Γp; cases Γp with
      | nil => exact ih []
      | cons o r => exact ih r
  have hok : ∀ (qs : List Per) (vs : List V), vs.length = qs.length → (∀ (j : Nat) (q : Per) (v : V), qs[j]? = some q → vs[j]? = some v → q.q (vw ω1 H1 0) v) → ArgsOk σ (vw ω1 H1 0) (qs.map Arg.q) vs := fun qs => by
    induction qs with
    | nil => intro vs hl _; rw [List.eq_nil_of_length_eq_zero hl]; exact .nil
    | cons q qs ih => intro vs hl h; cases vs with
      | nil => cases hl
      | cons v vs => exact .cons (h 0 q v rfl rfl) (ih vs (Nat.succ.inj hl) fun j q' v' a b => h (j + 1) q' v' (by simpa using a) (by simpa using b))
  refine call_core (as := qs.map Arg.q) (k := fun g Γ' => Γ' = Γ1 ∧ k g Γ1) (kx := fun cl Γ' => Γ' = Γ1 ∧ kx cl) S1 (hok qs vs hl hq) (by rw [List.length_map]; exact hn) (by rw [hns]; exact List.nodup_nil) ?_ (fun v g Γ' ω' H' ⟨e, hk⟩ S' p f => ?_) fun cl Γ' ω' H' ⟨e, hx⟩ S' f => ?_
  · rw [hgs]
    have e1 : (fun g Γp => back Γ1 (qs.map Arg.q) Γp = Γ1 ∧ k g Γ1) = fun g _ => k g Γ1 := by
      funext g Γp
      rw [hbk]
      exact propext ⟨fun h => h.2, fun h => ⟨rfl, h⟩⟩
    have e2 : (fun cl Γp => back Γ1 (qs.map Arg.q) Γp = Γ1 ∧ kx cl) = fun cl _ => kx cl := by
      funext g Γp
      rw [hbk]
      exact propext ⟨fun h => h.2, fun h => ⟨rfl, h⟩⟩
    rw [e1, e2]
    exact hF
  · subst e
    exact c v g ω' H' hk S' p f
  · subst e
    exact cx cl ω' H' hx S' f
/-- len(o) -/
theorem we_lenO {i : Nat} (h : Γ[i]? = some (some (per (objP C ds)))) (hF : F [per (objP C ds)] (fun g _ => ∃ n : Int, g = dat (.int n) ∧ 0 ≤ n ∧ n < 2 ^ 63 ∧ k (dat (.int n)) Γ) fun _ _ => False) : WE (tCB (rLenOwn C (SpG 1 F) E) (tCons (tVar i) tNil)) Γ k := fun ω σ H S Q q => by
  obtain ⟨v, e, hp⟩ := S.2 i _ h
  have hp' := hp
  obtain ⟨a, dx, fs, rfl, ha, hf⟩ := hp'
  refine ⟨_, e, a, dx, fs, rfl, vw_H ha, call_per (qs := [objP C ds]) (k := fun g _ => ∃ n : Int, g = dat (.int n) ∧ 0 ≤ n ∧ n < 2 ^ 63 ∧ k (dat (.int n)) Γ) (kx := fun _ => False) S (fun j q v h1 h2 => ?_) rfl rfl hF (fun v g ω' H' ⟨n, eg, h0, h1, hk⟩ S' p f => ?_) fun _ _ _ hx => hx.elim⟩
  · match j, h1, h2 with
    | 0, h1, h2 =>
      cases h1
      cases h2
      exact hp
    | j + 1, h1, _ => simp at h1
  · subst eg
    cases DR.int_inv p
    exact ⟨n, rfl, h0, h1, q _ _ Γ ω' H' hk S' (DR.int n) f⟩
/-- o.f, a property -/
theorem we_prop {i : Nat} (h : Γ[i]? = some (some (per (objP C ds)))) (hF : F [per (objP C ds)] (fun g _ => k g Γ) fun _ _ => False) : WE (tProp C (SpG 1 F) [] E (tVar i)) Γ k := fun ω σ H S Q q => by
  obtain ⟨v, e, hp⟩ := S.2 i _ h
  have hp' := hp
  obtain ⟨a, dx, fs, rfl, ha, hf⟩ := hp'
  refine ⟨_, e, a, dx, fs, rfl, vw_H ha, call_per (qs := [objP C ds]) (k := k) (kx := fun _ => False) S (fun j q v h1 h2 => ?_) rfl rfl hF (fun v g ω' H' hk S' p f => q v g Γ ω' H' hk S' p f) fun _ _ _ hx => hx.elim⟩
  match j, h1, h2 with
  | 0, h1, h2 =>
    cases h1
    cases h2
    exact hp
  | j + 1, h1, _ => simp at h1
end
end G

/-! ### len(set(xs)), xs a list of tuples of ints -/
namespace GSet
open PySem PySem.Spec PyProof.Rows L2
end GSet

namespace G
open PySem L2
section
variable {K : PySem.W.Frag} {P : Nat → Bool} {Γ : Ga} {D : Pe} {k : Gp → Ga → Prop} {ta tb te tl : TE} {tr : TA} {C : Addr} {n : Nat} {F : Fw} {E : XK}
theorem ties_keys {A : Hp} : ∀ {ts : List (Int × Int)} {vs : List V}, DRs A vs (ts.map tieD) → ∃ ks : List (Addr × List Int), vs = ks.map (fun p => V.ref p.1) ∧ ks.map (·.2) = ts.map (fun t => [t.1, t.2]) ∧ ∀ p ∈ ks, A p.1 = some (.tup (p.2.map V.int))
  | [], _, h => by cases h; exact ⟨[], rfl, rfl, by simp⟩
  | t :: ts, _, h => by
    cases h with | cons x y =>
    obtain ⟨_, a, rfl, ha⟩ := key_tie x
    obtain ⟨ks, rfl, e, hk⟩ := ties_keys y
    refine ⟨(a, [t.1, t.2]) :: ks, rfl, by simp [e], fun p hp => ?_⟩
    rcases List.mem_cons.mp hp with e | hp
    · rw [e]; exact ha
    · exact hk p hp
theorem nodup_len : ∀ (l D : List (List Int)), l.Nodup → (∀ x ∈ l, x ∈ D) → l.length ≤ D.length
  | [], D, _, _ => Nat.zero_le _
  | a :: l, D, h, hs => by
    have ha : a ∈ D := hs a (by simp)
    obtain ⟨h1, h2⟩ := List.nodup_cons.mp h
    have := nodup_len l (D.erase a) h2 fun x hx => (List.mem_erase_of_ne (fun (e : x = a) => h1 (e ▸ hx))).mpr (hs x (by simp [hx]))
    rw [List.length_erase_of_mem ha] at this
    have hp : 0 < D.length := List.length_pos_of_mem ha
    simp only [List.length_cons]
    omega
/-! ### slices of lists -/
def cutD {α : Type} (xs : List α) (lo hi : Option Int) : List α := (xs.drop (HT.sIx xs.length 0 lo)).take (HT.sIx xs.length xs.length hi - HT.sIx xs.length 0 lo)
def WO (to : TO) (Γ : Ga) (k : Option Int → Ga → Prop) : Prop := ∀ ω σ H, Sta Γ ω σ H → ∀ Q : Option Int → Hp → Prop, (∀ o Γ' ω' H', k o Γ' → Sta Γ' ω' σ H' → Fr ω ω' H H' → Q o H') → to σ H Q
theorem wo_none {ko : Option Int → Ga → Prop} (h : ko none Γ) : WO tNoPart Γ ko := fun ω σ H S Q f => f none Γ ω H h S Fr.refl
theorem wo_some {ko : Option Int → Ga → Prop} (h : WQ te Γ fun q Γ1 => ∃ i : Int, q = dP (.int i) ∧ ko (some i) Γ1) : WO (tPart te) Γ ko := fun ω σ H S Q f => h ω σ H S _ fun v q Γ1 ω1 H1 ⟨i, e, hk⟩ S1 p f1 => by
  subst e
  exact ⟨i, DR.int_inv p, f (some i) Γ1 ω1 H1 hk S1 f1⟩
theorem we_slice {tlo thi : TO} (h : WQ te Γ fun q Γ1 => ∃ ds, q = dP (.list ds) ∧ WO tlo Γ1 fun lo Γ2 => WO thi Γ2 fun hi Γ3 => k (own (cutD ds lo hi)) Γ3) : WE (tSl (rSlL K) te tlo thi) Γ k := fun ω σ H S Q f => h ω σ H S _ fun v q Γ1 ω1 H1 ⟨ds, e, h1⟩ S1 p f1 => by
  subst e
  obtain ⟨a, xs, rfl, ha, hd⟩ := DR.lst_inv p
  refine h1 ω1 σ H1 S1 _ fun lo Γ2 ω2 H2 h2 S2 f2 => h2 ω2 σ H2 S2 _ fun hi Γ3 ω3 H3 h3 S3 f3 => ?_
  have hA := (f2.trans f3).1 _ _ ha
  refine ⟨a, xs, rfl, SqL.of (vw_H hA), fun l hl => f _ _ Γ3 (paint ω3 l 2) _ h3 (S3.new 2 hl) ⟨l, _, rfl, paint_at, ?_⟩ ((f1.trans (f2.trans f3)).trans (paint_fr hl))⟩
  have e : cutV xs lo hi = (xs.drop (HT.sIx ds.length 0 lo)).take (HT.sIx ds.length ds.length hi - HT.sIx ds.length 0 lo) := by
    unfold cutV
    rw [hd.length]
  rw [e]
  exact (((hd.mono (f2.trans f3).1).drop _).take _).mono (paint_same hl 0)
/-! ### zip of two lists -/
/-! ### C(..) -/
def qsOf : List Arg → List Per
  | [] => []
  | .q q :: as => q :: qsOf as
  | .s _ :: as => qsOf as
def cInM (ω : Col) (x : Addr) : Col := fun b => if b = x then 3 else if ω b = 0 then 0 else 1
theorem we_make (h : WA tr Γ fun as Γ1 => as.length = n ∧ slots as = [] ∧ F (insG C [] :: (qsOf as).map per) (fun g Γp => g = dat .none ∧ ∃ g0, Γp[0]? = some (some g0) ∧ k g0 Γ1) fun _ _ => False) : WE (tMake C (SpG (n + 1) F) [] E tr) Γ k := fun ω σ H S Q f => h ω σ H S _ fun vs as Γ1 ω1 H1 ⟨hn, hs, hF⟩ S1 a f1 x dx nx ndx ne => by
  show SpG (n + 1) F (.ref x :: (vs ++ [])) _ _ E
  rw [List.append_nil]
  have hall : ∀ {as : List Arg} {vs : List V}, slots as = [] → ArgsOk σ (vw ω1 H1 0) as vs → (qsOf as).length = vs.length ∧ as.length = vs.length ∧ ∀ (j : Nat) (q : Per) (v : V), (qsOf as)[j]? = some q → vs[j]? = some v → q.q (vw ω1 H1 0) v := fun {as} => by
    induction as with
    | nil => intro vs _ h; cases h; exact ⟨rfl, rfl, fun j q v e => by simp [qsOf] at e⟩
    | cons b as ih =>
      intro vs hs h
      cases h with | cons y z =>
      cases b with
      | s i => cases hs
      | q q =>
        obtain ⟨l1, l2, l3⟩ := ih hs z
        refine ⟨by simp [qsOf, l1], by simp [l2], fun j q' v e1 e2 => ?_⟩
        match j, e1, e2 with
        | 0, e1, e2 =>
          cases e1
          cases e2
          exact y
        | j + 1, e1, e2 => exact l3 j q' v (by simpa [qsOf] using e1) (by simpa using e2)
  obtain ⟨l1, l2, l3⟩ := hall hs a
  generalize hH : upd (upd H1 dx (.own x)) x (.ins C dx []) = H2
  have old : Same H1 H2 := fun b o e => by
    rw [← hH, upd_ne (ne_of_none e nx), upd_ne (ne_of_none e ndx)]
    exact e
  have i0 : Same (vw ω1 H1 0) (vw (cInM ω1 x) H2 0) := fun b o e => vw_mk (by unfold cInM; rw [if_neg (ne_of_none (vw_H e) nx), if_pos (vw_c e)]) (old _ _ (vw_H e))
  refine ⟨_, _, _, cInM ω1 x, by simp [← l2, hn], hF, ⟨by simp [l1], fun j g v hg hv => ?_⟩, fun v g Γp ω' H' ⟨eg, g0, hg0, hk⟩ he p f2 => ?_, fun _ _ _ _ hx => hx.elim⟩
  · match j, hg, hv with
    | 0, hg, hv =>
      cases hg
      cases hv
      exact ⟨x, dx, [], rfl, vw_mk (by unfold cInM; rw [if_pos rfl]) (by rw [← hH]; exact upd_same), .nil⟩
    | j + 1, hg, hv =>
      have hg' : ((qsOf as).map per)[j]? = some g := by simpa using hg
      rw [List.getElem?_map] at hg'
      cases e : (qsOf as)[j]? with
      | none => rw [e] at hg'; cases hg'
      | some q =>
        rw [e] at hg'
        cases hg'
        exact q.mono i0 (l3 j q v e (by simpa using hv))
  · subst eg
    refine ⟨DR.non_inv p, ?_⟩
    have p0 := he 0 g0 (.ref x) hg0 rfl
    -- back at the caller's colours
    let ω2 : Col := fun b => if (H1 b).isSome = true ∧ ω1 b ≠ 0 then ω1 b else if ω' b = 3 then 2 else 0
    have keep : ∀ c, c ≠ 0 → Same (vw ω1 H1 c) (vw ω2 H' c) := fun c h0 b o e => by
      have z := f2.2 b o (vw_mk (by unfold cInM; rw [if_neg (ne_of_none (vw_H e) nx), if_neg (by rw [vw_c e]; exact h0)]) (old _ _ (vw_H e)))
      refine vw_mk ?_ (vw_H z)
      show (if _ then _ else _) = c
      rw [if_pos ⟨by rw [vw_H e]; rfl, by rw [vw_c e]; exact h0⟩]
      exact vw_c e
    have k0 : Same (vw ω1 H1 0) (vw ω2 H' 0) := fun b o e => by
      have z := f2.1 b o (i0 b o e)
      refine vw_mk ?_ (vw_H z)
      show (if _ then _ else _) = 0
      rw [if_neg (by rw [vw_c e]; intro q; exact q.2 rfl), vw_c z]
      rfl
    have ofc : ∀ c d, c ≠ 1 → (if c = 3 then 2 else 0) = d → Same (vw ω' H' c) (vw ω2 H' d) := fun c d h1 hd b o e => by
      refine vw_mk ?_ (vw_H e)
      show (if _ then _ else _) = d
      rw [if_neg, vw_c e]
      · exact hd
      · intro ⟨q1, q2⟩
        obtain ⟨u, hu⟩ := Option.isSome_iff_exists.mp q1
        have z := f2.2 b u (vw_mk (by unfold cInM; rw [if_neg (ne_of_none hu nx), if_neg q2]) (old _ _ hu))
        exact h1 ((vw_c e).symm.trans (vw_c z))
    exact f (.ref x) g0 Γ1 ω2 H' hk (S1.move k0 fun i _ _ => keep _ (by omega)) (g0.mono (ofc 0 0 (by decide) rfl) (ofc 3 2 (by decide) rfl) p0) (f1.trans ⟨k0, keep 1 (by decide)⟩)
end
end G

namespace G
open PySem L2
/-! ### statements that may raise: Ex is the def's own wish, kx what is to hold where one of its own is raised -/
def XM (P : Nat → Bool) (Ex : XK) (kx : Value → Ga → Prop) (ω : Col) (σ : L2.St) (H : Hp) : Prop := ∀ c Γ' ω' σ' H', kx c Γ' → Sta Γ' ω' σ' H' → Fr ω ω' H H' → Pin P σ σ' → Ex c none H'
theorem XM.after {P : Nat → Bool} {Ex : XK} {kx : Value → Ga → Prop} {ω ω1 : Col} {σ σ1 : L2.St} {H H1 : Hp} (m : XM P Ex kx ω σ H) (f : Fr ω ω1 H H1) (p : Pin P σ σ1) : XM P Ex kx ω1 σ1 H1 :=
  fun c Γ' ω' σ' H' h S g q => m c Γ' ω' σ' H' h S (f.trans g) (p.trans q)
def WSX (P : Nat → Bool) (t : TS) (Ex : XK) (Γ : Ga) (D : Pe) (kx : Value → Ga → Prop) : Prop := ∀ ω σ H, Sta Γ ω σ H → XM P Ex kx ω σ H → ∀ E : Ends, Met P D ω σ H E → t E σ H
section
variable {K : PySem.W.Frag} {P : Nat → Bool} {Γ : Ga} {D : Pe} {Ex : XK} {kx : Value → Ga → Prop} {c : TT} {t u : TS} {ta : TA} {n : Nat} {F : Fw} {g : TG} {k : Gp → Ga → Prop}
theorem wsx_of (h : WS P t Γ D) : WSX P t Ex Γ D kx := fun ω σ H S _ E m => h ω σ H S E m
theorem wsx_seq (h : WSX P t Ex Γ (D.to fun Γ' => WSX P u Ex Γ' D kx) kx) : WSX P (tSeq t u) Ex Γ D kx := fun ω σ H S x E m =>
  h ω σ H S x { E with nx := u E } ⟨fun Γ' ω' σ' H' hk S' f p => (show WSX P u Ex Γ' D kx from hk) ω' σ' H' S' (x.after f p) E (m.after f p), m.rt, m.bk, m.ct⟩
theorem wsx_if (h : WT c Γ fun b Γ' => if b = true then WSX P t Ex Γ' D kx else WSX P u Ex Γ' D kx) : WSX P (tIfS c t u) Ex Γ D kx := fun ω σ H S x E m => h ω σ H S _ fun b Γ' ω' H' hk S' f => by
  cases b with
  | true => exact iteT ((show WSX P t Ex Γ' D kx from hk) ω' σ H' S' (x.after f Pin.refl) E (m.after f Pin.refl))
  | false => exact iteF ((show WSX P u Ex Γ' D kx from hk) ω' σ H' S' (x.after f Pin.refl) E (m.after f Pin.refl))
theorem wsx_raise {cl : Value} (h : kx cl Γ) : WSX P (tRaise Ex cl) Ex Γ D kx := fun ω σ H S x E m => x cl Γ ω σ H h S Fr.refl Pin.refl
/-- f(..), which may raise -/
theorem wsx_call (h : WA ta Γ fun as Γ1 => as.length = n ∧ (slots as).Nodup ∧ F (gsOf Γ1 as) (fun g Γp => D.nx (back Γ1 as Γp)) fun cl Γp => kx cl (back Γ1 as Γp)) : WSX P (tDrop (tCall (SpG n F) [] Ex ta)) Ex Γ D kx := fun ω σ H S x E m => h ω σ H S _ fun vs as Γ1 ω1 H1 ⟨hn, nd, hF⟩ S1 a f1 => by
  show SpG n F (vs ++ []) H1 _ Ex
  rw [List.append_nil]
  exact call_core (k := fun _ Γ' => D.nx Γ') (kx := kx) S1 a hn nd hF (fun v g Γ' ω' H' hk S' p f2 => m.nx Γ' ω' σ H' hk S' (f1.trans f2) Pin.refl) fun cl Γ' ω' H' hx S' f2 => x cl Γ' ω' σ H' hx S' (f1.trans f2) Pin.refl
/-- the promise of a def that may raise -/
theorem body_okX (P : Nat → Bool) {t : TS} {N : List Str} {vs : List V} {H : Hp} {Q : VK} {E : XK}
    (h : ∀ gs kk xx, F gs kk xx → gs.length = n → WSX P t E (gs.map some ++ List.replicate (N.length - n) none) ⟨fun Γ => ∃ Γp, Les (mask P n Γ) Γp ∧ kk (dat .none) Γp, fun g Γ => ∃ g' Γp, Ent g g' ∧ Les (mask P n Γ) Γp ∧ kk g' Γp, fun _ => False, fun _ => False⟩
      fun cl Γ => ∃ Γp, Les (mask P n Γ) Γp ∧ xx cl Γp) (hs : SpG n F vs H Q E) :
    t { nx := fun _ H' => Q .non H', rt := Q } (start N vs) H := by
  obtain ⟨gs, kk, xx, ω, hn, hF, hp, hq, hx⟩ := hs
  have S := par_sta (N := N) hp
  rw [hn] at S
  have stv : ∀ (i : Nat) (v : V), vs[i]? = some v → (start N vs)[i]? = some (some v) := fun i v e => by
    have hi := (List.getElem?_eq_some_iff.mp e).1
    unfold L2.start
    rw [List.getElem?_append_left (by simpa using hi), List.getElem?_map, e]
    rfl
  have en : ∀ (Γ' : Ga) (ω' : Col) (σ' : L2.St) (H' : Hp), Sta Γ' ω' σ' H' → Pin P (start N vs) σ' → EndOk (mask P n Γ') ω' H' vs := fun Γ' ω' σ' H' S' pi i g v hg hv => by
    obtain ⟨_, hP, hg⟩ := mask_get hg
    obtain ⟨v', e, p⟩ := S'.2 i g hg
    rw [pi.2 i hP, stv i v hv] at e
    cases e
    exact p
  refine h gs kk xx hF (by rw [hp.1, hn]) ω _ H S (fun cl Γ' ω' σ' H' ⟨Γp, l, hk⟩ S' f pi => hx cl Γp ω' H' hk ((en Γ' ω' σ' H' S' pi).les l) f) _ ⟨fun Γ' ω' σ' H' ⟨Γp, l, hk⟩ S' f pi => ?_, fun v g Γ' ω' σ' H' ⟨g', Γp, eg, l, hk⟩ S' p f pi => ?_, fun _ _ _ _ hk => hk.elim, fun _ _ _ _ hk => hk.elim⟩
  · exact hq .non _ _ ω' H' hk ((en Γ' ω' σ' H' S' pi).les l) DR.non f
  · exact hq v g' _ ω' H' hk ((en Γ' ω' σ' H' S' pi).les l) (eg _ _ _ p) f
/-! ### try: f(..) except C: .. -/
end
end G

namespace G
open PySem L2
/-! ### a list of one's own, of lists of one's own -/
def In2 (A R : Hp) (bs : List Addr) (dss : List (List PyData)) : Prop := bs.length = dss.length ∧ ∀ (i : Nat) (b : Addr) (ds : List PyData), bs[i]? = some b → dss[i]? = some ds → ∃ ys, R b = some (.lst ys) ∧ DRs A ys ds
theorem In2.mono {A A' R R' : Hp} {bs : List Addr} {dss : List (List PyData)} (s : Same A A') (r : Same R R') (h : In2 A R bs dss) : In2 A' R' bs dss := ⟨h.1, fun i b ds e1 e2 => by
  obtain ⟨ys, h1, h2⟩ := h.2 i b ds e1 e2
  exact ⟨ys, r _ _ h1, h2.mono s⟩⟩
def own2 (dss : List (List PyData)) : Gp := ⟨fun A v R => ∃ a bs, v = .ref a ∧ R a = some (.lst (bs.map V.ref)) ∧ (a :: bs).Nodup ∧ In2 A R bs dss, fun s r q => by
  obtain ⟨a, bs, e, h, n, t⟩ := q
  exact ⟨a, bs, e, r _ _ h, n, t.mono s r⟩⟩
theorem frz_own2 {dss : List (List PyData)} : Frz (own2 dss) (dP (.list (dss.map PyData.list))) := fun A v R A' s r q => by
  obtain ⟨a, bs, e, h, n, t⟩ := q
  subst e
  refine DR.lst (r _ _ h) ?_
  have key : ∀ (bs : List Addr) (dss : List (List PyData)), In2 A R bs dss → DRs A' (bs.map V.ref) (dss.map PyData.list) := fun bs => by
    induction bs with
    | nil => intro dss z; cases dss with
      | nil => exact .nil
      | cons d dss => cases z.1
    | cons b bs ih => intro dss z; cases dss with
      | nil => cases z.1
      | cons d dss =>
        obtain ⟨ys, h1, h2⟩ := z.2 0 b d rfl rfl
        exact .cons (.lst (r _ _ h1) (h2.mono s)) (ih dss ⟨Nat.succ.inj z.1, fun i b' d' e1 e2 => z.2 (i + 1) b' d' (by simpa using e1) (by simpa using e2)⟩)
  exact key bs dss t
section
variable {K : PySem.W.Frag} {P : Nat → Bool} {Γ : Ga} {D : Pe} {k : Gp → Ga → Prop} {te : TE} {g : TG}
/-- [[] for .. in ..] -/
theorem we_lcE {wi : TI} {vs : List Nat} (Pv : Nat → Ga → Prop) (h : WI wi Γ fun n it Γ1 => n < 100000 ∧ Pv 0 Γ1 ∧ (∀ Γ2, Pv n Γ2 → k (own2 (List.replicate n [])) Γ2) ∧ ∀ i Γ2, i < n → Pv i Γ2 → Γ2.length = Γ.length →
    WG (fun i => !vs.contains i) g (it i) (wipeG Γ2 vs) fun Γ3 => Pv (i + 1) (wipeG Γ3 vs)) :
    WE (tLc wi g tYes (tLst tNil) vs) Γ k := fun ω σ H S Q f => h ω σ H S _ fun J n it Γ1 ω1 H1 ⟨hn, h0, hd, hs⟩ S1 W f1 => by
  intro L hL
  have hlen : ∀ {Γ2 : Ga} {ω2 : Col} {σ2 : L2.St} {H2 : Hp}, Sta Γ2 ω2 σ2 H2 → σ2.length = σ.length → Γ2.length = Γ.length := fun {Γ2 ω2 σ2 H2} S2 e => by rw [← S2.1, e, S.1]
  refine ⟨fun i μ H' => μ = n - i ∧ i ≤ n ∧ ∃ bs Γ2 ω2, Pv i Γ2 ∧ Sta Γ2 ω2 σ H' ∧ Fr ω1 ω2 H1 H' ∧ (ω2 L = 1 ∧ H' L = some (.lst (bs.map V.ref))) ∧ bs.length = i ∧ (L :: bs).Nodup ∧ (∀ b ∈ bs, ω2 b = 1 ∧ H' b = some (.lst [])) ∧ ∀ a o, vw ω1 H1 1 a = some o → a ∉ L :: bs,
    ⟨n, by simp, Nat.zero_le _, [], Γ1, paint ω1 L 1, h0, S1.new 1 hL, paint_fr hL, ⟨by unfold paint; rw [if_pos rfl], upd_same⟩, rfl, by simp, by simp, fun a o z => by simpa using ne_of_none (vw_H z) hL⟩, ?_⟩
  rintro i μ H' ⟨rfl, hi, bs, Γ2, ω2, p2, S2, f2, ⟨c2, e2⟩, l2, n2, b2, a2⟩
  have sA : Same (vw ω1 H1 0) H' := fun a o e => vw_H (f2.1 a o e)
  by_cases hlt : i < n
  · refine .inr ⟨((W i H' sA).1 hlt).1, fun H'' => ∃ bs Γ2 ω2, Pv (i + 1) Γ2 ∧ Sta Γ2 ω2 σ H'' ∧ Fr ω1 ω2 H1 H'' ∧ (ω2 L = 1 ∧ H'' L = some (.lst (bs.map V.ref))) ∧ bs.length = i + 1 ∧ (L :: bs).Nodup ∧ (∀ b ∈ bs, ω2 b = 1 ∧ H'' b = some (.lst [])) ∧ ∀ a o, vw ω1 H1 1 a = some o → a ∉ L :: bs,
      fun H'' z => ⟨n - (i + 1), by omega, rfl, hlt, z⟩, fun x H'' y => ?_⟩
    obtain ⟨ω3, S3, f3, q3⟩ := yld_ok W rfl f2 S2 hlt y
    refine hs i Γ2 hlt p2 (hlen S2 rfl) ω3 _ H'' x (S3.wipe vs) q3 _ fun Γ4 ω4 σ4 H4 h4 S4 f4 q4 => ?_
    obtain ⟨S5, ew⟩ := S4.unwipe q4
    refine ⟨ew, ?_⟩
    unfold tYes
    refine iteT ?_
    refine ⟨by simp, fun p hp => ?_⟩
    have f24 : Fr ω2 ω4 H' H4 := f3.trans f4
    have zL := f24.2 L _ (vw_mk c2 e2)
    have nL : L ≠ p := ne_of_none (vw_H zL) hp
    have zb : ∀ b ∈ bs, vw ω4 H4 1 b = some (.lst []) := fun b hb => f24.2 b _ (vw_mk (b2 b hb).1 (b2 b hb).2)
    have nb : ∀ b ∈ bs, b ≠ p := fun b hb => ne_of_none (vw_H (zb b hb)) hp
    have f14 : Fr ω1 ω4 H1 H4 := f2.trans f24
    refine ⟨bs.map V.ref, by rw [upd_ne nL]; exact vw_H zL, by rw [List.length_map, l2]; exact Nat.lt_of_lt_of_le (by omega : i < 100000) (by decide), bs ++ [p], _, paint ω4 p 1, h4, ?_, ?_, ⟨?_, ?_⟩, by simp [l2], ?_, ?_, ?_⟩
    · have S6 := ((S4.unwipe q4).1.new 1 (o := .lst []) hp)
      have cL : paint ω4 p 1 L = 1 := by unfold paint; rw [if_neg nL]; exact vw_c zL
      exact S6.move (mut_same (by rw [cL]; decide)) fun i g _ => mut_same (by rw [cL]; omega)
    · have cL : paint ω4 p 1 L = 1 := by unfold paint; rw [if_neg nL]; exact vw_c zL
      refine ⟨(f14.1.trans (paint_same hp 0)).trans (mut_same (by rw [cL]; decide)), fun a o z => ?_⟩
      have z' := f14.2 a o z
      have h1 := a2 a o z
      have h2 : a ≠ L := fun e => h1 (by simp [e])
      have h3 : a ≠ p := ne_of_none (vw_H z') hp
      exact vw_mk (by unfold paint; rw [if_neg h3]; exact vw_c z') (by rw [upd_ne h2, upd_ne h3]; exact vw_H z')
    · unfold paint; rw [if_neg nL]; exact vw_c zL
    · rw [upd_same]
      simp
    · rw [List.nodup_cons] at n2 ⊢
      refine ⟨by simp [n2.1, nL], List.nodup_append.mpr ⟨n2.2, by simp, fun a ha b hb => ?_⟩⟩
      simp at hb
      subst hb
      exact nb a ha
    · intro b hb
      rcases List.mem_append.mp hb with hb | hb
      · have hne : b ≠ L := fun e => (List.nodup_cons.mp n2).1 (e ▸ hb)
        refine ⟨by unfold paint; rw [if_neg (nb b hb)]; exact vw_c (zb b hb), by rw [upd_ne hne, upd_ne (nb b hb)]; exact vw_H (zb b hb)⟩
      · simp at hb
        subst hb
        exact ⟨by unfold paint; rw [if_pos rfl], by rw [upd_ne (Ne.symm nL), upd_same]⟩
    · intro a o z hm
      have z' := f14.2 a o z
      have h3 : a ≠ p := ne_of_none (vw_H z') hp
      rcases List.mem_cons.mp hm with e | hm
      · exact a2 a o z (by simp [e])
      · rcases List.mem_append.mp hm with hm | hm
        · exact a2 a o z (by simp [hm])
        · simp at hm; exact h3 hm
  · have e : i = n := by omega
    subst e
    refine .inl ⟨(W i H' sA).2 (Nat.le_refl _), ?_⟩
    let ω3 : Col := fun b => if b ∈ L :: bs then 2 else ω2 b
    have c1 : ∀ b ∈ L :: bs, ω2 b = 1 := fun b hb => by
      rcases List.mem_cons.mp hb with e | hb
      · rw [e]; exact c2
      · exact (b2 b hb).1
    have pn : ∀ c, c ≠ 1 → Same (vw ω2 H' c) (vw ω3 H' c) := fun c hc a o z => by
      refine vw_mk ?_ (vw_H z)
      show (if _ then _ else _) = c
      rw [if_neg]
      · exact vw_c z
      · intro e
        exact hc ((vw_c z).symm.trans (c1 a e))
    refine f (.ref L) (own2 (List.replicate i [])) Γ2 ω3 H' (hd Γ2 p2) (S2.move (pn 0 (by decide)) fun i _ _ => pn _ (by omega)) ⟨L, bs, rfl, vw_mk (by show (if _ then _ else _) = _; rw [if_pos (by simp)]) e2, n2, by simp [l2], fun j b ds e1 e3 => ?_⟩ (f1.trans ⟨f2.1.trans (pn 0 (by decide)), fun a o z => ?_⟩)
    · have hb := List.mem_of_getElem? e1
      have : ds = [] := by
        rw [List.getElem?_replicate] at e3
        split at e3 <;> simp_all
      subst this
      exact ⟨[], vw_mk (by show (if _ then _ else _) = _; rw [if_pos (by simp [hb])]) (b2 b hb).2, .nil⟩
    · have z' := f2.2 a o z
      refine vw_mk ?_ (vw_H z')
      show (if _ then _ else _) = _
      rw [if_neg (a2 a o z)]
      exact vw_c z'
/-- xs[j].append(y) -/
theorem we_apAt {i p : Nat} {dss0 : List (List PyData)} (h : Γ[i]? = some (some (own2 dss0))) (ht : WQ te Γ fun q Γ1 => ∃ j m dss ds d, q = dP (.int j) ∧ Γ1[i]? = some (some (own2 dss)) ∧ ixN dss.length j = some m ∧ dss[m]? = some ds ∧ Γ1[p]? = some (some (dat d)) ∧ ds.length < 100000 ∧
      k (dat .none) (Γ1.set i (some (own2 (dss.set m (ds ++ [d])))))) : WE (tBM K "list" rAppend (tOp (rIx K) (tVar i) te) (tCons (tVar p) tNil)) Γ k := fun ω σ H S Q f => by
  obtain ⟨v, e, _⟩ := S.2 i _ h
  refine ⟨v, e, ht ω σ H S _ fun w q Γ1 ω1 H1 ⟨j, m, dss, ds, d, eq, hi, hj, hm, hp, hl, hk⟩ S1 pq f1 => ?_⟩
  subst eq
  cases DR.int_inv pq
  obtain ⟨v', e', p'⟩ := S1.2 i _ hi
  rw [e] at e'
  cases e'
  obtain ⟨a, bs, rfl, hr, nd, hb⟩ := p'
  obtain ⟨y, ey, hy⟩ := S1.2 p _ hp
  have hlen := hb.1
  obtain ⟨b, hbm⟩ : ∃ b, bs[m]? = some b := ⟨bs[m]'(by rw [hlen]; exact (List.getElem?_eq_some_iff.mp hm).1), by simp⟩
  obtain ⟨ys, hys, hds⟩ := hb.2 m b ds hbm hm
  have cb := vw_c hys
  refine .inl ⟨a, bs.map V.ref, j, .ref b, rfl, rfl, SqL.of (vw_H hr), ?_, .inl ⟨rfl, ys, SqL.of (vw_H hys)⟩, y, ey, b, ys, y, rfl, rfl, vw_H hys, by rw [hds.length]; exact Nat.lt_of_lt_of_le hl (by decide), ?_⟩
  · unfold atI
    rw [List.length_map, hlen, hj]
    show (bs.map V.ref)[m]? = _
    rw [List.getElem?_map, hbm]
    rfl
  · have m0 : Same (vw ω1 H1 0) (vw ω1 (upd H1 b (.lst (ys ++ [y]))) 0) := mut_same (by rw [cb]; omega)
    have hmem := List.mem_of_getElem? hbm
    obtain ⟨nd1, nd2⟩ := List.nodup_cons.mp nd
    have hab : a ≠ b := fun e => nd1 (e ▸ hmem)
    refine f .non _ _ ω1 _ hk (S1.set m0 (fun j' g' hne _ => mut_same (by rw [cb]; omega)) e ⟨a, bs, rfl, vw_mk (vw_c hr) (by rw [upd_ne hab]; exact vw_H hr), nd, by rw [List.length_set]; exact hlen, fun t b' ds' e1 e2 => ?_⟩) DR.non (f1.trans ⟨m0, mut_same (by rw [cb]; omega)⟩)
    rw [List.getElem?_set] at e2
    by_cases htm : m = t
    · subst htm
      rw [hbm] at e1
      cases e1
      rw [if_pos rfl] at e2
      split at e2
      · cases e2
        exact ⟨ys ++ [y], vw_mk cb upd_same, (hds.mono m0).snoc (DR.mono m0 d hy)⟩
      · cases e2
    · rw [if_neg htm] at e2
      obtain ⟨zs, h1, h2⟩ := hb.2 t b' ds' e1 e2
      have hne : b' ≠ b := fun e => by
        subst e
        have ht := (List.getElem?_eq_some_iff.mp e1).1
        exact htm ((List.getElem?_inj (i := m) (j := t) (List.getElem?_eq_some_iff.mp hbm).1 nd2).mp (hbm.trans e1.symm))
      exact ⟨zs, vw_mk (vw_c h1) (by rw [upd_ne hne]; exact vw_H h1), h2.mono m0⟩
end
end G

namespace G
open PySem L2
section
variable {K : PySem.W.Frag} {Γ : Ga} {k : Gp → Ga → Prop} {ta tb tc : TE} {r r' : R2}
theorem we_chain (h : WQ ta Γ fun q Γ1 => ∃ d, q = dP d ∧ WQ tb Γ1 fun q2 Γ2 => ∃ d2 b, q2 = dP d2 ∧ OpD r d d2 (dP (.bool b)) ∧ if b = true then WQ tc Γ2 fun q3 Γ3 => ∃ d3 b3, q3 = dP d3 ∧ OpD r' d2 d3 (dP (.bool b3)) ∧ k (dat (.bool b3)) Γ3 else k (dat (.bool false)) Γ2) :
    WE (tChain r r' ta tb tc) Γ k := fun ω σ H S Q f => h ω σ H S _ fun v q Γ1 ω1 H1 ⟨d, e, h1⟩ S1 p f1 => by
  subst e
  refine h1 ω1 σ H1 S1 _ fun v2 q2 Γ2 ω2 H2 ⟨d2, b, e2, ho, hk⟩ S2 p2 f2 => ?_
  subst e2
  refine ho (vw ω2 H2 0) H2 v v2 (fun _ _ z => vw_H z) (DR.mono f2.1 d p) p2 _ fun z hz => ?_
  cases DR.bl_inv hz
  refine ⟨b, rfl, ?_⟩
  cases b with
  | false => exact iteF (f _ _ Γ2 ω2 H2 hk S2 (DR.bl false) (f1.trans f2))
  | true =>
    refine iteT ((show WQ tc Γ2 _ from hk) ω2 σ H2 S2 _ fun v3 q3 Γ3 ω3 H3 ⟨d3, b3, e3, ho3, hk3⟩ S3 p3 f3 => ?_)
    subst e3
    refine ho3 (vw ω3 H3 0) H3 v2 v3 (fun _ _ z => vw_H z) (DR.mono f3.1 d2 p2) p3 _ fun z hz => ?_
    cases DR.bl_inv hz
    exact f _ _ Γ3 ω3 H3 hk3 S3 (DR.bl b3) ((f1.trans f2).trans f3)
end
theorem kb_i2 : kitB "int" "bool" = some false := by decide +kernel
theorem kb_s2 : kitB "str" "bool" = some false := by decide +kernel
theorem kb_l2 : kitB "list" "bool" = some false := by decide +kernel
theorem kb_t2 : kitB "tuple" "bool" = some false := by decide +kernel
theorem kb_db : kitB "dict" "bool" = some false := by decide +kernel
theorem isi_bool : ∀ {d : PyData}, (tyD d).isSome = true → ∃ n, tyD d = some n ∧ kitB n "bool" = some (isBl d)
  | .none, _ => ⟨_, rfl, by decide +kernel⟩
  | .bool _, _ => ⟨_, rfl, kb_bb⟩
  | .int _, _ => ⟨_, rfl, kb_i2⟩
  | .str _, _ => ⟨_, rfl, kb_s2⟩
  | .list _, _ => ⟨_, rfl, kb_l2⟩
  | .tuple _, _ => ⟨_, rfl, kb_t2⟩
  | .dict _, _ => ⟨_, rfl, kb_db⟩
theorem we_isBl {K : PySem.W.Frag} {Γ : Ga} {k : Gp → Ga → Prop} {ta : TE} (h : WQ ta Γ fun q Γ1 => ∃ d, q = dP d ∧ k (dat (.bool (isBl d))) Γ1) : WE (tCB (rIsiA K) (tCons ta (tCons (tC (.ty "bool")) tNil))) Γ k := fun ω σ H S Q f => h ω σ H S _ fun v q Γ1 ω1 H1 ⟨d, e, hk⟩ S1 p f1 => by
  subst e
  obtain ⟨n, e1, e2⟩ := isi_bool (DR.ty p)
  exact ⟨v, .ty "bool", .type n, .type "bool", _, rfl, .ty "bool", tyD_ok (DR.mono (fun _ _ z => vw_H z) d p) e1, kit_ty e2, f _ _ Γ1 ω1 H1 hk S1 (DR.bl _) f1⟩


section
variable {K : PySem.W.Frag} {Γ : Ga} {k : Gp → Ga → Prop} {r : R2} {d e : PyData}
/-- a test's truth, known or not -/
theorem ok_ltb {i j : Int} (hk : k (dat (.bool (decide (i < j)))) Γ) : OpK rLtI (.int i) (.int j) k Γ := ok_of od_B0 hk
theorem all_map {α : Type} {p : α → Bool} {xs : List α} : (xs.map p).all id = xs.all p := by
  induction xs with
  | nil => rfl
  | cons x xs ih => simp only [List.map_cons, List.all_cons, ih, id]
theorem take_map {α : Type} {f : α → PyData} {xs : List α} {i : Nat} {x : α} (h : xs[i]? = some x) : (xs.take (i + 1)).map f = (xs.take i).map f ++ [f x] := by
  rw [List.take_succ, h, List.map_append]
  rfl
/-- [f(x) for x in xs], the i-th turn -/
theorem getD_of {α : Type} {xs : List α} {i : Nat} (h : i < xs.length) : ∃ x, xs[i]? = some x := ⟨xs[i], by simp [h]⟩
theorem ck_allM {K : PySem.W.Frag} {α : Type} {xs : List α} {p : α → Bool} (hk : k (dat (.bool (xs.all p))) Γ) : CbK (rAllA K) [.list (xs.map fun x => .bool (p x))] k Γ := by
  have := ck_all (K := K) (bs := xs.map p) (k := k) (Γ := Γ) (by rw [all_map]; exact hk)
  rw [List.map_map] at this
  exact this
theorem getD_at {xs : List PyData} {i : Nat} {x d : PyData} (h : xs[i]? = some x) : xs.getD i d = x := by rw [List.getD_eq_getElem?_getD, h]; rfl
theorem ok_inI {K : PySem.W.Frag} {h : Int} {ns : List Int} (hk : k (dat (.bool (decide (h ∈ ns)))) Γ) : OpK (rInD K) (.int h) (.list (ns.map .int)) k Γ := by
  refine ok_of (od_in lay_int.shaped lay_ints.shaped) ?_
  rw [any_ints]
  exact hk
theorem atI_in {xs : List PyData} {i : Int} {d : PyData} (h0 : 0 ≤ i) (h : xs[i.toNat]? = some d) : atI xs i = some d := by
  have hl := (List.getElem?_eq_some_iff.mp h).1
  unfold atI ixN
  rw [if_pos h0, if_pos (by omega)]
  exact h
end
end G

namespace G
open PySem L2
section
variable {K : PySem.W.Frag} {P : Nat → Bool} {Γ : Ga} {D : Pe} {t : TS}
/-- from here on a slot's own stands still -/
theorem ws_frz {i : Nat} {g : Gp} {q : Per} (h : Γ[i]? = some (some g)) (z : Frz g q) (c : WS P t (Γ.set i (some (per q))) D) : WS P t Γ D := fun ω σ H S E m => by
  obtain ⟨v, e, p⟩ := S.2 i _ h
  have pq : q.q (vw (shut ω (i + 3)) H 0) v := z _ _ _ _ shut_0 shut_c p
  refine c (shut ω (i + 3)) σ H ⟨by rw [List.length_set]; exact S.1, fun j g' hj => ?_⟩ E (m.after ⟨shut_0, shut_ne (by omega)⟩ Pin.refl)
  rw [set_eq] at hj
  by_cases hij : i = j
  · rw [if_pos hij] at hj
    split at hj
    · cases hj
      subst hij
      exact ⟨v, e, pq⟩
    · cases hj
  · rw [if_neg hij] at hj
    obtain ⟨w, e', p'⟩ := S.2 j _ hj
    exact ⟨w, e', g'.mono shut_0 (shut_ne (by omega)) p'⟩
/-- x is not None -/
theorem we_notN {ta : TE} {k : Gp → Ga → Prop} (h : WE ta Γ fun g Γ1 => g = dat .none ∧ k (dat (.bool false)) Γ1) : WE (tOp rNotN0 ta (tC .non)) Γ k := fun ω σ H S Q f => h ω σ H S _ fun v g Γ1 ω1 H1 ⟨e, hk⟩ S1 p f1 => by
  subst e
  cases DR.non_inv p
  exact ⟨rfl, f _ _ Γ1 ω1 H1 hk S1 (DR.bl false) f1⟩
end
end G

/-! ### == by an own __eq__, and the default != over it -/
namespace GCmp
open PySem PySem.W PySem.Spec PyProof.Rows
section
variable {prog : Program} {w : World} {A : Around} {E : Value → Shared → Prop} {s : Shared} {K : Frag} {x C L f : Addr} {h₀ : Heap} {m : Str → Option Value} {ox : Obj} {od : Option Obj} {b tb : Value}
end
end GCmp

namespace G
open PySem L2
/-! ### own == and the default != as operations -/
/-- a value's type, an instance's too -/
inductive TyW (K : PySem.W.Frag) (H : Hp) : V → Value → Prop
  | d {x : V} {t : Value} : TyX K H x t → TyW K H x t
  | i {a C dx : Addr} {fs : List (Str × V)} : H a = some (.ins C dx fs) → TyW K H (.ref a) (.ref C)
theorem TyW.look {X : Cx} {pins : List (Addr × Obj)} {σ : L2.St} {H : Hp} {s : Shared} {x : V} {u t : Value} (I : Inv X pins σ H s) (rx : RelV x u) (ty : TyW X.K H x t) : PySem.W.Looks (model X.prog X.w) s.heap (typeOf u) t := by
  cases ty with
  | d ty =>
    obtain ⟨Pk, Z, pk, _⟩ := kit_of I rx ty
    exact Z.ty _ _ I.kIn pk
  | i ha =>
    cases rx
    obtain ⟨mA, J, _⟩ := ins_get I.hok ha
    obtain ⟨od, J, _⟩ := J.look
    exact J.type
section
variable {X : Cx} {C f : Addr} {fd : FuncData} {ps : List Str} {sp : Sp} {E : XK} {CX : CXT} {n : Nat}
end
section
variable {K : PySem.W.Frag} {P : Nat → Bool} {Γ : Ga} {D : Pe} {k : Gp → Ga → Prop} {ta tb te : TE} {C : Addr} {F : Fw} {E : XK} {ne : Bool}
/-! ### is, is not, of bools -/
theorem ok_isB {a b : Bool} (hk : k (dat (.bool (decide (a = b)))) Γ) : OpK rIsB (.bool a) (.bool b) k Γ := ok_of (q := dP (.bool (decide (a = b)))) (fun A H v w _ hv hw Q g => by
  cases hv.bl_inv
  cases hw.bl_inv
  exact ⟨a, b, rfl, rfl, g _ (DR.bl _)⟩) hk
theorem ok_notB {a b : Bool} (hk : k (dat (.bool (!decide (a = b)))) Γ) : OpK rNotB (.bool a) (.bool b) k Γ := ok_of (q := dP (.bool (!decide (a = b)))) (fun A H v w _ hv hw Q g => by
  cases hv.bl_inv
  cases hw.bl_inv
  exact ⟨a, b, rfl, rfl, g _ (DR.bl _)⟩) hk
/-! ### isinstance of an own class -/
structure InsC (K : PySem.W.Frag) (C : Addr) : Prop where
  cl : Cls K C
  ha : PySem.W.findIn K (.ref C) "__class__" = some (some (.builtin "object.__class__"))
  hn : PySem.W.specialIn K (.builtin "object.__class__") "__get__" = some (some (.builtin "getset_descriptor.__get__"))
  ht : PySem.W.takesIn K (.builtin "object.__class__") = some true
  hm : PySem.W.mroIn K C (.type "object") = some true
end
/-! ### facts of a class, as a Bool -/
def tyNames : List String := ["NoneType", "bool", "int", "str", "list", "tuple", "dict"]
theorem tyNames_all {d : PyData} {n : String} (h : tyD d = some n) : n ∈ tyNames := by
  cases d <;> cases h <;> decide
/-- other things are no instances of the class at C; its != is the default one -/
def othB (K : PySem.W.Frag) (C : Addr) : Bool := He.eqO (PySem.W.findIn K (.ref C) "__ne__") (some (some (.builtin "object.__ne__"))) && (decide (PySem.W.subIn K (.ref C) (.type "object") = some true) &&
  (PySem.W.notFirst K C (.ref C) && (tyNames.all (fun n => PySem.W.notFirst K C (.type n) && decide (PySem.W.kitOne K (.type n) (.ref C) = some false)) && decide (PySem.W.kitOne K (.ref C) (.ref C) = some true))))
structure Oth (K : PySem.W.Frag) (C : Addr) : Prop where
  ne : PySem.W.findIn K (.ref C) "__ne__" = some (some (.builtin "object.__ne__"))
  ob : PySem.W.subIn K (.ref C) (.type "object") = some true
  own : PySem.W.notFirst K C (.ref C) = true
  nf : ∀ (d : PyData) (n : String), tyD d = some n → PySem.W.notFirst K C (.type n) = true
  no : ∀ (d : PyData) (n : String), tyD d = some n → PySem.W.kitOne K (.type n) (.ref C) = some false
  yes : PySem.W.kitOne K (.ref C) (.ref C) = some true
theorem oth_ok {K : PySem.W.Frag} {C : Addr} (h : othB K C = true) : Oth K C := by
  obtain ⟨h1, h⟩ := He.ba h
  obtain ⟨h2, h⟩ := He.ba h
  obtain ⟨h3, h⟩ := He.ba h
  obtain ⟨h4, h5⟩ := He.ba h
  have h4' := List.all_eq_true.mp h4
  exact ⟨He.eqO_ok h1, of_decide_eq_true h2, h3, fun d n e => (He.ba (h4' n (tyNames_all e))).1, fun d n e => of_decide_eq_true (He.ba (h4' n (tyNames_all e))).2, of_decide_eq_true h5⟩
def insB (K : PySem.W.Frag) (C : Addr) : Bool := He.eqO (PySem.W.findIn K (.ref C) "__class__") (some (some (.builtin "object.__class__"))) && (He.eqO (PySem.W.specialIn K (.builtin "object.__class__") "__get__") (some (some (.builtin "getset_descriptor.__get__"))) &&
  (decide (PySem.W.takesIn K (.builtin "object.__class__") = some true) && decide (PySem.W.mroIn K C (.type "object") = some true)))
theorem ins_ok {K : PySem.W.Frag} {C : Addr} (c : Cls K C) (h : insB K C = true) : InsC K C := by
  obtain ⟨h1, h⟩ := He.ba h
  obtain ⟨h2, h⟩ := He.ba h
  obtain ⟨h3, h4⟩ := He.ba h
  exact ⟨c, He.eqO_ok h1, He.eqO_ok h2, of_decide_eq_true h3, of_decide_eq_true h4⟩
end G

namespace G
open PySem L2
/-! ### a list of things that stand still, of any kind -/
def PRs (A : Hp) (xs : List V) (qs : List Per) : Prop := xs.length = qs.length ∧ ∀ (i : Nat) (x : V) (q : Per), xs[i]? = some x → qs[i]? = some q → q.q A x
theorem PRs.nil {A : Hp} : PRs A [] [] := ⟨rfl, fun i x q h _ => by simp at h⟩
theorem PRs.mono {A A' : Hp} {xs : List V} {qs : List Per} (s : Same A A') (h : PRs A xs qs) : PRs A' xs qs := ⟨h.1, fun i x q a b => q.mono s (h.2 i x q a b)⟩
theorem PRs.length {A : Hp} {xs : List V} {qs : List Per} (h : PRs A xs qs) : xs.length = qs.length := h.1
theorem PRs.snoc {A : Hp} {xs : List V} {qs : List Per} {x : V} {q : Per} (h : PRs A xs qs) (p : q.q A x) : PRs A (xs ++ [x]) (qs ++ [q]) := by
  refine ⟨by simp [h.1], fun i y r a b => ?_⟩
  by_cases hi : i < xs.length
  · rw [List.getElem?_append_left hi] at a
    rw [List.getElem?_append_left (by rw [← h.1]; exact hi)] at b
    exact h.2 i y r a b
  · rw [List.getElem?_append_right (by omega)] at a
    rw [List.getElem?_append_right (by rw [← h.1]; omega), ← h.1] at b
    match e : i - xs.length, a, b with
    | 0, a, b =>
      cases a
      cases b
      exact p
    | n + 1, a, _ => simp at a
def lsG (qs : List Per) : Gp := ⟨fun A v R => ∃ a xs, v = .ref a ∧ R a = some (.lst xs) ∧ PRs A xs qs, fun s r ⟨a, xs, e, h, t⟩ => ⟨a, xs, e, r _ _ h, t.mono s⟩⟩
def lsP (qs : List Per) : Per := ⟨fun A v => ∃ a xs, v = .ref a ∧ A a = some (.lst xs) ∧ PRs A xs qs, fun s ⟨a, xs, e, h, t⟩ => ⟨a, xs, e, s _ _ h, t.mono s⟩⟩
theorem frz_ls {qs : List Per} : Frz (lsG qs) (lsP qs) := fun _ _ _ _ s r ⟨a, xs, e, h, t⟩ => ⟨a, xs, e, r _ _ h, t.mono s⟩
section
variable {K : PySem.W.Frag} {P : Nat → Bool} {Γ : Ga} {D : Pe} {k : Gp → Ga → Prop} {kt : Bool → Ga → Prop} {kg : Ga → Prop} {te tl : TE} {tt : TT} {t u tb : TS} {ta : TA} {g : TG}
/-- a new list of things that stand still, by a comprehension -/
theorem we_lcQ {wi : TI} {vs : List Nat} (Pv : Nat → List Per → Ga → Prop) (h : WI wi Γ fun n it Γ1 => Pv 0 [] Γ1 ∧ (∀ acc Γ2, Pv n acc Γ2 → k (lsG acc) Γ2) ∧ ∀ i acc Γ2, i < n → Pv i acc Γ2 → Γ2.length = Γ.length →
    WG (fun i => !vs.contains i) g (it i) (wipeG Γ2 vs) fun Γ3 => WT tt Γ3 fun b Γ4 => if b = true then WQ te Γ4 fun q Γ5 => acc.length < 100000 ∧ Pv (i + 1) (acc ++ [q]) (wipeG Γ5 vs) else Pv (i + 1) acc (wipeG Γ4 vs)) :
    WE (tLc wi g tt te vs) Γ k := fun ω σ H S Q f => h ω σ H S _ fun J n it Γ1 ω1 H1 ⟨h0, hd, hs⟩ S1 W f1 => by
  intro L hL
  have hlen : ∀ {Γ2 : Ga} {ω2 : Col} {σ2 : L2.St} {H2 : Hp}, Sta Γ2 ω2 σ2 H2 → σ2.length = σ.length → Γ2.length = Γ.length := fun {Γ2 ω2 σ2 H2} S2 e => by rw [← S2.1, e, S.1]
  refine ⟨fun i μ H' => μ = n - i ∧ i ≤ n ∧ ∃ acc xs Γ2 ω2, Pv i acc Γ2 ∧ Sta Γ2 ω2 σ H' ∧ Fr ω1 ω2 H1 H' ∧ ω2 L = 1 ∧ H' L = some (.lst xs) ∧ PRs (vw ω2 H' 0) xs acc,
    ⟨n, by simp, Nat.zero_le _, [], [], Γ1, paint ω1 L 1, h0, S1.new 1 hL, paint_fr hL, by unfold paint; rw [if_pos rfl], upd_same, PRs.nil⟩, ?_⟩
  rintro i μ H' ⟨rfl, hi, acc, xs, Γ2, ω2, p2, S2, f2, c2, e2, d2⟩
  have sA : Same (vw ω1 H1 0) H' := fun a o e => vw_H (f2.1 a o e)
  by_cases hlt : i < n
  · refine .inr ⟨((W i H' sA).1 hlt).1, fun H'' => ∃ acc xs Γ2 ω2, Pv (i + 1) acc Γ2 ∧ Sta Γ2 ω2 σ H'' ∧ Fr ω1 ω2 H1 H'' ∧ ω2 L = 1 ∧ H'' L = some (.lst xs) ∧ PRs (vw ω2 H'' 0) xs acc, fun H'' z => ⟨n - (i + 1), by omega, rfl, hlt, z⟩, fun x H'' y => ?_⟩
    obtain ⟨ω3, S3, f3, q3⟩ := yld_ok W rfl f2 S2 hlt y
    refine hs i acc Γ2 hlt p2 (hlen S2 rfl) ω3 _ H'' x (S3.wipe vs) q3 _ fun Γ4 ω4 σ4 H4 h4 S4 f4 q4 => ?_
    obtain ⟨S5, ew⟩ := S4.unwipe q4
    refine ⟨ew, h4 ω4 σ4 H4 S4 _ fun b Γ6 ω6 H6 hk S6 f6 => ?_⟩
    have f16 : Fr ω1 ω6 H1 H6 := ((f2.trans f3).trans f4).trans f6
    have f26 : Fr ω2 ω6 H' H6 := (f3.trans f4).trans f6
    have keep : ∀ {ω7 : Col} {H7 : Hp}, Fr ω2 ω7 H' H7 → ω7 L = 1 ∧ H7 L = some (.lst xs) ∧ PRs (vw ω7 H7 0) xs acc := fun {ω7 H7} f7 => by
      have z := f7.2 L _ (vw_mk c2 e2)
      exact ⟨vw_c z, vw_H z, d2.mono f7.1⟩
    cases b with
    | false =>
      refine iteF ?_
      obtain ⟨k1, k2, k3⟩ := keep f26
      exact ⟨acc, xs, _, ω6, hk, (S6.unwipe q4).1, f16, k1, k2, k3⟩
    | true =>
      refine iteT ((show WQ te Γ6 _ from hk) ω6 σ4 H6 S6 _ fun w q Γ7 ω7 H7 ⟨hl, h7⟩ S7 p7 f7 => ?_)
      obtain ⟨k1, k2, k3⟩ := keep (f26.trans f7)
      have m0 : Same (vw ω7 H7 0) (vw ω7 (upd H7 L (.lst (xs ++ [w]))) 0) := mut_same (by rw [k1]; decide)
      refine ⟨xs, k2, by rw [k3.length]; exact Nat.lt_of_lt_of_le hl (by decide), acc ++ [q], xs ++ [w], _, ω7, h7, ?_, ?_, k1, upd_same, (k3.mono m0).snoc (q.mono m0 p7)⟩
      · exact ((S7.unwipe q4).1).move m0 fun i g _ => mut_same (by rw [k1]; omega)
      · exact ⟨(f16.trans f7).1.trans m0, fun a o h => by
          have z := (f16.trans f7).2 a o h
          exact vw_mk (vw_c z) (by rw [upd_ne (ne_of_none (vw_H h) hL)]; exact vw_H z)⟩
  · have e : i = n := by omega
    subst e
    refine .inl ⟨(W i H' sA).2 (Nat.le_refl _), ?_⟩
    have pn : ∀ c, c ≠ 1 → Same (vw ω2 H' c) (vw (paint ω2 L 2) H' c) := fun c hc a o h => by
      refine vw_mk ?_ (vw_H h)
      unfold paint
      rw [if_neg]
      · exact vw_c h
      · intro e
        rw [e] at h
        exact hc ((vw_c h).symm.trans c2)
    refine f (.ref L) (lsG acc) Γ2 (paint ω2 L 2) H' (hd acc Γ2 p2) (S2.move (pn 0 (by decide)) fun i _ _ => pn _ (by omega)) ⟨L, xs, rfl, vw_mk (by unfold paint; rw [if_pos rfl]) e2, d2.mono (pn 0 (by decide))⟩ (f1.trans ⟨f2.1.trans (pn 0 (by decide)), fun a o h => ?_⟩)
    have z := f2.2 a o h
    refine vw_mk ?_ (vw_H z)
    unfold paint
    rw [if_neg (ne_of_none (vw_H h) hL)]
    exact vw_c z


end
/-! ### rows of ints; slices -/
def rowI (ns : List Int) : PyData := .list (ns.map .int)
/-! ### more of slices -/
theorem argD5 {a b c d e : PyData} : ArgD [.q (dP a), .q (dP b), .q (dP c), .q (dP d), .q (dP e)] [a, b, c, d, e] := ⟨rfl, rfl, rfl, rfl, rfl, trivial⟩
theorem argD6 {a b c d e f : PyData} : ArgD [.q (dP a), .q (dP b), .q (dP c), .q (dP d), .q (dP e), .q (dP f)] [a, b, c, d, e, f] := ⟨rfl, rfl, rfl, rfl, rfl, rfl, trivial⟩
theorem argD7 {a b c d e f g : PyData} : ArgD [.q (dP a), .q (dP b), .q (dP c), .q (dP d), .q (dP e), .q (dP f), .q (dP g)] [a, b, c, d, e, f, g] := ⟨rfl, rfl, rfl, rfl, rfl, rfl, rfl, trivial⟩
theorem argD9 {a b c d e f g h i : PyData} : ArgD [.q (dP a), .q (dP b), .q (dP c), .q (dP d), .q (dP e), .q (dP f), .q (dP g), .q (dP h), .q (dP i)] [a, b, c, d, e, f, g, h, i] := ⟨rfl, rfl, rfl, rfl, rfl, rfl, rfl, rfl, rfl, trivial⟩
end G

/-! ### promises kept where no repr is under way (guards: none) -/
namespace G
open PySem PySem.Spec PyProof.Rows L2
section
variable {P : Program} {w : World} {K : PySem.W.Frag} {mg : Str → Option Value} {base : Heap} {x qual : Str} {params : Arguments} {body : List Stmt} {scope : Scope} {dvs : List V} {kws : List (Str × V)} {f : Addr} {fd : FuncData}
end
section
variable {X : Cx} {CX : CXT} {k : Nat} {f : Addr} {fd : FuncData} {ps : List Str} {sp : Sp} {E : XK} {ds : List Value} {dvs : List V} {x : Str} {p pos : Pos} {e : Expr} {es : List Expr} {t : TA}
end
end G

/-! ### repr of data -/
namespace G
open PySem PySem.Spec PyProof.Rows L2
section
variable {X : Cx} {pins : List (Addr × Obj)} {σ : L2.St} {H : Hp} {s : Shared}
/-- what may be shown -/
structure Shw (d : PyData) : Prop where
  ok : d.showable = true
  dp : d.depth ≤ 20
  few : d.shown.length ≤ sizeLine
def rReprD : List V → Hp → VK → Prop := fun xs H Q => ∃ x d, xs = [x] ∧ DR H x d ∧ Shw d ∧ Q (.str d.shown) H
end
end G

namespace G
open PySem PySem.Spec PyProof.Rows L2
/-! ### data whose text is short -/
structure Tin (p b : Nat) (d : PyData) : Prop where
  ls : d.leavesShort 41 = true
  sh : d.showable = true
  dp : d.depth ≤ p
  bk : d.bulk ≤ b
theorem Tin.up {p b p' b' : Nat} {d : PyData} (h : Tin p b d) (hp : p ≤ p') (hb : b ≤ b') : Tin p' b' d := ⟨h.ls, h.sh, Nat.le_trans h.dp hp, Nat.le_trans h.bk hb⟩
section
variable {K : PySem.W.Frag} {Γ : Ga} {k : Gp → Ga → Prop} {ta : TE}
theorem we_repr (h : WQ ta Γ fun q Γ1 => ∃ d, q = dP d ∧ Shw d ∧ k (dat (.str d.shown)) Γ1) : WE (tCB rReprD (tCons ta tNil)) Γ k := fun ω σ H S Q f => h ω σ H S _ fun v q Γ1 ω1 H1 ⟨d, e, hs, hk⟩ S1 p f1 => by
  subst e
  exact ⟨v, d, rfl, DR.mono (fun _ _ z => vw_H z) d p, hs, f _ _ Γ1 ω1 H1 hk S1 (DR.str _) f1⟩
theorem ok_eqR {a b : Str} (hk : k (dat (.bool (decide (a = b)))) Γ) : OpK rEq (.str a) (.str b) k Γ := ok_of (q := dP (.bool (decide (a = b)))) (fun A H v w _ hv hw Q g => by
  cases hv.str_inv
  cases hw.str_inv
  refine ⟨rfl, ?_⟩
  have e : decide (V.str a = V.str b) = decide (a = b) := decide_eq_decide.mpr ⟨fun z => V.str.inj z, fun z => congrArg V.str z⟩
  rw [e]
  exact g _ (DR.bl _)) hk
theorem ok_neR {a b : Str} (hk : k (dat (.bool (!decide (a = b)))) Γ) : OpK rNe (.str a) (.str b) k Γ := ok_of (q := dP (.bool (!decide (a = b)))) (fun A H v w _ hv hw Q g => by
  cases hv.str_inv
  cases hw.str_inv
  refine ⟨rfl, ?_⟩
  have e : decide (V.str a = V.str b) = decide (a = b) := decide_eq_decide.mpr ⟨fun z => V.str.inj z, fun z => congrArg V.str z⟩
  rw [e]
  exact g _ (DR.bl _)) hk
end
end G

/-! ### try: .. except C as e: m = e : the error is kept, and asked later -/
namespace G
open PySem PySem.Spec PyProof.Rows L2
/-- a caught error of the class cls -/
def ExK (cls : Value) (a : Addr) : HO := .ext fun h => ∃ (oe : Obj) (vs : Array Value), h.get? a = some oe ∧ Zc cls none oe ∧ oe.data = .fields vs
section
variable {X : Cx} {pins : List (Addr × Obj)} {σ : L2.St} {H : Hp} {s : Shared}
/-- an object that came behind the entry is told from now on -/
theorem track {a : Addr} {o : HO} (I : Inv X pins σ H s) (hn : H a = none) (n0 : X.s_0.heap.get? a = none) (nL : a ≠ X.env.locals) (nC : ∀ x c, X.env.cells.lookup x = some c → c ≠ a) (nP : ∀ p ∈ X.pn ++ pins, p.1 ≠ a)
    (new : ObjOk X.prog X.w (upd H a o) s.heap a o) : Inv X pins σ (upd H a o) s where
  ok := I.ok
  os := I.os
  bare := I.bare
  base := ⟨I.base.keep, I.base.slot, fun b u e z q => by rw [upd_ne (fun y => by rw [y, n0] at e; cases e)]; exact I.base.free b u e z q, I.base.there,
    fun b xs z => by rw [upd_ne (ne_of_none (I.base.tups b xs z) hn)]; exact I.base.tups b xs z,
    fun b u xs z => by rw [upd_ne (ne_of_none (I.base.frzs b u xs z) hn)]; exact I.base.frzs b u xs z,
    fun b ps z => by
      obtain ⟨more, q⟩ := I.base.tbls b ps z
      exact ⟨more, by rw [upd_ne (ne_of_none q hn)]; exact q⟩⟩
  loc := I.loc
  cell := I.cell
  free := by rw [upd_ne (Ne.symm nL)]; exact I.free
  freeC := fun x c e => by rw [upd_ne (nC x c e)]; exact I.freeC x c e
  pin := fun p hp => by
    obtain ⟨h1, h2, h3⟩ := I.pin p hp
    exact ⟨h1, by rw [upd_ne (nP p hp)]; exact h2, h3⟩
  hok := I.hok.laidN (fun _ _ z => z) hn new
  len := I.len
end
def wKeep (K : PySem.W.Frag) (c : Value) (i j : Nat) (D : Ends) : WX := fun cls d σ H => PySem.W.exmOne K cls c = some true ∧ d = none ∧ ∀ a, H a = none → D.nx (((σ.set i (some (.ref a))).set j (some (.ref a))).set i none) (upd H a (ExK cls a))
section
variable {X : Cx} {x n m : Str} {c : Value} {i j : Nat} {body : List Stmt} {b₀ : Stmt} {suite : List Stmt} {np pos pos' : Pos} {tb : WX → TS}
theorem ps_try_keep (hs : X.stack = X.env :: X.outer) (hf : X.env.frame = some X.env.locals) (hex : X.ex = []) (hN : X.N.Nodup) (hi : X.N[i]? = some n) (hln : X.env.kindOf n = some .local) (hc : Names X x c)
    (hb : ∀ (W : WX) (pn : List (Addr × Obj)) (xe : Value → Shared → Prop), Takes (X.tr pn xe) W → PassesOwn (model X.prog X.w) X.A X.env xe → PSs (X.tr pn xe) body (tb W))
    (hsu : ∀ (a : Addr) (pn : List (Addr × Obj)), PSs (X.suite a pn) (b₀ :: suite) (tAsg (tVar i) (gName j))) (hiN : i < X.N.length) :
    PS X (.Try body [.ExceptHandler (some (.Name x np)) (some n) (b₀ :: suite) pos'] [] [] pos) (fun D σ H => tb (wKeep X.K c i j D) D σ H) := ⟨fun pins s σ H D I h => by
  have ok := I.ok
  have fr : X.A.frames = some (X.env :: X.outer) := by rw [ok.frames, hs]
  refine wpAny_Try_except (wpAny_mono ((hb (wKeep X.K c i j D) (X.pn ++ pins) (fun e s₁ => wpAny (model X.prog X.w) X.A (noteFrame e X.env) (fun _ s₂ => wpAny (model X.prog X.w) X.A (setFlight e none) (fun _ s₃ =>
    wpAny (model X.prog X.w) X.A (handleBy e X.env [.ExceptHandler (some (.Name x np)) (some n) (b₀ :: suite) pos']) (SP X pins D) X.xe s₃) X.xe s₂) X.xe s₁) (fun u s' xx => ?_) PassesOwn.looking).run [] s σ H D (I.toTry _) h) (fun f s1 q => ?_) fun e s1 z => z)
  · obtain ⟨a, B, sI, ps', σ', H', cls, d, rfl, J0, nb, up, sky, na, os, ag, hm, rfl, hyes⟩ := xx
    have J : Inv X pins σ' H' sI := J0.ofTry ok
    have sky' : Sky B (X.env :: X.outer) a (Zc cls none) X.env.locals s'.heap := by rw [← hs]; exact sky
    show wpAny (model X.prog X.w) X.A (noteFrame (.ref a) X.env) _ _ _
    refine Sky.land Zc.steady fr hf sky' fun h3 fl3 up3 => ?_
    have J3 : Inv X pins σ' H' { s' with heap := h3 } := J.landed nb fl3.1 (up.trans up3) os ag
    obtain ⟨oe3, vs3, he3, hz3, hd3⟩ := fl3.there
    have nst : a ∉ frs (X.env :: X.outer) := fun hm => by
      obtain ⟨_, o', e', hnf⟩ := fl3.2.2.1.mem hm
      rw [he3] at e'
      cases e'
      exact hnf _ hd3
    have nL : a ≠ X.env.locals := fun z => nst (List.mem_filterMap.mpr ⟨X.env, List.mem_cons_self, by rw [hf, z]⟩)
    have nF : a ∉ X.fs := fun hm => by
      obtain ⟨e, he, q⟩ := List.mem_filterMap.mp hm
      exact nst (List.mem_filterMap.mpr ⟨e, List.mem_cons_of_mem _ he, q⟩)
    -- it came behind all that the body saw
    have nI : sI.heap.get? a = none := by
      cases z : sI.heap.get? a with
      | none => rfl
      | some o =>
        have y := nb a o z (by rw [hs]; exact nst)
        rw [fl3.2.1] at y
        cases y
    have n0 : X.s_0.heap.get? a = none := by
      cases z : X.s_0.heap.get? a with
      | none => rfl
      | some o =>
        obtain ⟨o', y⟩ := J.base.there a o z (by rw [hex]; exact fun q => nomatch q)
        rw [nI] at y
        cases y
    have nP : ∀ p ∈ X.pn ++ pins, p.1 ≠ a := fun p hp z => by
      have y := (J.pin p hp).1
      rw [z, nI] at y
      cases y
    refine wpAny_handleBy_cons (codeAny_handlers_test ?_) (by intro q; cases q)
    have lt : PySem.W.Looks (model X.prog X.w) h3 (typeOf (.ref a)) cls := fun A Q E s k q => wpAny_typeOf_ref (k _ _ he3) (by rw [hz3.1]; exact q)
    have S3 := J3.suite he3 hd3 na nL nF
    have asked : ∀ {Q : Value → Shared → Prop} {E : Value → Shared → Prop}, Q c { s' with heap := h3 } → wpAny (model X.prog X.w) (X.A.mark (some (.ref a))) (eval (.Name x np) X.env) Q E { s' with heap := h3 } := fun {Q E} q => by
      obtain ⟨g1, g2, g3 | ⟨g3, g4, g5⟩⟩ := hc
      · exact ld_glob (X := X.suite a ((a, oe3) :: (X.pn ++ pins))) S3 g1 g3 q g2
      · exact ld_blt (X := X.suite a ((a, oe3) :: (X.pn ++ pins))) S3 g1 g3 g4 q g5 g2
    refine asked ((PySem.W.exm_one (M := model X.prog X.w) J3.kIn lt hm).here (codeAny_handlers_suite_as (HandSPX.lands_againZ fl3 fun h4 fl4 up4 => ?_)))
    have J4 : Inv X pins σ' H' { s' with heap := h4 } := J.landed nb fl4.1 ((up.trans up3).trans up4) os ag
    obtain ⟨oe4, vs4, he4, hz4, hd4⟩ := fl4.there
    refine store_ok (X := X.suite a ((a, oe4) :: (X.pn ++ pins))) (v := .ref a) (J4.suite he4 hd4 na nL nF) hN hi (.inl hln) rfl (fun s5 S5 => ?_) (.inr hln)
    have hl5 : i < σ'.length := by rw [J.len]; exact hiN
    refine wpAny_mono ((hsu a ((a, oe4) :: (X.pn ++ pins))).run [] s5 _ H' { nx := fun σ6 H6 => σ6 = (σ'.set i (some (.ref a))).set j (some (.ref a)) ∧ H6 = H', rt := fun _ _ => False, bk := fun _ _ => False, ct := fun _ _ => False } S5 ⟨.ref a, by rw [List.getElem?_set_self hl5], rfl, rfl⟩) (fun f s6 q => ?_) fun _ _ z => z.elim
    match f, q with
    | .brk, ⟨_, _, _, z⟩ => exact z.elim
    | .cont, ⟨_, _, _, z⟩ => exact z.elim
    | .ret _, ⟨_, _, _, _, _, z⟩ => exact z.elim
    | .next, ⟨σ6, H6, S6, e6, eH⟩ =>
      subst e6 eH
      refine gone_ok (X := X.suite a ((a, oe4) :: (X.pn ++ pins))) S6 hN hi hln fun s7 S7 => ?_
      have pn := S7.pin (a, oe4) (by simp)
      have J7 : Inv X pins _ H6 s7 := S7.unsuite ok
      have nC : ∀ x c, X.env.cells.lookup x = some c → c ≠ a := fun y k e z => by
        obtain ⟨v, o, ho, hv⟩ := J7.cell y k e
        rw [z, pn.1] at ho
        cases ho
        rw [hd4] at hv
        cases hv
      exact ⟨_, _, track (o := ExK cls a) J7 na n0 nL nC nP ⟨⟨oe4, _, pn.1, hz4, hd4⟩, ⟨_, pn.1⟩, fun h1 h2 ⟨o, v, q1, q2⟩ k => ⟨o, v, k o q1, q2⟩⟩, hyes a na⟩
  · match f, q with
    | .next, ⟨σ', H', J', q⟩ => exact wpAny_execs_nil ⟨σ', H', J'.ofTry ok, q⟩
    | .brk, ⟨σ', H', J', q⟩ => exact ⟨σ', H', J'.ofTry ok, q⟩
    | .cont, ⟨σ', H', J', q⟩ => exact ⟨σ', H', J'.ofTry ok, q⟩
    | .ret u, ⟨v, σ', H', J', r, q⟩ => exact ⟨v, σ', H', J'.ofTry ok, r, q⟩⟩
end
end G

namespace G
open PySem PySem.Spec PyProof.Rows L2
/-! ### C(..) and o.m(..) where what is raised is wished for at the slots -/
section
variable {X : Cx} {CX : CXT} {k : Nat} {f C : Addr} {fd : FuncData} {ps : List Str} {sp : Sp} {E : L2.St → XK} {x m : Str} {p pos apos : Pos} {e o : Expr} {es : List Expr} {ta : TE} {t : TA}
end
/-! ### the body of a try: W what is wished of its errors -/
def WSW (P : Nat → Bool) (tb : WX → TS) (Γ : Ga) (D : Pe) (kx : Value → Ga → Prop) : Prop := ∀ ω σ H, Sta Γ ω σ H → ∀ W : WX, (∀ c Γ' ω' σ' H', kx c Γ' → Sta Γ' ω' σ' H' → Fr ω ω' H H' → Pin P σ σ' → W c none σ' H') → ∀ E : Ends, Met P D ω σ H E → tb W E σ H
/-- an error that was caught -/
def excP (cls : Value) : Per := ⟨fun A v => ∃ a, v = .ref a ∧ A a = some (ExK cls a), fun s ⟨a, e, h⟩ => ⟨a, e, s _ _ h⟩⟩
section
variable {K : PySem.W.Frag} {P : Nat → Bool} {Γ : Ga} {D : Pe} {k : Gp → Ga → Prop} {te tl : TE} {c : TT} {t u : TS} {tb : WX → TS} {ta : TA} {n : Nat} {F : Fw} {kx : Value → Ga → Prop} {C : Addr} {m : Str}
theorem wsw_call (h : WA ta Γ fun as Γ1 => as.length = n ∧ (slots as).Nodup ∧ F (gsOf Γ1 as) (fun g Γp => D.nx (back Γ1 as Γp)) fun cl Γp => kx cl (back Γ1 as Γp)) : WSW P (fun W => tDrop (tCallS (SpG n F) (L2.WE W) ta)) Γ D kx := fun ω σ H S W x E me =>
  h ω σ H S _ fun vs as Γ1 ω1 H1 ⟨hn, nd, hF⟩ S1 a f1 =>
    call_core (k := fun _ Γ' => D.nx Γ') (kx := kx) S1 a hn nd hF (fun v g Γ' ω' H' hk S' p f2 => me.nx Γ' ω' σ H' hk S' (f1.trans f2) Pin.refl) fun cl Γ' ω' H' hx S' f2 => x cl Γ' ω' σ H' hx S' (f1.trans f2) Pin.refl
theorem args_q {σ : L2.St} {A : Hp} : ∀ {as : List Arg} {vs : List V}, slots as = [] → ArgsOk σ A as vs → (qsOf as).length = vs.length ∧ as.length = vs.length ∧ ∀ (j : Nat) (q : Per) (v : V), (qsOf as)[j]? = some q → vs[j]? = some v → q.q A v
  | [], _, _, h => by cases h; exact ⟨rfl, rfl, fun j q v e => by simp [qsOf] at e⟩
  | .s i :: as, _, hs, _ => by cases hs
  | .q q :: as, _, hs, h => by
    cases h with | cons y z =>
    obtain ⟨l1, l2, l3⟩ := args_q (as := as) hs z
    refine ⟨by simp [qsOf, l1], by simp [l2], fun j q' v e1 e2 => ?_⟩
    match j, e1, e2 with
    | 0, e1, e2 =>
      cases e1
      cases e2
      exact y
    | j + 1, e1, e2 => exact l3 j q' v (by simpa [qsOf] using e1) (by simpa using e2)
theorem sta_drop {ω : Col} {σ : L2.St} {H : Hp} (S : Sta Γ ω σ H) (i : Nat) (x : Option V) : Sta (Γ.set i none) ω (σ.set i x) H := by
  refine ⟨by rw [List.length_set, List.length_set]; exact S.1, fun j g hj => ?_⟩
  rw [set_eq] at hj
  by_cases e : i = j
  · rw [if_pos e] at hj
    split at hj <;> cases hj
  · rw [if_neg e] at hj
    obtain ⟨v, ev, p⟩ := S.2 j g hj
    exact ⟨v, by rw [set_eq, if_neg e]; exact ev, p⟩
/-- try: .. except C as e: m = e -/
theorem ws_tryK {cl0 : Value} {i j : Nat} (hi : P i = false) (hj : P j = false) (hij : i ≠ j) (h : WSW P tb Γ D fun cl Γ' => PySem.W.exmOne K cl cl0 = some true ∧ D.nx ((Γ'.set j (some (per (excP cl)))).set i none)) :
    WS P (fun D σ H => tb (wKeep K cl0 i j D) D σ H) Γ D := fun ω σ H S E me => h ω σ H S (wKeep K cl0 i j E) (fun cl Γ' ω' σ' H' ⟨hm, hk⟩ S' f p => ⟨hm, rfl, fun a na => by
  have e : ((σ'.set i (some (V.ref a))).set j (some (V.ref a))).set i none = (σ'.set j (some (V.ref a))).set i none := by
    rw [List.set_comm _ _ hij, List.set_set]
  rw [e]
  have S2 := S'.new 0 (o := ExK cl a) na
  have S3 := S2.setq (i := j) (v := .ref a) (q := excP cl) ⟨a, rfl, paint_at⟩
  exact me.nx _ (paint ω' a 0) _ _ hk (sta_drop S3 i none) (f.trans (paint_fr na)) ((p.trans (pin_set hj)).trans (pin_set hi))⟩) E me
end
end G

/-! ### tuple(xs), {}, repr, and == of strings -/
namespace G
open PySem PySem.Spec PyProof.Rows L2
section
variable {K : PySem.W.Frag} {Γ : Ga} {k : Gp → Ga → Prop} {tr : TR}
def rTupOf (K : PySem.W.Frag) : List V → Hp → VK → Prop := fun xs H Q => ∃ p ys, xs = [.ref p] ∧ ((SqL K H p ys ∧ ∀ l, H l = none → Q (.ref l) (upd H l (.tup ys))) ∨ (SqT K H p ys ∧ Q (.ref p) H))
theorem ck_tuple {ds : List PyData} (hk : k (dat (.tuple ds)) Γ) : CbK (rTupOf K) [.list ds] k Γ := fun ω σ H vs S h Q f => by
  cases h with | cons x y =>
  cases y
  obtain ⟨a, xs, rfl, ha, hd⟩ := x.lst_inv
  exact ⟨a, xs, rfl, .inl ⟨SqL.of (vw_H ha), fun l hl => f (.ref l) (dat (.tuple ds)) Γ (paint ω l 0) _ hk (S.new 0 hl) (DR.tup paint_at (hd.mono (paint_same hl 0))) (paint_fr hl)⟩⟩
theorem argD8 {a b c d e f g h : PyData} : ArgD [.q (dP a), .q (dP b), .q (dP c), .q (dP d), .q (dP e), .q (dP f), .q (dP g), .q (dP h)] [a, b, c, d, e, f, g, h] := ⟨rfl, rfl, rfl, rfl, rfl, rfl, rfl, rfl, trivial⟩
theorem argD10 {a b c d e f g h i j : PyData} : ArgD [.q (dP a), .q (dP b), .q (dP c), .q (dP d), .q (dP e), .q (dP f), .q (dP g), .q (dP h), .q (dP i), .q (dP j)] [a, b, c, d, e, f, g, h, i, j] := ⟨rfl, rfl, rfl, rfl, rfl, rfl, rfl, rfl, rfl, rfl, trivial⟩
theorem we_dnew (h : k (dat (.dict [])) Γ) : WE tDNewK Γ k := fun ω σ H S Q f p hp =>
  f (.ref p) (dat (.dict [])) Γ (paint ω p 0) _ h (S.new 0 hp) (DR.dic (ps := []) paint_at) (paint_fr hp)
end
end G

/-! ### isinstance of an error that was caught and kept -/
namespace G
open PySem PySem.Spec PyProof.Rows L2
def rIsE1 (K : PySem.W.Frag) : List V → Hp → VK → Prop := fun xs H Q => ∃ (a D : Addr) (c : V) (u : Value) (b : Bool), xs = [.ref a, c] ∧ H a = some (ExK (.ref D) a) ∧ ExcC K D ∧ ClsV c u ∧ PySem.W.kitOne K (.ref D) u = some b ∧ Q (.bl b) H
def rIsE2 (K : PySem.W.Frag) : List V → Hp → VK → Prop := fun xs H Q => ∃ (a D tp : Addr) (cs : List V) (us : List Value) (b : Bool), xs = [.ref a, .ref tp] ∧ H a = some (ExK (.ref D) a) ∧ ExcC K D ∧ H tp = some (.tup cs) ∧ Paired ClsV cs us ∧ PySem.W.kitAny K (.ref D) us = some b ∧ Q (.bl b) H
theorem exk_inst {X : Cx} {pins : List (Addr × Obj)} {σ : L2.St} {H : Hp} {s : Shared} {a D : Addr} (I : Inv X pins σ H s) (h : H a = some (ExK (.ref D) a)) : ∃ oe, PySem.W.InstAt s.heap a oe D none := by
  obtain ⟨⟨oe, vs, h1, hz, hv⟩, _⟩ := (show ObjOk X.prog X.w H s.heap a (ExK (.ref D) a) from I.hok a _ h)
  refine ⟨oe, ?_⟩
  obtain ⟨oc, od, oda, osl⟩ := oe
  obtain ⟨e1, e2⟩ := hz
  dsimp only at e1 e2 hv
  subst e1 e2 hv
  exact ⟨h1, rfl, rfl, trivial⟩
def tryK (K : PySem.W.Frag) (cl0 : Value) (i j : Nat) (tb : WX → TS) : TS := fun D σ H => tb (wKeep K cl0 i j D) D σ H
theorem ws_tryN {K : PySem.W.Frag} {P : Nat → Bool} {Γ : Ga} {D : Pe} {tb : WX → TS} {cl0 : Value} {i j : Nat} (hi : P i = false) (hj : P j = false) (hij : i ≠ j) (h : WSW P tb Γ D fun cl Γ' => PySem.W.exmOne K cl cl0 = some true ∧ D.nx ((Γ'.set j (some (per (excP cl)))).set i none)) :
    WS P (tryK K cl0 i j tb) Γ D := ws_tryK hi hj hij h
section
variable {X : Cx}
theorem c_isE1 : CallR X (.builtin "isinstance") (rIsE1 X.K) := by
  intro pins s σ H xs us Q I r h
  obtain ⟨a, D, c, u, b, rfl, ha, C, k, e, q⟩ := h
  obtain ⟨u1, u2, rfl, r1, r2⟩ := vals2 r
  cases (show u1 = Value.ref a from r1)
  have e2 := k.eq r2
  subst e2
  obtain ⟨oe, J⟩ := exk_inst I ha
  exact PySem.W.kia_one (PySem.W.handS_kitx_exc C.hg C.hk C.hs C.hd C.ha C.hn C.ht C.hm) I.kIn J e (fun z => nomatch z) fun tk => ⟨.bl b, H, I.tok tk, rfl, q⟩
theorem c_isE2 : CallR X (.builtin "isinstance") (rIsE2 X.K) := by
  intro pins s σ H xs us Q I r h
  obtain ⟨a, D, tp, cs, ws, b, rfl, ha, C, hT, k, e, q⟩ := h
  obtain ⟨u1, u2, rfl, r1, r2⟩ := vals2 r
  cases (show u1 = Value.ref a from r1)
  cases (show u2 = Value.ref tp from r2)
  obtain ⟨oe, J⟩ := exk_inst I ha
  obtain ⟨_, its, rv, o, h1, h2, n, h3⟩ := (show ObjOk X.prog X.w H s.heap tp (.tup cs) from I.hok tp _ hT)
  have e3 := ClsV.all k rv
  subst e3
  obtain ⟨oc, od, oda, osl⟩ := o
  dsimp only at h2 h3
  subst h2 h3
  exact PySem.W.kia_tup (PySem.W.handS_kitx_exc C.hg C.hk C.hs C.hd C.ha C.hn C.ht C.hm) I.kIn J h1 e (fun z => nomatch z) fun tk => ⟨.bl b, H, I.tok tk, rfl, q⟩
end
section
variable {K : PySem.W.Frag} {Γ : Ga} {k : Gp → Ga → Prop}
theorem we_isE1 {i : Nat} {D : Addr} {c : V} {u : Value} {b : Bool} (h : Γ[i]? = some (some (per (excP (.ref D))))) (C : ExcC K D) (cv : ClsV c u) (e : PySem.W.kitOne K (.ref D) u = some b) (hk : k (dat (.bool b)) Γ) :
    WE (tCB (rIsE1 K) (tCons (tVar i) (tCons (tC c) tNil))) Γ k := fun ω σ H S Q f => by
  obtain ⟨v, ev, a, rfl, ha⟩ := S.2 i _ h
  exact ⟨_, ev, a, D, c, u, b, rfl, vw_H ha, C, cv, e, f _ _ Γ ω H hk S (DR.bl b) Fr.refl⟩
end
/-! ### the facts as a Bool -/
def excB (K : PySem.W.Frag) (D : Addr) : Bool := He.eqO (PySem.W.findIn K (.ref D) "__getattribute__") (some (some (.builtin "BaseException.__getattribute__"))) && (He.eqO (PySem.W.findIn K (.ref D) "__getattr__") (some none) &&
  (decide (PySem.W.subIn K (.ref D) (.type "BaseException") = some true) && (PySem.W.hasDictIn K D && (He.eqO (PySem.W.findIn K (.ref D) "__class__") (some (some (.builtin "object.__class__"))) &&
  (He.eqO (PySem.W.specialIn K (.builtin "object.__class__") "__get__") (some (some (.builtin "getset_descriptor.__get__"))) && (decide (PySem.W.takesIn K (.builtin "object.__class__") = some true) && decide (PySem.W.mroIn K D (.type "object") = some true)))))))
theorem exc_okB {K : PySem.W.Frag} {D : Addr} (h : excB K D = true) : ExcC K D := by
  obtain ⟨h1, h⟩ := He.ba h
  obtain ⟨h2, h⟩ := He.ba h
  obtain ⟨h3, h⟩ := He.ba h
  obtain ⟨h4, h⟩ := He.ba h
  obtain ⟨h5, h⟩ := He.ba h
  obtain ⟨h6, h⟩ := He.ba h
  obtain ⟨h7, h8⟩ := He.ba h
  exact ⟨He.eqO_ok h1, He.eqO_ok h2, of_decide_eq_true h3, h4, He.eqO_ok h5, He.eqO_ok h6, of_decide_eq_true h7, of_decide_eq_true h8⟩
end G

namespace G
open PySem PySem.Spec PyProof.Rows L2
def top (i : Nat) : Stmt := PySem.Challenge.pw_ownhues_k39_free_of_no_place.main.body.getD i (.Pass ⟨0, 0, 0, 0⟩)
abbrev s_near_among : Stmt := top 2
abbrev s_parts_among : Stmt := top 3
abbrev s_is_count : Stmt := top 19
abbrev s_walk : Stmt := top 21
abbrev s_core : Stmt := top 23
abbrev s_good_parts : Stmt := top 24
abbrev s_least_leaf : Stmt := top 25
abbrev s_core_parts : Stmt := top 26
abbrev s_form : Stmt := top 27
abbrev s_even_ring : Stmt := top 28
abbrev s_three_ways : Stmt := top 29
abbrev s_is_tie : Stmt := top 31
abbrev s_check_web : Stmt := top 32
abbrev s_neighbour_lists : Stmt := top 33
abbrev s_Web_init_ : Stmt := inClass (top 34) 0
abbrev s_Web_ties : Stmt := inClass (top 34) 1
abbrev s_Web_len_ : Stmt := inClass (top 34) 2
abbrev s_Web_neighbours : Stmt := inClass (top 34) 4
abbrev s_Web_parts : Stmt := inClass (top 34) 5
abbrev s_Web_part_of : Stmt := inClass (top 34) 6
abbrev s_free : Stmt := top 36
abbrev s_is_in_tree : Stmt := top 37
abbrev s_law_jar : Stmt := top 39
abbrev s_law_draw : Stmt := top 40
abbrev s_law_order : Stmt := top 41
abbrev s_law_ties : Stmt := top 42
abbrev s_law_others : Stmt := top 43
abbrev s_law_bad : Stmt := top 44
abbrev s_law_refused : Stmt := top 45
abbrev s_law : Stmt := top 46
def d_near_among : He.DefD := ⟨("near_among", none), "near_among", "near_among", defArgs s_near_among, defBody s_near_among, defScope s_near_among, [], []⟩
def d_parts_among : He.DefD := ⟨("parts_among", none), "parts_among", "parts_among", defArgs s_parts_among, defBody s_parts_among, defScope s_parts_among, [], []⟩
def d_is_count : He.DefD := ⟨("is_count", none), "is_count", "is_count", defArgs s_is_count, defBody s_is_count, defScope s_is_count, [], []⟩
def d_walk : He.DefD := ⟨("walk", none), "walk", "walk", defArgs s_walk, defBody s_walk, defScope s_walk, [], []⟩
def d_core : He.DefD := ⟨("core", none), "core", "core", defArgs s_core, defBody s_core, defScope s_core, [], []⟩
def d_good_parts : He.DefD := ⟨("good_parts", none), "good_parts", "good_parts", defArgs s_good_parts, defBody s_good_parts, defScope s_good_parts, [], []⟩
def d_least_leaf : He.DefD := ⟨("_least_leaf", none), "_least_leaf", "_least_leaf", defArgs s_least_leaf, defBody s_least_leaf, defScope s_least_leaf, [], []⟩
def d_core_parts : He.DefD := ⟨("_core_parts", none), "_core_parts", "_core_parts", defArgs s_core_parts, defBody s_core_parts, defScope s_core_parts, [], []⟩
def d_form : He.DefD := ⟨("_form", none), "_form", "_form", defArgs s_form, defBody s_form, defScope s_form, [], []⟩
def d_even_ring : He.DefD := ⟨("_even_ring", none), "_even_ring", "_even_ring", defArgs s_even_ring, defBody s_even_ring, defScope s_even_ring, [], []⟩
def d_three_ways : He.DefD := ⟨("_three_ways", none), "_three_ways", "_three_ways", defArgs s_three_ways, defBody s_three_ways, defScope s_three_ways, [], []⟩
def d_is_tie : He.DefD := ⟨("_is_tie", none), "_is_tie", "_is_tie", defArgs s_is_tie, defBody s_is_tie, defScope s_is_tie, [], []⟩
def d_check_web : He.DefD := ⟨("_check_web", none), "_check_web", "_check_web", defArgs s_check_web, defBody s_check_web, defScope s_check_web, [], []⟩
def d_neighbour_lists : He.DefD := ⟨("_neighbour_lists", none), "_neighbour_lists", "_neighbour_lists", defArgs s_neighbour_lists, defBody s_neighbour_lists, defScope s_neighbour_lists, [], []⟩
def d_Web_init_ : He.DefD := ⟨("Web", some "__init__"), "__init__", "Web.__init__", defArgs s_Web_init_, defBody s_Web_init_, defScope s_Web_init_, [], []⟩
def d_Web_len_ : He.DefD := ⟨("Web", some "__len__"), "__len__", "Web.__len__", defArgs s_Web_len_, defBody s_Web_len_, defScope s_Web_len_, [], []⟩
def d_Web_neighbours : He.DefD := ⟨("Web", some "neighbours"), "neighbours", "Web.neighbours", defArgs s_Web_neighbours, defBody s_Web_neighbours, defScope s_Web_neighbours, [], []⟩
def d_Web_parts : He.DefD := ⟨("Web", some "parts"), "parts", "Web.parts", defArgs s_Web_parts, defBody s_Web_parts, defScope s_Web_parts, [], []⟩
def d_Web_part_of : He.DefD := ⟨("Web", some "_part_of"), "_part_of", "Web._part_of", defArgs s_Web_part_of, defBody s_Web_part_of, defScope s_Web_part_of, [], []⟩
def d_free : He.DefD := ⟨("free", none), "free", "free", defArgs s_free, defBody s_free, defScope s_free, [], []⟩
def d_is_in_tree : He.DefD := ⟨("_is_in_tree", none), "_is_in_tree", "_is_in_tree", defArgs s_is_in_tree, defBody s_is_in_tree, defScope s_is_in_tree, [], []⟩
def d_law_jar : He.DefD := ⟨("_law_jar", none), "_law_jar", "_law_jar", defArgs s_law_jar, defBody s_law_jar, defScope s_law_jar, [], []⟩
def d_law_draw : He.DefD := ⟨("_law_draw", none), "_law_draw", "_law_draw", defArgs s_law_draw, defBody s_law_draw, defScope s_law_draw, [], []⟩
def d_law_order : He.DefD := ⟨("_law_order", none), "_law_order", "_law_order", defArgs s_law_order, defBody s_law_order, defScope s_law_order, [], []⟩
def d_law_ties : He.DefD := ⟨("_law_ties", none), "_law_ties", "_law_ties", defArgs s_law_ties, defBody s_law_ties, defScope s_law_ties, [], []⟩
def d_law_others : He.DefD := ⟨("_law_others", none), "_law_others", "_law_others", defArgs s_law_others, defBody s_law_others, defScope s_law_others, [], []⟩
def d_law_bad : He.DefD := ⟨("_law_bad", none), "_law_bad", "_law_bad", defArgs s_law_bad, defBody s_law_bad, defScope s_law_bad, [], []⟩
def d_law_refused : He.DefD := ⟨("_law_refused", none), "_law_refused", "_law_refused", defArgs s_law_refused, defBody s_law_refused, defScope s_law_refused, [], []⟩
def d_law : He.DefD := ⟨("law", none), "law", "law", defArgs s_law, defBody s_law, defScope s_law, [], []⟩
def q_Web_ties : PrD := ⟨"Web", "ties", "Web.ties", defArgs s_Web_ties, defBody s_Web_ties, defScope s_Web_ties⟩
def fn : List He.DefD := [d_near_among, d_parts_among, d_is_count, d_walk, d_core, d_good_parts, d_least_leaf, d_core_parts, d_form, d_even_ring, d_three_ways, d_is_tie, d_check_web, d_neighbour_lists, d_Web_init_, d_Web_len_, d_Web_neighbours, d_Web_parts, d_Web_part_of, d_free, d_is_in_tree, d_law_jar, d_law_draw, d_law_order, d_law_ties, d_law_others, d_law_bad, d_law_refused, d_law]
def pr : List PrD := [q_Web_ties]
def fa : List He.Fa := [.glo "near_among", .glo "parts_among", .glo "is_count", .glo "walk", .glo "core", .glo "good_parts", .glo "_least_leaf", .glo "_core_parts", .glo "_form", .glo "_even_ring", .glo "_three_ways", .glo "_is_tie", .glo "_check_web", .glo "_neighbour_lists", .glo "free", .glo "_is_in_tree", .glo "_law_jar", .glo "_law_draw", .glo "_law_order", .glo "_law_ties", .glo "_law_others", .glo "_law_bad", .glo "_law_refused", .glo "law", .glo "HueError", .glo "InvalidWeb", .glo "InvalidPlace", .glo "InvalidLists", .glo "InvalidLengths", .glo "InvalidShowing", .glo "InvalidPainting", .glo "InvalidTie", .glo "Over", .glo "NothingToUndo", .glo "InvalidText", .glo "InvalidCommand", .glo "NotReady", .glo "Web", .cls "Web", .noat "Web" "_ties", .noat "Web" "_near", .mkr "Web", .meth "Web" "__len__", .meth "Web" "neighbours", .meth "Web" "parts", .meth "Web" "_part_of", .exc "HueError", .exc "InvalidWeb", .exc "InvalidPlace", .exc "InvalidLists", .exc "InvalidLengths", .exc "InvalidShowing", .exc "InvalidPainting", .exc "InvalidTie", .exc "Over", .exc "NothingToUndo", .exc "InvalidText", .exc "InvalidCommand", .exc "NotReady", .free "ValueError", .free "abs", .free "all", .free "bool", .free "enumerate", .free "int", .free "isinstance", .free "len", .free "list", .free "max", .free "min", .free "range", .free "set", .free "sorted", .free "str", .free "tuple"]
def xf (K : PySem.W.Frag) : Bool := insB K (He.ga K "Web") && (othB K (He.ga K "Web") && (decide (PySem.W.exmOne K (.ref (He.ga K "InvalidPlace")) (.ref (He.ga K "HueError")) = some true) && (excB K (He.ga K "InvalidPlace") && (decide (PySem.W.kitOne K (.ref (He.ga K "InvalidPlace")) (.ref (He.ga K "InvalidPlace")) = some true) && (decide (PySem.W.kitOne K (.ref (He.ga K "InvalidPlace")) (.type "ValueError") = some true) && (decide (PySem.W.kitAny K (.ref (He.ga K "InvalidPlace")) [.ref (He.ga K "InvalidWeb"), .ref (He.ga K "InvalidLists"), .ref (He.ga K "InvalidLengths"), .ref (He.ga K "InvalidShowing"), .ref (He.ga K "InvalidPainting"), .ref (He.ga K "InvalidTie")] = some false) && (decide (PySem.W.kitAny K (.ref (He.ga K "InvalidPlace")) [.ref (He.ga K "Over"), .ref (He.ga K "NothingToUndo"), .ref (He.ga K "InvalidText"), .ref (He.ga K "InvalidCommand"), .ref (He.ga K "NotReady")] = some false) && (decide (PySem.W.kitOne K (.ref (He.ga K "Web")) (.type "int") = some false)))))))))
def loose : List PySem.Str := (["_wall", "__name__", "near_among", "parts_among", "HueError", "InvalidWeb", "InvalidPlace", "InvalidLists", "InvalidLengths", "InvalidShowing", "InvalidPainting", "InvalidTie", "Over", "NothingToUndo", "InvalidText", "InvalidCommand", "NotReady", "is_count", "walk", "core", "good_parts", "_least_leaf", "_core_parts", "_form", "_even_ring", "_three_ways", "_is_tie", "_check_web", "_neighbour_lists", "Web"] : List PySem.Str) ++ (["free", "_is_in_tree", "_law_jar", "_law_draw", "_law_order", "_law_ties", "_law_others", "_law_bad", "_law_refused"] : List PySem.Str)
abbrev R : PySem.W.OpenRow := PySem.W.OpenLaw.row PySem.Challenge.rw_ownhues_k39_free_of_no_place
abbrev hk : PySem.W.Hook := hookP xf 6 fa fn pr
def ob (s : PySem.W.SharedT) : AlP := obsPG xf 6 fa fn pr (HandSHeadRun.getT s)
theorem ob_eq (s : PySem.W.SharedT) : ob s = hk.obs s.abs := obsPG_eq (HandSHeadRun.getT_eq s)
theorem run (w : World) : HandSHeadRun.RunEq R (PySem.W.view R.prog [46]) hk ob 9000 loose w := by
  intro os
  kernel_rfl

end G

/-! ### len(set(xs)), xs a list of ints -/
namespace G
open PySem PySem.Spec PyProof.Rows L2
theorem met_nd (f : Nat → Int) : ∀ i, (firstMet f i).Nodup
  | 0 => by rw [firstMet_zero]; exact List.nodup_nil
  | i + 1 => by
    rw [firstMet_succ]
    unfold step_dedup
    have ih := met_nd f i
    split
    · exact ih
    · rename_i h
      refine List.nodup_append.mpr ⟨ih, by simp, fun a ha b hb e => ?_⟩
      rw [List.mem_singleton.mp hb] at e
      exact h (List.any_eq_true.mpr ⟨a, ha, by simp [e]⟩)
theorem met_mem (f : Nat → Int) (i : Nat) (k : Int) : k ∈ firstMet f i ↔ ∃ j, j < i ∧ f j = k := by
  have h := firstMet_any f i k
  have e1 : k ∈ firstMet f i ↔ (firstMet f i).any (· == k) = true := by
    rw [List.any_eq_true]
    exact ⟨fun h => ⟨k, h, by simp⟩, fun ⟨x, hx, e⟩ => by rw [← eq_of_beq e]; exact hx⟩
  rw [e1, h, List.any_eq_true]
  constructor
  · rintro ⟨x, hx, e⟩
    obtain ⟨j, hj, rfl⟩ := List.mem_map.mp hx
    exact ⟨j, List.mem_range.mp hj, eq_of_beq e⟩
  · rintro ⟨j, hj, e⟩
    exact ⟨f j, List.mem_map.mpr ⟨j, List.mem_range.mpr hj, rfl⟩, by simp [e]⟩
theorem int_nd_len : ∀ (l D : List Int), l.Nodup → (∀ x ∈ l, x ∈ D) → l.length ≤ D.length
  | [], D, _, _ => Nat.zero_le _
  | a :: l, D, h, hs => by
    have ha : a ∈ D := hs a (by simp)
    obtain ⟨h1, h2⟩ := List.nodup_cons.mp h
    have := int_nd_len l (D.erase a) h2 fun x hx => (List.mem_erase_of_ne (fun (e : x = a) => h1 (e ▸ hx))).mpr (hs x (by simp [hx]))
    rw [List.length_erase_of_mem ha] at this
    have hp : 0 < D.length := List.length_pos_of_mem ha
    simp only [List.length_cons]
    omega
theorem nd_of_len : ∀ (ns l : List Int), l.Nodup → (∀ x ∈ l, x ∈ ns) → l.length = ns.length → ns.Nodup
  | [], _, _, _, _ => List.nodup_nil
  | a :: t, l, h, hs, e => by
    have ha : a ∉ t := fun ha => by
      have := int_nd_len l t h fun x hx => by
        rcases List.mem_cons.mp (hs x hx) with e | h
        · rw [e]; exact ha
        · exact h
      simp only [List.length_cons] at e
      omega
    by_cases hl : a ∈ l
    · refine List.nodup_cons.mpr ⟨ha, nd_of_len t (l.erase a) (h.erase a) (fun x hx => ?_) (by rw [List.length_erase_of_mem hl, e]; rfl)⟩
      have h2 := (h.mem_erase_iff).mp hx
      rcases List.mem_cons.mp (hs x h2.2) with e | h
      · exact absurd e h2.1
      · exact h
    · have := int_nd_len l t h fun x hx => by
        rcases List.mem_cons.mp (hs x hx) with e | h
        · exact absurd (e ▸ hx) hl
        · exact h
      simp only [List.length_cons] at e
      omega
/-- as many different ones as there are, or fewer -/
theorem met_len {ns : List Int} : (firstMet (fun i => ns.getD i 0) ns.length).length ≤ ns.length ∧ ((firstMet (fun i => ns.getD i 0) ns.length).length = ns.length ↔ ns.Nodup) := by
  have hle := firstMet_length_le (fun i => ns.getD i 0) ns.length
  have hm : ∀ k : Int, k ∈ firstMet (fun i => ns.getD i 0) ns.length ↔ k ∈ ns := fun k => by
    rw [met_mem]
    constructor
    · rintro ⟨j, hj, rfl⟩
      rw [List.getD_eq_getElem?_getD, List.getElem?_eq_getElem hj]
      exact List.getElem_mem hj
    · intro h
      obtain ⟨j, hj, e⟩ := List.getElem_of_mem h
      exact ⟨j, hj, by rw [List.getD_eq_getElem?_getD, List.getElem?_eq_getElem hj, e]; rfl⟩
  refine ⟨hle, fun e => ?_, fun h => Nat.le_antisymm hle (int_nd_len _ _ h fun x hx => (hm x).mpr hx)⟩
  exact nd_of_len _ _ (met_nd _ _) (fun x hx => (hm x).mp hx) e
def tLenSetI (K : PySem.W.Frag) (ta : TE) : TE := fun σ H Q => ta σ H fun x H1 => ∃ (l : Addr) (ns : List Int), x = .ref l ∧ SqL K H1 l (ns.map V.int) ∧ ns.length < 4000 ∧ Q (.int ((firstMet (fun i => ns.getD i 0) ns.length).length : Nat)) H1
section
variable {K : PySem.W.Frag} {Γ : Ga} {k : Gp → Ga → Prop} {te : TE}
theorem we_lenSetI (h : WQ te Γ fun q Γ1 => ∃ ns : List Int, q = dP (.list (ns.map .int)) ∧ ns.length < 4000 ∧ ∀ m : Nat, m ≤ ns.length → (m = ns.length ↔ ns.Nodup) → k (dat (.int m)) Γ1) : WE (tLenSetI K te) Γ k := fun ω σ H S Q f => h ω σ H S _ fun v q Γ1 ω1 H1 ⟨ns, e, hl, hk⟩ S1 p f1 => by
  subst e
  obtain ⟨a, xs, rfl, ha, hd⟩ := DR.lst_inv p
  rw [hd.ints] at ha
  have hm := met_len (ns := ns)
  exact ⟨a, ns, rfl, SqL.of (vw_H ha), hl, f _ _ Γ1 ω1 H1 (hk _ hm.1 hm.2) S1 (DR.int _) f1⟩
end
end G

/-! ### o.m(..), truth of a list, xs[::-1] -/
namespace G
open PySem PySem.Spec PyProof.Rows L2
section
variable {K : PySem.W.Frag} {P : Nat → Bool} {Γ : Ga} {k : Gp → Ga → Prop} {kb : Bool → Ga → Prop} {te ta : TE} {tr : TA} {n : Nat} {F : Fw} {E : XK} {C : Addr} {m : Str}
theorem we_meth {i : Nat} {ds : List (Str × PyData)} (h : Γ[i]? = some (some (per (objP C ds)))) (nm : lookD m ds = none)
    (ha : WA tr Γ fun as Γ1 => Γ1[i]? = some (some (per (objP C ds))) ∧ as.length + 1 = n ∧ slots as = [] ∧ F (per (objP C ds) :: (qsOf as).map per) (fun g _ => k g Γ1) fun _ _ => False) :
    WE (tMeth C m (SpG n F) [] E (tVar i) tr) Γ k := fun ω σ H S Q f => by
  obtain ⟨v, e, hp⟩ := S.2 i _ h
  obtain ⟨a, dx, fs, rfl, hA, hf⟩ := id hp
  refine ⟨_, e, a, dx, fs, rfl, vw_H hA, Fds.none hf nm, ha ω σ H S _ fun vs as Γ1 ω1 H1 ⟨h1, hn, hs, hF⟩ S1 ax f1 => ?_⟩
  obtain ⟨v1, e1, hp1⟩ := S1.2 i _ h1
  rw [e] at e1
  cases e1
  obtain ⟨l1, l2, l3⟩ := args_q hs ax
  rw [List.append_nil]
  refine call_per (qs := objP C ds :: qsOf as) (k := k) (kx := fun _ => False) S1 (fun j q v h3 h4 => ?_) (by simp [l1]) (by simp [l1, ← l2, hn]) hF (fun v g ω' H' hk S' p f2 => f v g Γ1 ω' H' hk S' p (f1.trans f2)) fun _ _ _ hx => hx.elim
  match j, h3, h4 with
  | 0, h3, h4 =>
    cases h3
    cases h4
    exact hp1
  | j + 1, h3, h4 => exact l3 j q v (by simpa using h3) (by simpa using h4)
/-- a value as a test -/
def tTru (K : PySem.W.Frag) (ta : TE) : TT := fun σ H Q => ta σ H fun x H' => ∃ b, TruV K x H' b ∧ Q b H'
theorem wt_truL (h : WQ ta Γ fun q Γ1 => ∃ ds, q = dP (.list ds) ∧ kb (!ds.isEmpty) Γ1) : WT (tTru K ta) Γ kb := fun ω σ H S Q f => h ω σ H S _ fun v q Γ1 ω1 H1 ⟨ds, e, hk⟩ S1 p f1 => by
  subst e
  obtain ⟨a, xs, rfl, ha, hd⟩ := DR.lst_inv p
  have e : (!xs.isEmpty) = !ds.isEmpty := by
    have := hd.length
    cases xs <;> cases ds <;> simp_all
  refine ⟨!xs.isEmpty, .inl ⟨xs, SqL.of (vw_H ha), rfl⟩, ?_⟩
  rw [e]
  exact f _ Γ1 ω1 H1 hk S1 f1
theorem DRs.rev {H : Hp} : ∀ {ds : List PyData} {vs : List V}, DRs H vs ds → DRs H vs.reverse ds.reverse
  | [], _, h => by cases h; exact .nil
  | d :: ds, _, h => by
    cases h with | cons a b =>
    rw [List.reverse_cons, List.reverse_cons]
    exact (DRs.rev b).append (.cons a .nil)
theorem we_revL (h : WQ te Γ fun q Γ1 => ∃ ds, q = dP (.list ds) ∧ k (own ds.reverse) Γ1) : WE (tRevL K te) Γ k := fun ω σ H S Q f => h ω σ H S _ fun v q Γ1 ω1 H1 ⟨ds, e, hk⟩ S1 p f1 => by
  subst e
  obtain ⟨a, xs, rfl, ha, hd⟩ := DR.lst_inv p
  exact ⟨a, xs, rfl, SqL.of (vw_H ha), fun l hl => f _ _ Γ1 (paint ω1 l 2) _ hk (S1.new 2 hl) ⟨l, _, rfl, paint_at, (hd.rev).mono (paint_same hl 0)⟩ (f1.trans (paint_fr hl))⟩
end
end G

/-! ### a list of one's own lent for a call that answers a bool -/
namespace G
open PySem L2
end G

/-! ### what is walked, said as a list of data; comprehensions and loops by functions -/
namespace G
open PySem L2
def WIL (wi : TI) (Γ : Ga) (k : List PyData → Ga → Prop) : Prop := WI wi Γ fun n it Γ1 => ∃ ds : List PyData, n = ds.length ∧ (∀ i, i < n → it i = dP (ds.getD i .none)) ∧ k ds Γ1
theorem fmap_filter {α : Type} {f : α → Bool} : ∀ {xs : List α}, xs.filterMap (fun x => if f x then some x else none) = xs.filter f
  | [] => rfl
  | x :: xs => by
    have ih := fmap_filter (f := f) (xs := xs)
    cases h : f x <;> simp [List.filterMap_cons, List.filter_cons, h, ih]
section
variable {kg : Ga → Prop} {kt : Bool → Ga → Prop} {u : TS} {K : PySem.W.Frag} {P : Nat → Bool} {Γ : Ga} {D : Pe} {k : Gp → Ga → Prop} {kd : List PyData → Ga → Prop} {te tl : TE} {t tb : TS} {ta : TA} {g : TG} {wi : TI} {vs : List Nat} {tt : TT}
theorem wil_list (h : WQ tl Γ fun q Γ1 => ∃ ds, q = dP (.list ds) ∧ kd ds Γ1) : WIL (iList K tl) Γ kd :=
  wi_list (h.imp fun q Γ1 ⟨ds, e, hk⟩ => ⟨ds, e, ds, rfl, fun _ _ => rfl, hk⟩)
theorem wil_range1 (h : WA ta Γ fun as Γ1 => ∃ j : Int, as = [.q (dP (.int j))] ∧ -(2 ^ 62) ≤ j ∧ j < 2 ^ 62 ∧ kd ((List.range j.toNat).map fun i => .int (i : Nat)) Γ1) : WIL (iRng1 ta) Γ kd :=
  wi_range1 (h.imp fun as Γ1 ⟨j, e, a, b, hk⟩ => ⟨j, e, a, b, _, by simp, fun i hi => by
    rw [List.getD_eq_getElem?_getD, List.getElem?_map, List.getElem?_range hi]
    simp, hk⟩)
theorem we_lcP {wi : TI} {vs : List Nat} (h : WI wi Γ fun n it Γ1 => ∃ Pv : Nat → List PyData → Ga → Prop, Pv 0 [] Γ1 ∧ (∀ acc Γ2, Pv n acc Γ2 → k (own acc) Γ2) ∧ ∀ i acc Γ2, i < n → Pv i acc Γ2 → Γ2.length = Γ.length →
    WG (fun i => !vs.contains i) g (it i) (wipeG Γ2 vs) fun Γ3 => WT tt Γ3 fun b Γ4 => if b = true then WQ te Γ4 fun q Γ5 => ∃ d, q = dP d ∧ acc.length < 100000 ∧ Pv (i + 1) (acc ++ [d]) (wipeG Γ5 vs) else Pv (i + 1) acc (wipeG Γ4 vs)) :
    WE (tLc wi g tt te vs) Γ k := fun ω σ H S Q f => h ω σ H S _ fun J n it Γ1 ω1 H1 ⟨Pv, h0, hd, hs⟩ S1 W f1 => by
  intro L hL
  have hlen : ∀ {Γ2 : Ga} {ω2 : Col} {σ2 : L2.St} {H2 : Hp}, Sta Γ2 ω2 σ2 H2 → σ2.length = σ.length → Γ2.length = Γ.length := fun {Γ2 ω2 σ2 H2} S2 e => by rw [← S2.1, e, S.1]
  refine ⟨fun i μ H' => μ = n - i ∧ i ≤ n ∧ ∃ acc xs Γ2 ω2, Pv i acc Γ2 ∧ Sta Γ2 ω2 σ H' ∧ Fr ω1 ω2 H1 H' ∧ ω2 L = 1 ∧ H' L = some (.lst xs) ∧ DRs (vw ω2 H' 0) xs acc,
    ⟨n, by simp, Nat.zero_le _, [], [], Γ1, paint ω1 L 1, h0, S1.new 1 hL, paint_fr hL, by unfold paint; rw [if_pos rfl], upd_same, .nil⟩, ?_⟩
  rintro i μ H' ⟨rfl, hi, acc, xs, Γ2, ω2, p2, S2, f2, c2, e2, d2⟩
  have sA : Same (vw ω1 H1 0) H' := fun a o e => vw_H (f2.1 a o e)
  by_cases hlt : i < n
  · refine .inr ⟨((W i H' sA).1 hlt).1, fun H'' => ∃ acc xs Γ2 ω2, Pv (i + 1) acc Γ2 ∧ Sta Γ2 ω2 σ H'' ∧ Fr ω1 ω2 H1 H'' ∧ ω2 L = 1 ∧ H'' L = some (.lst xs) ∧ DRs (vw ω2 H'' 0) xs acc, fun H'' z => ⟨n - (i + 1), by omega, rfl, hlt, z⟩, fun x H'' y => ?_⟩
    obtain ⟨ω3, S3, f3, q3⟩ := yld_ok W rfl f2 S2 hlt y
    refine hs i acc Γ2 hlt p2 (hlen S2 rfl) ω3 _ H'' x (S3.wipe vs) q3 _ fun Γ4 ω4 σ4 H4 h4 S4 f4 q4 => ?_
    obtain ⟨S5, ew⟩ := S4.unwipe q4
    refine ⟨ew, h4 ω4 σ4 H4 S4 _ fun b Γ6 ω6 H6 hk S6 f6 => ?_⟩
    have f16 : Fr ω1 ω6 H1 H6 := ((f2.trans f3).trans f4).trans f6
    have f26 : Fr ω2 ω6 H' H6 := (f3.trans f4).trans f6
    have keep : ∀ {ω7 : Col} {H7 : Hp}, Fr ω2 ω7 H' H7 → ω7 L = 1 ∧ H7 L = some (.lst xs) ∧ DRs (vw ω7 H7 0) xs acc := fun {ω7 H7} f7 => by
      have z := f7.2 L _ (vw_mk c2 e2)
      exact ⟨vw_c z, vw_H z, d2.mono f7.1⟩
    cases b with
    | false =>
      refine iteF ?_
      obtain ⟨k1, k2, k3⟩ := keep f26
      exact ⟨acc, xs, _, ω6, hk, (S6.unwipe q4).1, f16, k1, k2, k3⟩
    | true =>
      refine iteT ((show WQ te Γ6 _ from hk) ω6 σ4 H6 S6 _ fun w q Γ7 ω7 H7 ⟨d, eq, hl, h7⟩ S7 p7 f7 => ?_)
      subst eq
      obtain ⟨k1, k2, k3⟩ := keep (f26.trans f7)
      have m0 : Same (vw ω7 H7 0) (vw ω7 (upd H7 L (.lst (xs ++ [w]))) 0) := mut_same (by rw [k1]; decide)
      refine ⟨xs, k2, by rw [k3.length]; exact Nat.lt_of_lt_of_le hl (by decide), acc ++ [d], xs ++ [w], _, ω7, h7, ?_, ?_, k1, upd_same, (k3.mono m0).snoc (DR.mono m0 d p7)⟩
      · exact ((S7.unwipe q4).1).move m0 fun i g _ => mut_same (by rw [k1]; omega)
      · exact ⟨(f16.trans f7).1.trans m0, fun a o h => by
          have z := (f16.trans f7).2 a o h
          exact vw_mk (vw_c z) (by rw [upd_ne (ne_of_none (vw_H h) hL)]; exact vw_H z)⟩
  · have e : i = n := by omega
    subst e
    refine .inl ⟨(W i H' sA).2 (Nat.le_refl _), ?_⟩
    have pn : ∀ c, c ≠ 1 → Same (vw ω2 H' c) (vw (paint ω2 L 2) H' c) := fun c hc a o h => by
      refine vw_mk ?_ (vw_H h)
      unfold paint
      rw [if_neg]
      · exact vw_c h
      · intro e
        rw [e] at h
        exact hc ((vw_c h).symm.trans c2)
    refine f (.ref L) (own acc) Γ2 (paint ω2 L 2) H' (hd acc Γ2 p2) (S2.move (pn 0 (by decide)) fun i _ _ => pn _ (by omega)) ⟨L, xs, rfl, vw_mk (by unfold paint; rw [if_pos rfl]) e2, d2.mono (pn 0 (by decide))⟩ (f1.trans ⟨f2.1.trans (pn 0 (by decide)), fun a o h => ?_⟩)
    have z := f2.2 a o h
    refine vw_mk ?_ (vw_H z)
    unfold paint
    rw [if_neg (ne_of_none (vw_H h) hL)]
    exact vw_c z
theorem ws_forP {wi : TI} (h : WI wi Γ fun n it Γ1 => ∃ Pv : Nat → Ga → Prop, Pv 0 Γ1 ∧ (∀ Γ2, Pv n Γ2 → D.nx Γ2) ∧ ∀ i Γ2, i < n → Pv i Γ2 →
    WG P g (it i) Γ2 fun Γ3 => WS P tb Γ3 (D.lp (Pv (i + 1)))) : WS P (tFor wi g tb) Γ D := fun ω σ H S E m => h ω σ H S _ fun J n it Γ1 ω1 H1 ⟨Pv, h0, hd, hs⟩ S1 W f1 => by
  refine ⟨fun i μ σ' H' => μ = n - i ∧ i ≤ n ∧ ∃ Γ2 ω2, Pv i Γ2 ∧ Sta Γ2 ω2 σ' H' ∧ Fr ω1 ω2 H1 H' ∧ Pin P σ σ', ⟨n, by simp, Nat.zero_le _, Γ1, ω1, h0, S1, Fr.refl, Pin.refl⟩, ?_⟩
  rintro i μ σ' H' ⟨rfl, hi, Γ2, ω2, p2, S2, f2, q2⟩
  have sA : Same (vw ω1 H1 0) H' := fun a o e => vw_H (f2.1 a o e)
  by_cases hlt : i < n
  · refine .inr ⟨((W i H' sA).1 hlt).1, fun σ'' H'' => ∃ Γ2 ω2, Pv (i + 1) Γ2 ∧ Sta Γ2 ω2 σ'' H'' ∧ Fr ω1 ω2 H1 H'' ∧ Pin P σ σ'', fun σ'' H'' z => ⟨n - (i + 1), by omega, rfl, hlt, z⟩, fun x H'' y => ?_⟩
    obtain ⟨ω3, S3, f3, q3⟩ := yld_ok W rfl f2 S2 hlt y
    refine hs i Γ2 hlt p2 ω3 σ' H'' x S3 q3 _ fun Γ4 ω4 σ4 H4 h4 S4 f4 q4 => ?_
    have f14 : Fr ω1 ω4 H1 H4 := (f2.trans f3).trans f4
    refine h4 ω4 σ4 H4 S4 _ ⟨fun Γ' ω' σ5 H5 hk S5 f5 q5 => ⟨Γ', ω', hk, S5, f14.trans f5, (q2.trans q4).trans q5⟩,
      fun v gg Γ' ω' σ5 H5 hk S5 p5 f5 q5 => m.rt v gg Γ' ω' σ5 H5 hk S5 p5 (f1.trans (f14.trans f5)) ((q2.trans q4).trans q5),
      fun Γ' ω' σ5 H5 hk S5 f5 q5 => m.nx Γ' ω' σ5 H5 hk S5 (f1.trans (f14.trans f5)) ((q2.trans q4).trans q5),
      fun Γ' ω' σ5 H5 hk S5 f5 q5 => ⟨Γ', ω', hk, S5, f14.trans f5, (q2.trans q4).trans q5⟩⟩
  · have e : i = n := by omega
    subst e
    exact .inl ⟨(W i H' sA).2 (Nat.le_refl _), m.nx Γ2 ω2 σ' H' (hd Γ2 p2) S2 (f1.trans f2) q2⟩

/-- [e for x in xs if t], by a function; but for its own names the block leaves the slots -/
theorem we_lcF {α : Type} (enc : α → PyData) {β : Type} (enc' : β → PyData) (f : α → Option β) (h : WIL wi Γ fun ds Γ1 => ∃ xs : List α, ds = xs.map enc ∧ wipeG Γ1 vs = Γ1 ∧ xs.length ≤ 100000 ∧
      (∀ x, x ∈ xs → WG (fun i => !vs.contains i) g (dP (enc x)) Γ1 fun Γ3 => WT tt Γ3 fun b Γ4 => if b = true then WQ te Γ4 fun q Γ5 => ∃ y, f x = some y ∧ q = dP (enc' y) ∧ wipeG Γ5 vs = Γ1 else f x = none ∧ wipeG Γ4 vs = Γ1) ∧
      k (own ((xs.filterMap f).map enc')) Γ1) : WE (tLc wi g tt te vs) Γ k := by
  refine we_lcP fun ω σ H S R c => h ω σ H S R fun J n it Γ1 ω1 H1 ⟨ds, hn, hit, xs, e, hw, hl, hb, hk⟩ S1 W f1 => c J n it Γ1 ω1 H1 ?_ S1 W f1
  subst e
  have hlen : n = xs.length := by rw [hn, List.length_map]
  refine ⟨fun i acc Γ2 => Γ2 = Γ1 ∧ acc = ((xs.take i).filterMap f).map enc', ⟨rfl, by simp⟩, ?_, ?_⟩
  · rintro acc Γ2 ⟨rfl, rfl⟩
    rw [hlen, List.take_length]
    exact hk
  · rintro i acc Γ2 hi ⟨rfl, rfl⟩ -
    obtain ⟨x, hx⟩ : ∃ x, xs[i]? = some x := ⟨xs[i]'(by omega), List.getElem?_eq_getElem (by omega)⟩
    have e : it i = dP (enc x) := by
      rw [hit i hi, List.getD_eq_getElem?_getD, List.getElem?_map, hx]; rfl
    have et : xs.take (i + 1) = xs.take i ++ [x] := by rw [List.take_add_one, hx]; rfl
    rw [e, hw]
    refine fun ω2 σ2 H2 v S2 p R2 c2 => hb x (List.mem_of_getElem? hx) ω2 σ2 H2 v S2 p R2 fun Γ3 ω3 σ3 H3 h3 => c2 Γ3 ω3 σ3 H3 ?_
    refine fun ω4 σ4 H4 S4 R4 c4 => h3 ω4 σ4 H4 S4 R4 fun b Γ5 ω5 H5 h5 => c4 b Γ5 ω5 H5 ?_
    cases b with
    | true =>
      obtain h5 := (show WQ te Γ5 _ from h5)
      refine h5.imp fun q Γ6 ⟨y, e1, e2, e3⟩ => ⟨_, e2, ?_, e3, ?_⟩
      · rw [List.length_map]
        have := List.length_filterMap_le f (xs.take i)
        rw [List.length_take] at this
        omega
      · rw [et, List.filterMap_append, List.map_append]
        simp [e1]
    | false =>
      obtain ⟨e1, e2⟩ := (show f x = none ∧ wipeG Γ5 vs = Γ2 from h5)
      refine ⟨e2, ?_⟩
      rw [et, List.filterMap_append]
      simp [e1]
/-- [e for x in xs] -/
theorem we_lcM {α : Type} (enc : α → PyData) {β : Type} (enc' : β → PyData) (f : α → β) (h : WIL wi Γ fun ds Γ1 => ∃ xs : List α, ds = xs.map enc ∧ wipeG Γ1 vs = Γ1 ∧ xs.length ≤ 100000 ∧
      (∀ x, x ∈ xs → WG (fun i => !vs.contains i) g (dP (enc x)) Γ1 fun Γ3 => WQ te Γ3 fun q Γ5 => q = dP (enc' (f x)) ∧ wipeG Γ5 vs = Γ1) ∧
      k (own ((xs.map f).map enc')) Γ1) : WE (tLc wi g tYes te vs) Γ k := by
  refine we_lcF enc enc' (fun x => some (f x)) fun ω σ H S R c => h ω σ H S R fun J n it Γ1 ω1 H1 ⟨ds, hn, hit, xs, e, hw, hl, hb, hk⟩ => c J n it Γ1 ω1 H1 ⟨ds, hn, hit, xs, e, hw, hl, fun x hx => ?_, ?_⟩
  · refine fun ω2 σ2 H2 v S2 p R2 c2 => hb x hx ω2 σ2 H2 v S2 p R2 fun Γ3 ω3 σ3 H3 h3 => c2 Γ3 ω3 σ3 H3 ?_
    exact wt_yes (iteT (h3.imp fun q Γ5 ⟨a, b⟩ => ⟨_, rfl, a, b⟩))
  · have : xs.filterMap (fun x => some (f x)) = xs.map f := by
      rw [show (fun x => some (f x)) = some ∘ f from rfl, List.filterMap_eq_map]
    rw [this]
    exact hk
/-- [x for x in xs if t] -/
theorem we_lcS {α : Type} (enc : α → PyData) (f : α → Bool) (h : WIL wi Γ fun ds Γ1 => ∃ xs : List α, ds = xs.map enc ∧ wipeG Γ1 vs = Γ1 ∧ xs.length ≤ 100000 ∧
      (∀ x, x ∈ xs → WG (fun i => !vs.contains i) g (dP (enc x)) Γ1 fun Γ3 => WT tt Γ3 fun b Γ4 => b = f x ∧ if b = true then WQ te Γ4 fun q Γ5 => q = dP (enc x) ∧ wipeG Γ5 vs = Γ1 else wipeG Γ4 vs = Γ1) ∧
      k (own ((xs.filter f).map enc)) Γ1) : WE (tLc wi g tt te vs) Γ k := by
  refine we_lcF enc enc (fun x => if f x then some x else none) fun ω σ H S R c => h ω σ H S R fun J n it Γ1 ω1 H1 ⟨ds, hn, hit, xs, e, hw, hl, hb, hk⟩ => c J n it Γ1 ω1 H1 ⟨ds, hn, hit, xs, e, hw, hl, fun x hx => ?_, ?_⟩
  · refine fun ω2 σ2 H2 v S2 p R2 c2 => hb x hx ω2 σ2 H2 v S2 p R2 fun Γ3 ω3 σ3 H3 h3 => c2 Γ3 ω3 σ3 H3 (h3.imp fun b Γ4 ⟨e, h4⟩ => ?_)
    cases b with
    | true => exact iteT ((show WQ te Γ4 _ from h4).imp fun q Γ5 ⟨a, z⟩ => ⟨x, by rw [← e]; rfl, a, z⟩)
    | false => exact iteF ⟨by rw [← e]; rfl, h4⟩
  · rw [fmap_filter]
    exact hk
/-- a loop over xs: what holds of what has been walked -/
theorem ws_forF {α : Type} (enc : α → PyData) (Pv : List α → Ga → Prop) (h : WIL wi Γ fun ds Γ1 => ∃ xs : List α, ds = xs.map enc ∧ Pv [] Γ1 ∧ (∀ Γ2, Pv xs Γ2 → D.nx Γ2) ∧
      ∀ pre x post Γ2, xs = pre ++ x :: post → Pv pre Γ2 → WG P g (dP (enc x)) Γ2 fun Γ3 => WS P tb Γ3 (D.lp (Pv (pre ++ [x])))) : WS P (tFor wi g tb) Γ D := by
  refine ws_forP fun ω σ H S R c => h ω σ H S R fun J n it Γ1 ω1 H1 ⟨ds, hn, hit, xs, e, h0, hd, hs⟩ S1 W f1 => c J n it Γ1 ω1 H1 ?_ S1 W f1
  subst e
  have hlen : n = xs.length := by rw [hn, List.length_map]
  refine ⟨fun i Γ2 => Pv (xs.take i) Γ2, h0, fun Γ2 p => hd Γ2 (by rw [hlen, List.take_length] at p; exact p), fun i Γ2 hi p => ?_⟩
  have hi' : i < xs.length := by omega
  have e : it i = dP (enc xs[i]) := by
    rw [hit i hi, List.getD_eq_getElem?_getD, List.getElem?_map, List.getElem?_eq_getElem hi']; rfl
  rw [e]
  have q := hs (xs.take i) xs[i] (xs.drop (i + 1)) Γ2 (by rw [← List.drop_eq_getElem_cons hi', List.take_append_drop]) p
  rw [List.take_append_getElem hi'] at q
  exact q
end
end G

/-! ### any, abs, sum, max and min of a list of ints; typed data -/
namespace G
open PySem L2
theorem bt_abs : bootBuiltins "abs" = some (.builtin "abs") := by decide +kernel
abbrev rAnyA (K : PySem.W.Frag) : List V → Hp → VK → Prop := rAny K
abbrev rSumA (K : PySem.W.Frag) : List V → Hp → VK → Prop := rSum K
def rAbsI : List V → Hp → VK → Prop := fun xs H Q => ∃ i, xs = [.int i] ∧ Q (.int (if i < 0 then -i else i)) H
section
variable {X : Cx}
theorem c_abs : CallR X (.builtin "abs") rAbsI := call_abs
end
section
variable {K : PySem.W.Frag} {Γ : Ga} {k : Gp → Ga → Prop}
theorem any_map {α : Type} {p : α → Bool} {xs : List α} : (xs.map p).any id = xs.any p := by
  induction xs with
  | nil => rfl
  | cons x xs ih => simp [List.any_cons, ih]
theorem ck_any {bs : List Bool} (hk : k (dat (.bool (bs.any id))) Γ) : CbK (rAnyA K) [.list (bs.map .bool)] k Γ := ck_of (q := dP (.bool (bs.any id))) (fun A H vs s h Q f => by
  cases h with | cons x y =>
  cases y
  obtain ⟨a, xs, rfl, ha, hd⟩ := x.lst_inv
  rw [hd.bools] at ha
  exact ⟨a, bs, rfl, SqL.of (s _ _ ha), f _ (DR.bl _)⟩) hk
theorem ck_anyF {α : Type} {p : α → Bool} {xs : List α} (hk : k (dat (.bool (xs.any p))) Γ) : CbK (rAnyA K) [.list ((xs.map p).map .bool)] k Γ := ck_any (by rw [any_map]; exact hk)
theorem ck_allF {α : Type} {p : α → Bool} {xs : List α} (hk : k (dat (.bool (xs.all p))) Γ) : CbK (rAllA K) [.list ((xs.map p).map .bool)] k Γ := ck_all (by rw [all_map]; exact hk)
theorem ck_sumI {ns : List Int} (hk : k (dat (.int ns.sum)) Γ) : CbK (rSumA K) [.list (ns.map .int)] k Γ := ck_of (q := dP (.int ns.sum)) (fun A H vs s h Q f => by
  cases h with | cons x y =>
  cases y
  obtain ⟨a, xs, rfl, ha, hd⟩ := x.lst_inv
  rw [hd.ints] at ha
  exact ⟨a, ns, rfl, SqL.of (s _ _ ha), f _ (DR.int _)⟩) hk
theorem ck_abs {i : Int} (hk : k (dat (.int (if i < 0 then -i else i))) Γ) : CbK rAbsI [.int i] k Γ := ck_of (q := dP (.int (if i < 0 then -i else i))) (fun A H vs s h Q f => by
  cases h with | cons x y =>
  cases y
  cases x.int_inv
  exact ⟨i, rfl, f _ (DR.int _)⟩) hk
end
/-! ### data that is told apart by what it tells -/
structure EncOk {α : Type} [DecidableEq α] (n : Nat) (enc : α → PyData) : Prop where
  eqv : ∀ x y, PyData.eqv (enc x) (enc y) = decide (x = y)
  lay : ∀ x, Lay n (enc x)
section
variable {K : PySem.W.Frag} {Γ : Ga} {k : Gp → Ga → Prop} {α β : Type} [DecidableEq α] [DecidableEq β] {n m : Nat} {enc : α → PyData} {enc' : β → PyData}
theorem enc_bool : EncOk 0 PyData.bool := ⟨fun x y => by cases x <;> cases y <;> rfl, fun _ => lay_bool⟩
theorem EncOk.lst (h : EncOk n enc) : EncOk (n + 1) (fun xs : List α => PyData.list (xs.map enc)) := ⟨fun _ _ => eqv_list_inj h.eqv, fun xs => lay_list fun d hd => by
  obtain ⟨x, _, rfl⟩ := List.mem_map.mp hd
  exact h.lay x⟩
theorem enc_tie : EncOk 1 tieD := ⟨fun _ _ => eqv_tie, fun _ => lay_tie⟩
/-- a pair of data told apart -/
def pairD {α β : Type} (e : α → PyData) (e' : β → PyData) (p : α × β) : PyData := .tuple [e p.1, e' p.2]
theorem EncOk.pair (h : EncOk n enc) (h' : EncOk m enc') : EncOk (max n m + 1) (pairD enc enc') := ⟨fun x y => by
  obtain ⟨a, b⟩ := x
  obtain ⟨c, d⟩ := y
  show PyData.eqv (.tuple [enc a, enc' b]) (.tuple [enc c, enc' d]) = _
  simp only [PyData.eqv, PyData.eqvAll, Bool.and_true, h.eqv, h'.eqv]
  by_cases h1 : a = c <;> by_cases h2 : b = d <;> simp [h1, h2], fun x => lay_tuple fun d hd => by
  rcases List.mem_cons.mp hd with e | e
  · rw [e]; exact (h.lay _).up (Nat.le_max_left _ _)
  · rw [List.mem_singleton.mp e]; exact (h'.lay _).up (Nat.le_max_right _ _)⟩
theorem dec_same {p : Prop} (i j : Decidable p) : @decide p i = @decide p j := decide_eq_decide.mpr Iff.rfl
theorem ok_eqE (h : EncOk n enc) {x y : α} [i : Decidable (x = y)] (hk : k (dat (.bool (decide (x = y)))) Γ) (hn : n ≤ 64 := by decide) : OpK (rEqD K) (enc x) (enc y) k Γ := ok_eq ((h.lay x).shaped hn) ((h.lay y).shaped hn) (by rw [h.eqv, dec_same _ i]; exact hk)
theorem ok_neE (h : EncOk n enc) {x y : α} [i : Decidable (x = y)] (hk : k (dat (.bool (!decide (x = y)))) Γ) (hn : n ≤ 64 := by decide) : OpK (rNeD K) (enc x) (enc y) k Γ := ok_ne ((h.lay x).shaped hn) ((h.lay y).shaped hn) (by rw [h.eqv, dec_same _ i]; exact hk)
end
end G

namespace G
open PySem L2
def isNon : PyData → Bool
  | .none => true
  | _ => false
section
variable {K : PySem.W.Frag} {Γ : Ga} {k : Gp → Ga → Prop} {ta : TE} {tl : TA}
theorem DR.non_iff {A : Hp} {v : V} {d : PyData} (h : DR A v d) : decide (v = V.non) = isNon d := by cases h <;> simp [isNon]
/-- x is None, x is not None, of any data -/
theorem we_isNd (h : WQ ta Γ fun q Γ1 => ∃ d, q = dP d ∧ k (dat (.bool (isNon d))) Γ1) : WE (tOp rIsN0 ta (tC .non)) Γ k := fun ω σ H S Q f => h ω σ H S _ fun v q Γ1 ω1 H1 ⟨d, e, hk⟩ S1 p f1 => by
  subst e
  exact ⟨rfl, f _ _ Γ1 ω1 H1 hk S1 (by rw [DR.non_iff p]; exact DR.bl _) f1⟩
theorem we_notNd (h : WQ ta Γ fun q Γ1 => ∃ d, q = dP d ∧ k (dat (.bool (!isNon d))) Γ1) : WE (tOp rNotN0 ta (tC .non)) Γ k := fun ω σ H S Q f => h ω σ H S _ fun v q Γ1 ω1 H1 ⟨d, e, hk⟩ S1 p f1 => by
  subst e
  exact ⟨rfl, f _ _ Γ1 ω1 H1 hk S1 (by rw [DR.non_iff p]; exact DR.bl _) f1⟩
end
theorem ws_seqI {P : Nat → Bool} {c : TT} {t u r : TS} {Γ : Ga} {D : Pe} (h : WS P (tIfS c t u) Γ (D.to fun Γ' => WS P r Γ' D)) : WS P (tSeq (tIfS c t u) r) Γ D := ws_seq h
theorem range_split {k : Nat} {pre post : List Nat} {x : Nat} (h : List.range k = pre ++ x :: post) : x = pre.length ∧ x < k := by
  have h1 : (List.range k)[pre.length]? = some x := by rw [h]; simp
  have h2 : pre.length < k := by
    have := congrArg List.length h
    simp at this
    omega
  rw [List.getElem?_range h2] at h1
  cases h1
  exact ⟨rfl, h2⟩
end G

/-! ### lists of one's own lent for a call that answers a scalar -/
namespace G
open PySem L2
def scal : PyData → Bool
  | .none | .bool _ | .int _ | .str _ => true
  | _ => false
theorem DR.scal {A A' : Hp} {v : V} : ∀ {d : PyData}, G.scal d = true → DR A v d → DR A' v d
  | .none, _, h => by cases h; exact .non
  | .bool _, _, h => by cases h; exact .bl _
  | .int _, _, h => by cases h; exact .int _
  | .str _, _, h => by cases h; exact .str _
end G

namespace G
open PySem L2
theorem ws_par {P : Nat → Bool} {Γ : Ga} {D : Pe} {i j : Nat} {ta : TA} (hi : P i = false) (hj : P j = false) (h : WA ta Γ fun as Γ1 => ∃ q q' : Per, as = [.q q, .q q'] ∧ D.nx ((Γ1.set i (some (per q))).set j (some (per q')))) : WS P (tPar i j ta) Γ D := fun ω σ H S E m => h ω σ H S _ fun vs as Γ1 ω1 H1 ⟨q, q', e, hk⟩ S1 a f1 => by
  subst e
  cases a with | cons x a =>
  cases a with | cons y a =>
  cases a
  exact ⟨_, _, rfl, m.nx _ ω1 _ H1 hk ((S1.setq x).setq y) f1 ((pin_set hi).trans (pin_set hj))⟩
theorem ws_seqP {P : Nat → Bool} {Γ : Ga} {D : Pe} {i j : Nat} {ta : TA} {u : TS} (h : WS P (tPar i j ta) Γ (D.to fun Γ' => WS P u Γ' D)) : WS P (tSeq (tPar i j ta) u) Γ D := ws_seq h
end G

/-! ### sorted(set(xs)), xs a list of ints -/
namespace GSL
open PySem PySem.Spec PyProof.Rows L2
section
variable {P : Program} {w : World} {A : Around} {E : Value → Shared → Prop} {s : Shared}
end
end GSL
namespace G
open PySem PySem.Spec PyProof.Rows L2
end G

/-! ### {k: v} of two ints -/
namespace G
open PySem L2
theorem repaint {ω : Col} {H : Hp} {p : Addr} {o : HO} {c d : Nat} (hp : ω p = 1) (hc : c ≠ 1) : Same (vw ω H c) (vw (paint ω p d) (upd H p o) c) := fun a u h => by
  have ne : a ≠ p := fun e => hc (by rw [← vw_c h, e, hp])
  exact vw_mk (by unfold paint; rw [if_neg ne]; exact vw_c h) (by rw [upd_ne ne]; exact vw_H h)
theorem we_disp1 {Γ : Ga} {k : Gp → Ga → Prop} {tk tv : TE} (h : WQ tk Γ fun q Γ1 => ∃ i, q = dP (.int i) ∧ WQ tv Γ1 fun q' Γ2 => ∃ j, q' = dP (.int j) ∧ k (dat (.dict [(.int i, .int j)])) Γ2) : WE (tDisp [(tk, tv)]) Γ k := fun ω σ H S Q f p hp =>
  h (paint ω p 1) σ (upd H p (.dK [])) (S.new 1 hp) _ fun x q Γ1 ω1 H1 ⟨i, e1, h1⟩ S1 p1 f1 => h1 ω1 σ H1 S1 _ fun y q' Γ2 ω2 H2 ⟨j, e2, hk⟩ S2 p2 f2 => by
    subst e1 e2
    cases p1.int_inv
    cases p2.int_inv
    have z := (f1.trans f2).2 p _ (paint_at (ω := ω) (H := H) (p := p) (c := 1) (o := .dK []))
    have fr : Fr ω ω2 H H2 := (paint_fr hp).trans (f1.trans f2)
    refine ⟨vw_H z, [(Sum.inl i, .int j)], rfl, (by show 1 ≤ 15; decide), ?_⟩
    refine f (.ref p) _ Γ2 (paint ω2 p 0) _ hk (S2.move (repaint (vw_c z) (by decide)) fun i _ _ => repaint (vw_c z) (by omega)) ?_ ⟨fr.1.trans (repaint (vw_c z) (by decide)), fun a u h => ?_⟩
    · exact DR.dic (ps := [(i, j)]) (vw_mk (by unfold paint; rw [if_pos rfl]) upd_same)
    · have ne : a ≠ p := fun e => by rw [e] at h; have := vw_H h; rw [hp] at this; cases this
      have q := fr.2 a u h
      exact vw_mk (by unfold paint; rw [if_neg ne]; exact vw_c q) (by rw [upd_ne ne]; exact vw_H q)
end G

/-! ### a list of anything held against [] -/
namespace G
open PySem PySem.Spec PyProof.Rows L2
end G

/-! ### {e for a in as for b in bs}, of ints -/
namespace GS2
open PySem PySem.Spec PyProof.Rows L2
abbrev two (el ta ia tb ib : Expr) (sc : Scope) (ps : Pos) : Expr := .SetComp el [⟨ta, ia, [], 0⟩, ⟨tb, ib, [], 0⟩] sc ps
section
variable {prog : Program} {w : World} {A : Around} {R : Result → Shared → Prop} {s : Shared} {el ta ia tb ib : Expr} {sc : Scope} {ps : Pos} {it acc : Value} {env : Env}
end
section
variable {X : Cx}
end
end GS2

/-! ### sorted({h for l in ls for h in l}) of lists of ints -/
namespace GS2
open PySem PySem.Spec PyProof.Rows L2
end GS2
namespace G
open PySem PySem.Spec PyProof.Rows L2 GS2
end G

/-! ### dict(zip(ks, vs)) of ints, and d[k] -/
namespace G
open PySem PySem.Spec PyProof.Rows L2
end G
theorem L2.un1 {n : Nat} (h : n + 64 < PySem.cLine) : n + 1 < PySem.cLine := by omega

/-! ### {k: list for k in ks}; d[k] -/
namespace G
open PySem L2
def KVf (A : Hp) (f : Int → List Int) (kvs : List (L2.Key × V)) (ks : List Int) : Prop := kvs.map Prod.fst = ks.map Sum.inl ∧ DRs A (kvs.map Prod.snd) (ks.map fun x => rowI (f x))
theorem KVf.nil {A : Hp} {f : Int → List Int} : KVf A f [] [] := ⟨rfl, .nil⟩
theorem KVf.mono {A A' : Hp} {f : Int → List Int} {kvs : List (L2.Key × V)} {ks : List Int} (h : KVf A f kvs ks) (s : Same A A') : KVf A' f kvs ks := ⟨h.1, h.2.mono s⟩
theorem KVf.snoc {A : Hp} {f : Int → List Int} {kvs : List (L2.Key × V)} {ks : List Int} {x : Int} {v : V} (h : KVf A f kvs ks) (hv : DR A v (rowI (f x))) : KVf A f (kvs ++ [(Sum.inl x, v)]) (ks ++ [x]) :=
  ⟨by rw [List.map_append, List.map_append, h.1]; rfl, by rw [List.map_append, List.map_append]; exact h.2.append (.cons hv .nil)⟩
theorem KVf.get {A : Hp} {f : Int → List Int} : ∀ {kvs : List (L2.Key × V)} {ks : List Int} {x : Int}, KVf A f kvs ks → x ∈ ks → ∃ v, valV kvs (Sum.inl x) = some v ∧ DR A v (rowI (f x))
  | [], [], x, _, h => nomatch h
  | [], y :: ks, x, ⟨h, _⟩, _ => by cases h
  | p :: kvs, [], x, ⟨h, _⟩, _ => by cases h
  | p :: kvs, y :: ks, x, ⟨h1, h2⟩, h => by
    rw [List.map_cons, List.map_cons] at h1 h2
    injection h1 with e1 e2
    cases h2 with
    | cons a b =>
    by_cases hx : y = x
    · subst hx
      exact ⟨p.2, valV_pos e1, a⟩
    · obtain ⟨v, hv1, hv2⟩ := KVf.get (kvs := kvs) (ks := ks) (x := x) ⟨e2, b⟩ (by rcases List.mem_cons.mp h with e | e; exact absurd e.symm hx; exact e)
      exact ⟨v, by rw [valV_neg (by rw [e1]; exact fun e => hx (Sum.inl.inj e))]; exact hv1, hv2⟩
theorem KVf.no {A : Hp} {f : Int → List Int} : ∀ {kvs : List (L2.Key × V)} {ks : List Int} {x : Int}, KVf A f kvs ks → x ∉ ks → valV kvs (Sum.inl x) = none
  | [], _, x, _, _ => rfl
  | p :: kvs, [], x, ⟨h, _⟩, _ => by cases h
  | p :: kvs, y :: ks, x, ⟨h1, h2⟩, h => by
    rw [List.map_cons, List.map_cons] at h1 h2
    injection h1 with e1 e2
    cases h2 with
    | cons a b =>
    rw [valV_neg (by rw [e1]; exact fun e => h (by rw [Sum.inl.inj e]; simp))]
    exact KVf.no (kvs := kvs) (ks := ks) ⟨e2, b⟩ (fun e => h (by simp [e]))
theorem KVf.len {A : Hp} {f : Int → List Int} {kvs : List (L2.Key × V)} {ks : List Int} (h : KVf A f kvs ks) : kvs.length = ks.length := by
  have := congrArg List.length h.1
  rwa [List.length_map, List.length_map] at this
/-- a dict from ints to lists of ints -/
def dicP (ks : List Int) (f : Int → List Int) : Per := ⟨fun A v => ∃ a kvs, v = .ref a ∧ A a = some (.dK kvs) ∧ KVf A f kvs ks, fun s ⟨a, kvs, e, h, t⟩ => ⟨a, kvs, e, s _ _ h, t.mono s⟩⟩
def dicG (ks : List Int) (f : Int → List Int) : Gp := ⟨fun A v R => ∃ a kvs, v = .ref a ∧ R a = some (.dK kvs) ∧ KVf A f kvs ks, fun s r ⟨a, kvs, e, h, t⟩ => ⟨a, kvs, e, r _ _ h, t.mono s⟩⟩
theorem frz_dicG {ks : List Int} {f : Int → List Int} : Frz (dicG ks f) (dicP ks f) := fun A v R A' s r ⟨a, kvs, e, h, t⟩ => ⟨a, kvs, e, r _ _ h, t.mono s⟩
section
variable {K : PySem.W.Frag} {Γ : Ga} {k : Gp → Ga → Prop} {ta tb tk tv : TE} {g : TG}
theorem we_dgetL (h : WQ ta Γ fun q Γ1 => ∃ ks f, q = dicP ks f ∧ WQ tb Γ1 fun q' Γ2 => ∃ i, q' = dP (.int i) ∧ i ∈ ks ∧ k (dat (rowI (f i))) Γ2) : WE (tDGet ta tb) Γ k := fun ω σ H S Q f => h ω σ H S _ fun x q Γ1 ω1 H1 ⟨ks, f0, e1, h1⟩ S1 p1 f1 => h1 ω1 σ H1 S1 _ fun y q' Γ2 ω2 H2 ⟨i, e2, hi, hk⟩ S2 p2 f2 => by
  subst e1 e2
  cases p2.int_inv
  obtain ⟨a, kvs, rfl, ha, hkv⟩ := (dicP ks f0).mono f2.1 p1
  obtain ⟨v, hv, dv⟩ := hkv.get hi
  exact ⟨a, v, rfl, .inl ⟨_, Sum.inl i, .inl (vw_H ha), rfl, hv.symm⟩, f _ (dat (rowI (f0 i))) Γ2 ω2 H2 hk S2 dv (f1.trans f2)⟩
theorem we_dcL {wi : TI} {vs : List Nat} (ks : List Int) (fv : Int → List Int) (h : WIL wi Γ fun ds Γ1 => ds = ks.map PyData.int ∧ ks.Nodup ∧ ks.length ≤ 100000 ∧ wipeG Γ1 vs = Γ1 ∧
      (∀ x ∈ ks, WG (fun i => !vs.contains i) g (dP (.int x)) Γ1 fun Γ3 => WQ tk Γ3 fun q Γ4 => q = dP (.int x) ∧ WQ tv Γ4 fun q' Γ5 => q' = dP (rowI (fv x)) ∧ wipeG Γ5 vs = Γ1) ∧ k (dicG ks fv) Γ1) :
    WE (tDc wi g tYes tk tv vs) Γ k := fun ω σ H S Q f => h ω σ H S _ fun J n it Γ1 ω1 H1 ⟨ds, hn, hit, eds, hnd, hlen, hw, hb, hk⟩ S1 W f1 => by
  intro L hL
  subst eds
  have hn : n = ks.length := by rw [hn, List.length_map]
  refine ⟨fun i μ H' => μ = n - i ∧ i ≤ n ∧ ∃ kvs ω2, Sta Γ1 ω2 σ H' ∧ Fr ω1 ω2 H1 H' ∧ ω2 L = 1 ∧ H' L = some (.dK kvs) ∧ KVf (vw ω2 H' 0) fv kvs (ks.take i),
    ⟨n, by simp, Nat.zero_le _, [], paint ω1 L 1, S1.new 1 hL, paint_fr hL, by unfold paint; rw [if_pos rfl], upd_same, .nil⟩, ?_⟩
  rintro i μ H' ⟨rfl, hi, kvs, ω2, S2, f2, c2, e2, d2⟩
  have sA : Same (vw ω1 H1 0) H' := fun a o e => vw_H (f2.1 a o e)
  by_cases hlt : i < n
  · obtain ⟨x, hx⟩ : ∃ x, ks[i]? = some x := ⟨ks[i]'(by omega), List.getElem?_eq_getElem (by omega)⟩
    have eit : it i = dP (.int x) := by
      rw [hit i hlt, List.getD_eq_getElem?_getD, List.getElem?_map, hx]; rfl
    have et : ks.take (i + 1) = ks.take i ++ [x] := by rw [List.take_add_one, hx]; rfl
    have hxn : x ∉ ks.take i := fun hm => by
      obtain ⟨j, hj⟩ := List.getElem?_of_mem hm
      rw [List.getElem?_take] at hj
      split at hj
      · have := (List.getElem?_inj (i := j) (j := i) (List.getElem?_eq_some_iff.mp hj).1 hnd).mp (hj.trans hx.symm)
        omega
      · cases hj
    refine .inr ⟨((W i H' sA).1 hlt).1, fun H'' => ∃ kvs ω2, Sta Γ1 ω2 σ H'' ∧ Fr ω1 ω2 H1 H'' ∧ ω2 L = 1 ∧ H'' L = some (.dK kvs) ∧ KVf (vw ω2 H'' 0) fv kvs (ks.take (i + 1)), fun H'' z => ⟨n - (i + 1), by omega, rfl, hlt, z⟩, fun y0 H'' y => ?_⟩
    obtain ⟨ω3, S3, f3, q3⟩ := yld_ok W rfl f2 S2 hlt y
    rw [eit] at q3
    refine hb x (List.mem_of_getElem? hx) ω3 _ H'' y0 (by have := S3.wipe vs; rw [hw] at this; exact this) q3 _ fun Γ4 ω4 σ4 H4 h4 S4 f4 q4 => ?_
    obtain ⟨_, ew⟩ := S4.unwipe q4
    refine ⟨ew, ?_⟩
    unfold tYes
    refine iteT ?_
    refine h4 ω4 σ4 H4 S4 _ fun yk q Γ6 ω6 H6 ⟨eq, h6⟩ S6 p6 f6 => ?_
    subst eq
    cases DR.int_inv p6
    refine h6 ω6 σ4 H6 S6 _ fun w q Γ7 ω7 H7 ⟨eq, h7⟩ S7 p7 f7 => ?_
    subst eq
    have f27 : Fr ω2 ω7 H' H7 := ((f3.trans f4).trans f6).trans f7
    have f17 := f2.trans f27
    have z := f27.2 L _ (vw_mk c2 e2)
    have k1 := vw_c z
    have k3 := d2.mono f27.1
    have m0 : Same (vw ω7 H7 0) (vw ω7 (upd H7 L (.dK (kvs ++ [(Sum.inl x, w)]))) 0) := mut_same (by rw [k1]; decide)
    have eput : putK kvs (Sum.inl x) w = kvs ++ [(Sum.inl x, w)] := putK_new w (d2.no hxn)
    refine ⟨kvs, Sum.inl x, rfl, vw_H z, by rw [d2.len]; refine Nat.lt_of_le_of_lt (List.length_take_le' _ _) (Nat.lt_of_le_of_lt hlen (by decide)), ?_⟩
    rw [eput]
    refine ⟨_, ω7, ?_, ?_, k1, upd_same, by rw [et]; exact (k3.mono m0).snoc (DR.mono m0 _ p7)⟩
    · have S8 := (S7.unwipe q4).1
      rw [h7] at S8
      exact S8.move m0 fun i g _ => mut_same (by rw [k1]; omega)
    · exact ⟨f17.1.trans m0, fun a o h => by
        have z := f17.2 a o h
        exact vw_mk (vw_c z) (by rw [upd_ne (ne_of_none (vw_H h) hL)]; exact vw_H z)⟩
  · have e : i = n := by omega
    subst e
    refine .inl ⟨(W i H' sA).2 (Nat.le_refl _), ?_⟩
    have pn : ∀ c, c ≠ 1 → Same (vw ω2 H' c) (vw (paint ω2 L 2) H' c) := fun c hc a o h => by
      refine vw_mk ?_ (vw_H h)
      unfold paint
      rw [if_neg]
      · exact vw_c h
      · intro e
        rw [e] at h
        exact hc ((vw_c h).symm.trans c2)
    rw [hn, List.take_length] at d2
    refine f (.ref L) (dicG ks fv) Γ1 (paint ω2 L 2) H' hk (S2.move (pn 0 (by decide)) fun i _ _ => pn _ (by omega)) ⟨L, kvs, rfl, vw_mk (by unfold paint; rw [if_pos rfl]) e2, d2.mono (pn 0 (by decide))⟩ (f1.trans ⟨f2.1.trans (pn 0 (by decide)), fun a o h => ?_⟩)
    have z := f2.2 a o h
    refine vw_mk ?_ (vw_H z)
    unfold paint
    rw [if_neg (ne_of_none (vw_H h) hL)]
    exact vw_c z
end
end G

namespace G
open PySem L2
local macro_rules | `(tactic| walk_at "g1") => `(tactic| first
  | (with_reducible show WE _ _ _; with_reducible first | refine we_var (by with_unfolding_all exact rfl) ?_ | (show WE (tOp _ _ _) _ _; first | refine we_ixS (by with_unfolding_all exact rfl) ?_ | refine we_ixScr (by with_unfolding_all exact rfl) ?_ | refine we_inS (by with_unfolding_all exact rfl) ?_ | refine we_notInS (by with_unfolding_all exact rfl) ?_ | refine we_eqS (by with_unfolding_all exact rfl) ?_ | refine we_neS (by with_unfolding_all exact rfl) ?_ | refine we_opK ?_) | (show WE (tCB _ _) _ _; first | refine we_lenS' (by with_unfolding_all exact rfl) ?_ | refine we_lenScr (by with_unfolding_all exact rfl) ?_ | refine we_cbK ?_) | refine we_int ?_ | refine we_bl ?_ | refine we_non ?_ | refine we_str ?_ | refine we_neg ?_ | refine we_not ?_ | refine we_and ?_ | refine we_or ?_ | refine we_if ?_ | refine we_tup ?_ | refine we_lst ?_ | refine we_call ?_ | refine we_mt (by with_unfolding_all exact rfl) ?_)
  | (with_reducible show WS _ _ _ _; with_reducible first | refine ws_seqA ?_ | refine ws_seqD ?_ | refine ws_asg (by with_unfolding_all exact rfl) ?_ | refine ws_asgG ?_ | refine ws_if ?_ | refine ws_ret ?_ | refine ws_drop ?_ | refine ws_next ?_ | refine ws_retN ?_)
  | (with_reducible show WT _ _ _; with_reducible first | refine wt_test ?_ | refine wt_B ?_ | refine wt_not ?_ | refine wt_and ?_ | refine wt_or ?_ | refine wt_yes ?_)
  | (with_reducible show WA _ _ _; with_reducible first | refine wa_nil ?_ | refine wa_cons (wq_of (we_var (by with_unfolding_all exact rfl) ?_)) | refine wa_slotU (by with_unfolding_all exact rfl) ?_ | refine wa_cons ?_)
  | (with_reducible show OpK _ _ _ _ _; with_reducible first | refine ok_plusI ?_ | refine ok_sub ?_ | refine ok_lt ?_ | refine ok_le ?_ | refine ok_gt ?_ | refine ok_ge ?_ | refine ok_eqI ?_ | refine ok_neI ?_ | refine ok_mod (by first | assumption | decide | omega) ?_ | refine ok_ixL (by with_unfolding_all exact rfl) ?_)
  | (with_reducible show CbK _ _ _ _; with_reducible first | refine ck_lenL ?_ | refine ck_lenT ?_ | refine ck_int ?_ | refine ck_intB ?_ | refine ck_max ?_ | refine ck_min ?_ | refine ck_list ?_)
  | with_reducible refine wq_of ?_
  | (with_reducible show WG _ _ _ _ _; with_reducible first | refine wg_name (by with_unfolding_all exact rfl) ?_ | refine wg_tup (by with_unfolding_all exact rfl) ?_ | refine wg_set (by with_unfolding_all exact rfl) ?_)
  | (with_reducible show WGs _ _ _ _ _; with_reducible first | refine wgs_cons ?_ | refine wgs_nil ?_)
  | with_reducible refine iteT ?_
  | with_reducible refine iteF ?_
  | with_reducible refine ⟨_, frz_per, ?_⟩
  | with_reducible refine ⟨_, frz_own, ?_⟩
  | refine ⟨_, rfl, ?_⟩
  | refine ⟨_, argD1, ?_⟩
  | refine ⟨_, argD2, ?_⟩
  | refine ⟨_, argD0, ?_⟩
  | refine ⟨_, argD3, ?_⟩
  | refine ⟨_, argD4, ?_⟩
  | refine ⟨_, _, rfl, rfl, rfl, ?_⟩
  | refine ⟨_, _, _, rfl, rfl, rfl, ?_⟩
  | refine ⟨(by simp only [List.length_cons, List.length_nil]; decide), ?_⟩
  | refine ⟨rfl, nd1, ?_⟩
  | refine ⟨rfl, nd0, ?_⟩)
local macro_rules | `(tactic| walk_at "go") => `(tactic| repeat walk_at "g1")
local macro_rules | `(tactic| walk_at "g2") => `(tactic| first
  | (with_reducible show WE _ _ _; with_reducible first | refine we_var (by with_unfolding_all exact rfl) ?_ | (show WE (tOp _ _ _) _ _; first | refine we_notN ?_ | refine we_ixS (by with_unfolding_all exact rfl) ?_ | refine we_ixScr (by with_unfolding_all exact rfl) ?_ | refine we_inS (by with_unfolding_all exact rfl) ?_ | refine we_notInS (by with_unfolding_all exact rfl) ?_ | refine we_eqS (by with_unfolding_all exact rfl) ?_ | refine we_neS (by with_unfolding_all exact rfl) ?_ | refine we_opK ?_) | (show WE (tCB _ _) _ _; first | refine we_isInt ?_ | refine we_isBl ?_ | refine we_isLst ?_ | refine we_isTup ?_ | refine we_lenO (by with_unfolding_all exact rfl) ?_ | refine we_lenS' (by with_unfolding_all exact rfl) ?_ | refine we_lenScr (by with_unfolding_all exact rfl) ?_ | refine we_cbK ?_) | refine we_chain ?_ | refine we_slice ?_ | refine we_int ?_ | refine we_bl ?_ | refine we_non ?_ | refine we_str ?_ | refine we_neg ?_ | refine we_not ?_ | refine we_and ?_ | refine we_or ?_ | refine we_if ?_ | refine we_tup ?_ | refine we_lst ?_ | refine we_call ?_ | refine we_mt (by with_unfolding_all exact rfl) ?_)
  | (with_reducible show WS _ _ _ _; with_reducible first | refine ws_seqA ?_ | refine ws_seqD ?_ | refine ws_asg (by with_unfolding_all exact rfl) ?_ | refine ws_asgG ?_ | refine ws_if ?_ | refine ws_ret ?_ | refine ws_drop ?_ | refine ws_next ?_ | refine ws_retN ?_)
  | (with_reducible show WT _ _ _; with_reducible first | refine wt_test ?_ | refine wt_B ?_ | refine wt_not ?_ | refine wt_and ?_ | refine wt_or ?_ | refine wt_yes ?_)
  | (with_reducible show WA _ _ _; with_reducible first | refine wa_nil ?_ | refine wa_cons (wq_of (we_var (by with_unfolding_all exact rfl) ?_)) | refine wa_slotU (by with_unfolding_all exact rfl) ?_ | refine wa_cons ?_)
  | (with_reducible show OpK _ _ _ _ _; with_reducible first | refine ok_isB ?_ | refine ok_notB ?_ | refine ok_plusI ?_ | refine ok_sub ?_ | refine ok_lt ?_ | refine ok_le ?_ | refine ok_gt ?_ | refine ok_ge ?_ | refine ok_eqI ?_ | refine ok_neI ?_ | refine ok_mod (by first | assumption | decide | omega) ?_ | refine ok_ixL (by with_unfolding_all exact rfl) ?_)
  | (with_reducible show CbK _ _ _ _; with_reducible first | refine ck_lenL ?_ | refine ck_lenT ?_ | refine ck_int ?_ | refine ck_intB ?_ | refine ck_max ?_ | refine ck_min ?_ | refine ck_list ?_)
  | with_reducible refine wq_of ?_
  | (with_reducible show WG _ _ _ _ _; with_reducible first | refine wg_name (by with_unfolding_all exact rfl) ?_ | refine wg_tup (by with_unfolding_all exact rfl) ?_ | refine wg_set (by with_unfolding_all exact rfl) ?_)
  | (with_reducible show WGs _ _ _ _ _; with_reducible first | refine wgs_cons ?_ | refine wgs_nil ?_)
  | (with_reducible show WO _ _ _; with_reducible first | refine wo_some ?_ | refine wo_none ?_)
  | refine ⟨_, argD5, ?_⟩
  | refine ⟨_, argD6, ?_⟩
  | refine ⟨_, argD7, ?_⟩
  | refine ⟨_, argD9, ?_⟩
  | with_reducible refine iteT ?_
  | with_reducible refine iteF ?_
  | with_reducible refine ⟨_, frz_per, ?_⟩
  | with_reducible refine ⟨_, frz_own, ?_⟩
  | refine ⟨_, rfl, ?_⟩
  | refine ⟨_, argD1, ?_⟩
  | refine ⟨_, argD2, ?_⟩
  | refine ⟨_, argD0, ?_⟩
  | refine ⟨_, argD3, ?_⟩
  | refine ⟨_, argD4, ?_⟩
  | refine ⟨_, _, rfl, rfl, rfl, ?_⟩
  | refine ⟨_, _, _, rfl, rfl, rfl, ?_⟩
  | refine ⟨(by simp only [List.length_cons, List.length_nil]; decide), ?_⟩
  | refine ⟨rfl, nd1, ?_⟩
  | refine ⟨rfl, nd0, ?_⟩)
end G

namespace G
open PySem L2
local macro_rules | `(tactic| walk_at "g1") => `(tactic| first
  | (with_reducible show WE _ _ _; with_reducible first | refine we_var (by with_unfolding_all exact rfl) ?_ | (show WE (tOp _ _ _) _ _; first | refine we_ixS (by with_unfolding_all exact rfl) ?_ | refine we_ixScr (by with_unfolding_all exact rfl) ?_ | refine we_inS (by with_unfolding_all exact rfl) ?_ | refine we_notInS (by with_unfolding_all exact rfl) ?_ | refine we_eqS (by with_unfolding_all exact rfl) ?_ | refine we_neS (by with_unfolding_all exact rfl) ?_ | refine we_opK ?_) | (show WE (tCB _ _) _ _; first | refine we_lenS' (by with_unfolding_all exact rfl) ?_ | refine we_lenScr (by with_unfolding_all exact rfl) ?_ | refine we_cbK ?_) | refine we_int ?_ | refine we_bl ?_ | refine we_non ?_ | refine we_str ?_ | refine we_neg ?_ | refine we_not ?_ | refine we_and ?_ | refine we_or ?_ | refine we_if ?_ | refine we_tup ?_ | refine we_lst ?_ | refine we_call ?_ | refine we_mt (by with_unfolding_all exact rfl) ?_)
  | (with_reducible show WS _ _ _ _; with_reducible first | refine ws_seqA ?_ | refine ws_seqD ?_ | refine ws_asg (by with_unfolding_all exact rfl) ?_ | refine ws_asgG ?_ | refine ws_if ?_ | refine ws_ret ?_ | refine ws_drop ?_ | refine ws_next ?_ | refine ws_retN ?_)
  | (with_reducible show WT _ _ _; with_reducible first | refine wt_test ?_ | refine wt_B ?_ | refine wt_not ?_ | refine wt_and ?_ | refine wt_or ?_ | refine wt_yes ?_)
  | (with_reducible show WA _ _ _; with_reducible first | refine wa_nil ?_ | refine wa_cons (wq_of (we_var (by with_unfolding_all exact rfl) ?_)) | refine wa_slotU (by with_unfolding_all exact rfl) ?_ | refine wa_cons ?_)
  | (with_reducible show OpK _ _ _ _ _; with_reducible first | refine ok_plusI ?_ | refine ok_sub ?_ | refine ok_lt ?_ | refine ok_le ?_ | refine ok_gt ?_ | refine ok_ge ?_ | refine ok_eqI ?_ | refine ok_neI ?_ | refine ok_mod (by first | assumption | decide | omega) ?_ | refine ok_ixL (by with_unfolding_all exact rfl) ?_)
  | (with_reducible show CbK _ _ _ _; with_reducible first | refine ck_lenL ?_ | refine ck_lenT ?_ | refine ck_int ?_ | refine ck_intB ?_ | refine ck_max ?_ | refine ck_min ?_ | refine ck_list ?_)
  | with_reducible refine wq_of ?_
  | (with_reducible show WG _ _ _ _ _; with_reducible first | refine wg_name (by with_unfolding_all exact rfl) ?_ | refine wg_tup (by with_unfolding_all exact rfl) ?_ | refine wg_set (by with_unfolding_all exact rfl) ?_)
  | (with_reducible show WGs _ _ _ _ _; with_reducible first | refine wgs_cons ?_ | refine wgs_nil ?_)
  | with_reducible refine iteT ?_
  | with_reducible refine iteF ?_
  | with_reducible refine ⟨_, frz_per, ?_⟩
  | with_reducible refine ⟨_, frz_own, ?_⟩
  | refine ⟨_, rfl, ?_⟩
  | refine ⟨_, argD1, ?_⟩
  | refine ⟨_, argD2, ?_⟩
  | refine ⟨_, argD0, ?_⟩
  | refine ⟨_, argD3, ?_⟩
  | refine ⟨_, argD4, ?_⟩
  | refine ⟨_, _, rfl, rfl, rfl, ?_⟩
  | refine ⟨_, _, _, rfl, rfl, rfl, ?_⟩
  | refine ⟨(by simp only [List.length_cons, List.length_nil]; decide), ?_⟩
  | refine ⟨rfl, nd1, ?_⟩
  | refine ⟨rfl, nd0, ?_⟩)
local macro_rules | `(tactic| walk_at "go") => `(tactic| repeat walk_at "g1")
local macro_rules | `(tactic| walk_at "g2") => `(tactic| first
  | (with_reducible show WE _ _ _; with_reducible first | refine we_var (by with_unfolding_all exact rfl) ?_ | (show WE (tOp _ _ _) _ _; first | refine we_notN ?_ | refine we_ixS (by with_unfolding_all exact rfl) ?_ | refine we_ixScr (by with_unfolding_all exact rfl) ?_ | refine we_inS (by with_unfolding_all exact rfl) ?_ | refine we_notInS (by with_unfolding_all exact rfl) ?_ | refine we_eqS (by with_unfolding_all exact rfl) ?_ | refine we_neS (by with_unfolding_all exact rfl) ?_ | refine we_opK ?_) | (show WE (tCB _ _) _ _; first | refine we_isInt ?_ | refine we_isBl ?_ | refine we_isLst ?_ | refine we_isTup ?_ | refine we_lenO (by with_unfolding_all exact rfl) ?_ | refine we_lenS' (by with_unfolding_all exact rfl) ?_ | refine we_lenScr (by with_unfolding_all exact rfl) ?_ | refine we_cbK ?_) | refine we_chain ?_ | refine we_slice ?_ | refine we_int ?_ | refine we_bl ?_ | refine we_non ?_ | refine we_str ?_ | refine we_neg ?_ | refine we_not ?_ | refine we_and ?_ | refine we_or ?_ | refine we_if ?_ | refine we_tup ?_ | refine we_lst ?_ | refine we_call ?_ | refine we_mt (by with_unfolding_all exact rfl) ?_)
  | (with_reducible show WS _ _ _ _; with_reducible first | refine ws_seqA ?_ | refine ws_seqD ?_ | refine ws_asg (by with_unfolding_all exact rfl) ?_ | refine ws_asgG ?_ | refine ws_if ?_ | refine ws_ret ?_ | refine ws_drop ?_ | refine ws_next ?_ | refine ws_retN ?_)
  | (with_reducible show WT _ _ _; with_reducible first | refine wt_test ?_ | refine wt_B ?_ | refine wt_not ?_ | refine wt_and ?_ | refine wt_or ?_ | refine wt_yes ?_)
  | (with_reducible show WA _ _ _; with_reducible first | refine wa_nil ?_ | refine wa_cons (wq_of (we_var (by with_unfolding_all exact rfl) ?_)) | refine wa_slotU (by with_unfolding_all exact rfl) ?_ | refine wa_cons ?_)
  | (with_reducible show OpK _ _ _ _ _; with_reducible first | refine ok_isB ?_ | refine ok_notB ?_ | refine ok_plusI ?_ | refine ok_sub ?_ | refine ok_lt ?_ | refine ok_le ?_ | refine ok_gt ?_ | refine ok_ge ?_ | refine ok_eqI ?_ | refine ok_neI ?_ | refine ok_mod (by first | assumption | decide | omega) ?_ | refine ok_ixL (by with_unfolding_all exact rfl) ?_)
  | (with_reducible show CbK _ _ _ _; with_reducible first | refine ck_lenL ?_ | refine ck_lenT ?_ | refine ck_int ?_ | refine ck_intB ?_ | refine ck_max ?_ | refine ck_min ?_ | refine ck_list ?_)
  | with_reducible refine wq_of ?_
  | (with_reducible show WG _ _ _ _ _; with_reducible first | refine wg_name (by with_unfolding_all exact rfl) ?_ | refine wg_tup (by with_unfolding_all exact rfl) ?_ | refine wg_set (by with_unfolding_all exact rfl) ?_)
  | (with_reducible show WGs _ _ _ _ _; with_reducible first | refine wgs_cons ?_ | refine wgs_nil ?_)
  | (with_reducible show WO _ _ _; with_reducible first | refine wo_some ?_ | refine wo_none ?_)
  | refine ⟨_, argD5, ?_⟩
  | refine ⟨_, argD6, ?_⟩
  | refine ⟨_, argD7, ?_⟩
  | refine ⟨_, argD9, ?_⟩
  | with_reducible refine iteT ?_
  | with_reducible refine iteF ?_
  | with_reducible refine ⟨_, frz_per, ?_⟩
  | with_reducible refine ⟨_, frz_own, ?_⟩
  | refine ⟨_, rfl, ?_⟩
  | refine ⟨_, argD1, ?_⟩
  | refine ⟨_, argD2, ?_⟩
  | refine ⟨_, argD0, ?_⟩
  | refine ⟨_, argD3, ?_⟩
  | refine ⟨_, argD4, ?_⟩
  | refine ⟨_, _, rfl, rfl, rfl, ?_⟩
  | refine ⟨_, _, _, rfl, rfl, rfl, ?_⟩
  | refine ⟨(by simp only [List.length_cons, List.length_nil]; decide), ?_⟩
  | refine ⟨rfl, nd1, ?_⟩
  | refine ⟨rfl, nd0, ?_⟩)
def big : Nat := 1000000000000000
end G

/-! ### the jar: what is drawn from -/
namespace G
open PySem L2
abbrev rMulW : R2 := rI CMulW fun i j => .int (i * j)
section
variable {K : PySem.W.Frag} {Γ : Ga} {k : Gp → Ga → Prop}
theorem ok_mulW {i j : Int} (c : CMulW i j) (hk : k (dat (.int (i * j))) Γ) : OpK rMulW (.int i) (.int j) k Γ := ok_of (od_I c) hk
end
def jar (m : Nat) : Gp := exG fun x : Int × Int × Int => whenG ((0 ≤ x.2.2 ∧ x.2.2 + (m : Int) ≤ 2 ^ 60) ∧ 0 ≤ x.2.1 ∧ x.2.1 < 2 ^ 90) (own [.int x.1, .int x.2.1, .int x.2.2])
theorem jar_mk {a b c : Int} {m : Nat} (h0 : 0 ≤ c) (h1 : c + (m : Int) ≤ 2 ^ 60) (b0 : 0 ≤ b) (b1 : b < 2 ^ 90) : Ent (own [.int a, .int b, .int c]) (jar m) := fun _ _ _ h => ⟨(a, b, c), ⟨⟨h0, h1⟩, b0, b1⟩, h⟩
theorem ws_jar {Γ : Ga} {P : Nat → Bool} {t : TS} {D : Pe} {i m : Nat} (h : Γ[i]? = some (some (jar m))) (c : ∀ a b c : Int, 0 ≤ c → c + (m : Int) ≤ 2 ^ 60 → 0 ≤ b → b < 2 ^ 90 → WS P t (Γ.set i (some (own [.int a, .int b, .int c]))) D) : WS P t Γ D := by
  refine ws_open h fun ⟨a, b, d⟩ => ?_
  refine ws_when (i := i) (φ := (0 ≤ d ∧ d + (m : Int) ≤ 2 ^ 60) ∧ 0 ≤ b ∧ b < 2 ^ 90) (g := own [.int a, .int b, .int d]) ?_ fun z => ?_
  · rw [set_eq, if_pos rfl, if_pos (List.getElem?_eq_some_iff.mp h).1]
  · rw [List.set_set]
    exact c a b d z.1.1 z.1.2 z.2.1 z.2.2
theorem wa_slotJ {Γ : Ga} {k : List Arg → Ga → Prop} {ta : TA} {i m : Nat} (h : Γ[i]? = some (some (jar m))) (hk : WA ta Γ fun as Γ1 => k (.s i :: as) Γ1) : WA (tCons (tVar i) ta) Γ k := wa_slot ⟨_, h⟩ hk
end G

namespace G
open PySem L2
local macro_rules | `(tactic| walk_at "g1") => `(tactic| first
  | (with_reducible show WE _ _ _; with_reducible first | refine we_var (by with_unfolding_all exact rfl) ?_ | (show WE (tOp _ _ _) _ _; first | refine we_ixS (by with_unfolding_all exact rfl) ?_ | refine we_ixScr (by with_unfolding_all exact rfl) ?_ | refine we_inS (by with_unfolding_all exact rfl) ?_ | refine we_notInS (by with_unfolding_all exact rfl) ?_ | refine we_eqS (by with_unfolding_all exact rfl) ?_ | refine we_neS (by with_unfolding_all exact rfl) ?_ | refine we_opK ?_) | (show WE (tCB _ _) _ _; first | refine we_lenS' (by with_unfolding_all exact rfl) ?_ | refine we_lenScr (by with_unfolding_all exact rfl) ?_ | refine we_cbK ?_) | refine we_int ?_ | refine we_bl ?_ | refine we_non ?_ | refine we_str ?_ | refine we_neg ?_ | refine we_not ?_ | refine we_and ?_ | refine we_or ?_ | refine we_if ?_ | refine we_tup ?_ | refine we_lst ?_ | refine we_call ?_ | refine we_mt (by with_unfolding_all exact rfl) ?_)
  | (with_reducible show WS _ _ _ _; with_reducible first | refine ws_seqA ?_ | refine ws_seqD ?_ | refine ws_asg (by with_unfolding_all exact rfl) ?_ | refine ws_asgG ?_ | refine ws_if ?_ | refine ws_ret ?_ | refine ws_drop ?_ | refine ws_next ?_ | refine ws_retN ?_)
  | (with_reducible show WT _ _ _; with_reducible first | refine wt_test ?_ | refine wt_B ?_ | refine wt_not ?_ | refine wt_and ?_ | refine wt_or ?_ | refine wt_yes ?_)
  | (with_reducible show WA _ _ _; with_reducible first | refine wa_nil ?_ | refine wa_cons (wq_of (we_var (by with_unfolding_all exact rfl) ?_)) | refine wa_slotU (by with_unfolding_all exact rfl) ?_ | refine wa_cons ?_)
  | (with_reducible show OpK _ _ _ _ _; with_reducible first | refine ok_plusI ?_ | refine ok_sub ?_ | refine ok_lt ?_ | refine ok_le ?_ | refine ok_gt ?_ | refine ok_ge ?_ | refine ok_eqI ?_ | refine ok_neI ?_ | refine ok_mod (by first | assumption | decide | omega) ?_ | refine ok_ixL (by with_unfolding_all exact rfl) ?_)
  | (with_reducible show CbK _ _ _ _; with_reducible first | refine ck_lenL ?_ | refine ck_lenT ?_ | refine ck_int ?_ | refine ck_intB ?_ | refine ck_max ?_ | refine ck_min ?_ | refine ck_list ?_)
  | with_reducible refine wq_of ?_
  | (with_reducible show WG _ _ _ _ _; with_reducible first | refine wg_name (by with_unfolding_all exact rfl) ?_ | refine wg_tup (by with_unfolding_all exact rfl) ?_ | refine wg_set (by with_unfolding_all exact rfl) ?_)
  | (with_reducible show WGs _ _ _ _ _; with_reducible first | refine wgs_cons ?_ | refine wgs_nil ?_)
  | with_reducible refine iteT ?_
  | with_reducible refine iteF ?_
  | with_reducible refine ⟨_, frz_per, ?_⟩
  | with_reducible refine ⟨_, frz_own, ?_⟩
  | refine ⟨_, rfl, ?_⟩
  | refine ⟨_, argD1, ?_⟩
  | refine ⟨_, argD2, ?_⟩
  | refine ⟨_, argD0, ?_⟩
  | refine ⟨_, argD3, ?_⟩
  | refine ⟨_, argD4, ?_⟩
  | refine ⟨_, _, rfl, rfl, rfl, ?_⟩
  | refine ⟨_, _, _, rfl, rfl, rfl, ?_⟩
  | refine ⟨(by simp only [List.length_cons, List.length_nil]; decide), ?_⟩
  | refine ⟨rfl, nd1, ?_⟩
  | refine ⟨rfl, nd0, ?_⟩)
local macro_rules | `(tactic| walk_at "go") => `(tactic| repeat walk_at "g1")
local macro_rules | `(tactic| walk_at "g2") => `(tactic| first
  | (with_reducible show WE _ _ _; with_reducible first | refine we_var (by with_unfolding_all exact rfl) ?_ | (show WE (tOp _ _ _) _ _; first | refine we_notN ?_ | refine we_ixS (by with_unfolding_all exact rfl) ?_ | refine we_ixScr (by with_unfolding_all exact rfl) ?_ | refine we_inS (by with_unfolding_all exact rfl) ?_ | refine we_notInS (by with_unfolding_all exact rfl) ?_ | refine we_eqS (by with_unfolding_all exact rfl) ?_ | refine we_neS (by with_unfolding_all exact rfl) ?_ | refine we_opK ?_) | (show WE (tCB _ _) _ _; first | refine we_isInt ?_ | refine we_isBl ?_ | refine we_isLst ?_ | refine we_isTup ?_ | refine we_lenO (by with_unfolding_all exact rfl) ?_ | refine we_lenS' (by with_unfolding_all exact rfl) ?_ | refine we_lenScr (by with_unfolding_all exact rfl) ?_ | refine we_cbK ?_) | refine we_chain ?_ | refine we_slice ?_ | refine we_int ?_ | refine we_bl ?_ | refine we_non ?_ | refine we_str ?_ | refine we_neg ?_ | refine we_not ?_ | refine we_and ?_ | refine we_or ?_ | refine we_if ?_ | refine we_tup ?_ | refine we_lst ?_ | refine we_call ?_ | refine we_mt (by with_unfolding_all exact rfl) ?_)
  | (with_reducible show WS _ _ _ _; with_reducible first | refine ws_seqA ?_ | refine ws_seqD ?_ | refine ws_asg (by with_unfolding_all exact rfl) ?_ | refine ws_asgG ?_ | refine ws_if ?_ | refine ws_ret ?_ | refine ws_drop ?_ | refine ws_next ?_ | refine ws_retN ?_)
  | (with_reducible show WT _ _ _; with_reducible first | refine wt_test ?_ | refine wt_B ?_ | refine wt_not ?_ | refine wt_and ?_ | refine wt_or ?_ | refine wt_yes ?_)
  | (with_reducible show WA _ _ _; with_reducible first | refine wa_nil ?_ | refine wa_cons (wq_of (we_var (by with_unfolding_all exact rfl) ?_)) | refine wa_slotU (by with_unfolding_all exact rfl) ?_ | refine wa_cons ?_)
  | (with_reducible show OpK _ _ _ _ _; with_reducible first | refine ok_isB ?_ | refine ok_notB ?_ | refine ok_plusI ?_ | refine ok_sub ?_ | refine ok_lt ?_ | refine ok_le ?_ | refine ok_gt ?_ | refine ok_ge ?_ | refine ok_eqI ?_ | refine ok_neI ?_ | refine ok_mod (by first | assumption | decide | omega) ?_ | refine ok_ixL (by with_unfolding_all exact rfl) ?_)
  | (with_reducible show CbK _ _ _ _; with_reducible first | refine ck_lenL ?_ | refine ck_lenT ?_ | refine ck_int ?_ | refine ck_intB ?_ | refine ck_max ?_ | refine ck_min ?_ | refine ck_list ?_)
  | with_reducible refine wq_of ?_
  | (with_reducible show WG _ _ _ _ _; with_reducible first | refine wg_name (by with_unfolding_all exact rfl) ?_ | refine wg_tup (by with_unfolding_all exact rfl) ?_ | refine wg_set (by with_unfolding_all exact rfl) ?_)
  | (with_reducible show WGs _ _ _ _ _; with_reducible first | refine wgs_cons ?_ | refine wgs_nil ?_)
  | (with_reducible show WO _ _ _; with_reducible first | refine wo_some ?_ | refine wo_none ?_)
  | refine ⟨_, argD5, ?_⟩
  | refine ⟨_, argD6, ?_⟩
  | refine ⟨_, argD7, ?_⟩
  | refine ⟨_, argD9, ?_⟩
  | with_reducible refine iteT ?_
  | with_reducible refine iteF ?_
  | with_reducible refine ⟨_, frz_per, ?_⟩
  | with_reducible refine ⟨_, frz_own, ?_⟩
  | refine ⟨_, rfl, ?_⟩
  | refine ⟨_, argD1, ?_⟩
  | refine ⟨_, argD2, ?_⟩
  | refine ⟨_, argD0, ?_⟩
  | refine ⟨_, argD3, ?_⟩
  | refine ⟨_, argD4, ?_⟩
  | refine ⟨_, _, rfl, rfl, rfl, ?_⟩
  | refine ⟨_, _, _, rfl, rfl, rfl, ?_⟩
  | refine ⟨(by simp only [List.length_cons, List.length_nil]; decide), ?_⟩
  | refine ⟨rfl, nd1, ?_⟩
  | refine ⟨rfl, nd0, ?_⟩)
local macro_rules | `(tactic| walk_at "w") => `(tactic| first
  | (with_reducible show WE _ _ _; with_reducible first | refine we_var (by with_unfolding_all exact rfl) ?_ | refine we_varF (by with_unfolding_all exact rfl) frz_own ?_ | (show WE (tOp _ _ _) _ _; first | refine we_isNd ?_ | refine we_notNd ?_ | refine we_notN ?_ | refine we_ixS (by with_unfolding_all exact rfl) ?_ | refine we_ixScr (by with_unfolding_all exact rfl) ?_ | refine we_inS (by with_unfolding_all exact rfl) ?_ | refine we_notInS (by with_unfolding_all exact rfl) ?_ | refine we_eqS (by with_unfolding_all exact rfl) ?_ | refine we_neS (by with_unfolding_all exact rfl) ?_ | refine we_opK ?_) | (show WE (tCB _ _) _ _; first | refine we_repr ?_ | refine we_isInt ?_ | refine we_isBl ?_ | refine we_isLst ?_ | refine we_isTup ?_ | refine we_lenO (by with_unfolding_all exact rfl) ?_ | refine we_lenS' (by with_unfolding_all exact rfl) ?_ | refine we_lenScr (by with_unfolding_all exact rfl) ?_ | refine we_cbK ?_) | refine we_dnew ?_ | refine we_lenSetI ?_ | refine we_revL ?_ | refine we_chain ?_ | refine we_slice ?_ | refine we_int ?_ | refine we_bl ?_ | refine we_non ?_ | refine we_str ?_ | refine we_neg ?_ | refine we_not ?_ | refine we_and ?_ | refine we_or ?_ | refine we_if ?_ | refine we_tup ?_ | refine we_lst ?_ | refine we_call ?_ | refine we_mt (by with_unfolding_all exact rfl) ?_)
  | (with_reducible show WS _ _ _ _; with_reducible first | refine ws_seqI ?_ | refine ws_seqA ?_ | refine ws_seqD ?_ | refine ws_asg (by with_unfolding_all exact rfl) ?_ | refine ws_asgG ?_ | refine ws_if ?_ | refine ws_ret ?_ | refine ws_drop ?_ | refine ws_next ?_ | refine ws_retN ?_)
  | (with_reducible show WT _ _ _; with_reducible first | refine wt_truL ?_ | refine wt_test ?_ | refine wt_B ?_ | refine wt_not ?_ | refine wt_and ?_ | refine wt_or ?_ | refine wt_yes ?_)
  | (with_reducible show WA _ _ _; with_reducible first | refine wa_nil ?_ | refine wa_cons (wq_of (we_var (by with_unfolding_all exact rfl) ?_)) | refine wa_slotU (by with_unfolding_all exact rfl) ?_ | refine wa_cons ?_)
  | (with_reducible show OpK _ _ _ _ _; with_reducible first | refine ok_neR ?_ | refine ok_eqR ?_ | refine ok_isB ?_ | refine ok_notB ?_ | refine ok_plusI ?_ | refine ok_sub ?_ | refine ok_lt ?_ | refine ok_le ?_ | refine ok_gt ?_ | refine ok_ge ?_ | refine ok_eqI ?_ | refine ok_neI ?_ | refine ok_mod (by first | assumption | decide | omega) ?_ | refine ok_ixL (by with_unfolding_all exact rfl) ?_)
  | (with_reducible show CbK _ _ _ _; with_reducible first | refine ck_tuple ?_ | refine ck_allF ?_ | refine ck_anyF ?_ | refine ck_abs ?_ | refine ck_sumI ?_ | refine ck_lenL ?_ | refine ck_lenT ?_ | refine ck_int ?_ | refine ck_intB ?_ | refine ck_max ?_ | refine ck_min ?_ | refine ck_list ?_)
  | with_reducible refine wq_of ?_
  | (with_reducible show WG _ _ _ _ _; with_reducible first | refine wg_name (by with_unfolding_all exact rfl) ?_ | refine wg_tup (by with_unfolding_all exact rfl) ?_ | refine wg_set (by with_unfolding_all exact rfl) ?_)
  | (with_reducible show WGs _ _ _ _ _; with_reducible first | refine wgs_cons ?_ | refine wgs_nil ?_)
  | (with_reducible show WO _ _ _; with_reducible first | refine wo_some ?_ | refine wo_none ?_)
  | refine ⟨_, argD5, ?_⟩
  | refine ⟨_, argD6, ?_⟩
  | refine ⟨_, argD7, ?_⟩
  | refine ⟨_, argD9, ?_⟩
  | with_reducible refine iteT ?_
  | with_reducible refine iteF ?_
  | with_reducible refine ⟨_, frz_per, ?_⟩
  | with_reducible refine ⟨_, frz_own, ?_⟩
  | refine ⟨_, rfl, ?_⟩
  | refine ⟨_, argD1, ?_⟩
  | refine ⟨_, argD2, ?_⟩
  | refine ⟨_, argD0, ?_⟩
  | refine ⟨_, argD3, ?_⟩
  | refine ⟨_, argD4, ?_⟩
  | refine ⟨_, _, rfl, rfl, rfl, ?_⟩
  | refine ⟨_, _, _, rfl, rfl, rfl, ?_⟩
  | refine ⟨(by simp only [List.length_cons, List.length_nil]; decide), ?_⟩
  | refine ⟨rfl, nd1, ?_⟩
  | refine ⟨rfl, nd0, ?_⟩
  | refine ⟨_, argD8, ?_⟩
  | refine ⟨_, argD10, ?_⟩)
local macro_rules | `(tactic| walk_at "v") => `(tactic| first
  | (with_reducible show WE _ _ _; with_reducible first | refine we_var (by with_unfolding_all exact rfl) ?_ | refine we_varF (by with_unfolding_all exact rfl) frz_own ?_ | (show WE (tOp _ _ _) _ _; first | refine we_isNd ?_ | refine we_notNd ?_ | refine we_notN ?_ | refine we_ixS (by with_unfolding_all exact rfl) ?_ | refine we_ixScr (by with_unfolding_all exact rfl) ?_ | refine we_inS (by with_unfolding_all exact rfl) ?_ | refine we_notInS (by with_unfolding_all exact rfl) ?_ | refine we_eqS (by with_unfolding_all exact rfl) ?_ | refine we_neS (by with_unfolding_all exact rfl) ?_ | refine we_opK ?_) | (show WE (tCB _ _) _ _; first | refine we_repr ?_ | refine we_lenWeb (by with_unfolding_all exact rfl) (by assumption) ?_ | refine we_isInt ?_ | refine we_isBl ?_ | refine we_isLst ?_ | refine we_isTup ?_ | refine we_lenO (by with_unfolding_all exact rfl) ?_ | refine we_lenS' (by with_unfolding_all exact rfl) ?_ | refine we_lenScr (by with_unfolding_all exact rfl) ?_ | refine we_cbK ?_) | refine we_dnew ?_ | refine we_lenSetI ?_ | refine we_revL ?_ | refine we_nbWeb (by with_unfolding_all exact rfl) (by assumption) (by assumption) ?_ | refine we_tiesWeb (by with_unfolding_all exact rfl) ?_ | refine we_chain ?_ | refine we_slice ?_ | refine we_int ?_ | refine we_bl ?_ | refine we_non ?_ | refine we_str ?_ | refine we_neg ?_ | refine we_not ?_ | refine we_and ?_ | refine we_or ?_ | refine we_if ?_ | refine we_tup ?_ | refine we_lst ?_ | refine we_call ?_ | refine we_mt (by with_unfolding_all exact rfl) ?_)
  | (with_reducible show WS _ _ _ _; with_reducible first | refine ws_seqI ?_ | refine ws_seqA ?_ | refine ws_seqD ?_ | refine ws_asg (by with_unfolding_all exact rfl) ?_ | refine ws_asgG ?_ | refine ws_if ?_ | refine ws_ret ?_ | refine ws_drop ?_ | refine ws_next ?_ | refine ws_retN ?_)
  | (with_reducible show WT _ _ _; with_reducible first | refine wt_truL ?_ | refine wt_test ?_ | refine wt_B ?_ | refine wt_not ?_ | refine wt_and ?_ | refine wt_or ?_ | refine wt_yes ?_)
  | (with_reducible show WA _ _ _; with_reducible first | refine wa_nil ?_ | refine wa_cons (wq_of (we_var (by with_unfolding_all exact rfl) ?_)) | refine wa_slotU (by with_unfolding_all exact rfl) ?_ | refine wa_cons ?_)
  | (with_reducible show OpK _ _ _ _ _; with_reducible first | refine ok_neR ?_ | refine ok_eqR ?_ | refine ok_isB ?_ | refine ok_notB ?_ | refine ok_plusI ?_ | refine ok_sub ?_ | refine ok_lt ?_ | refine ok_le ?_ | refine ok_gt ?_ | refine ok_ge ?_ | refine ok_eqI ?_ | refine ok_neI ?_ | refine ok_mod (by first | assumption | decide | omega) ?_ | refine ok_ixL (by with_unfolding_all exact rfl) ?_)
  | (with_reducible show CbK _ _ _ _; with_reducible first | refine ck_tuple ?_ | refine ck_allF ?_ | refine ck_anyF ?_ | refine ck_abs ?_ | refine ck_sumI ?_ | refine ck_lenL ?_ | refine ck_lenT ?_ | refine ck_int ?_ | refine ck_intB ?_ | refine ck_max ?_ | refine ck_min ?_ | refine ck_list ?_)
  | with_reducible refine wq_of ?_
  | (with_reducible show WG _ _ _ _ _; with_reducible first | refine wg_name (by with_unfolding_all exact rfl) ?_ | refine wg_tup (by with_unfolding_all exact rfl) ?_ | refine wg_set (by with_unfolding_all exact rfl) ?_)
  | (with_reducible show WGs _ _ _ _ _; with_reducible first | refine wgs_cons ?_ | refine wgs_nil ?_)
  | (with_reducible show WO _ _ _; with_reducible first | refine wo_some ?_ | refine wo_none ?_)
  | refine ⟨_, argD5, ?_⟩
  | refine ⟨_, argD6, ?_⟩
  | refine ⟨_, argD7, ?_⟩
  | refine ⟨_, argD9, ?_⟩
  | with_reducible refine iteT ?_
  | with_reducible refine iteF ?_
  | with_reducible refine ⟨_, frz_per, ?_⟩
  | with_reducible refine ⟨_, frz_own, ?_⟩
  | refine ⟨_, rfl, ?_⟩
  | refine ⟨_, argD1, ?_⟩
  | refine ⟨_, argD2, ?_⟩
  | refine ⟨_, argD0, ?_⟩
  | refine ⟨_, argD3, ?_⟩
  | refine ⟨_, argD4, ?_⟩
  | refine ⟨_, _, rfl, rfl, rfl, ?_⟩
  | refine ⟨_, _, _, rfl, rfl, rfl, ?_⟩
  | refine ⟨(by simp only [List.length_cons, List.length_nil]; decide), ?_⟩
  | refine ⟨rfl, nd1, ?_⟩
  | refine ⟨rfl, nd0, ?_⟩
  | refine ⟨_, argD8, ?_⟩
  | refine ⟨_, argD10, ?_⟩)
local macro_rules | `(tactic| walk_at "p") => `(tactic| refine ⟨_, _, rfl, (by omega), (by first | decide | omega), (by first | decide | omega), ?_⟩)
local macro_rules | `(tactic| walk_at "n") => `(tactic| try dsimp only [back, List.set_cons_zero, List.set_cons_succ, List.map_cons, List.map_nil, List.cons_append, List.nil_append])
local macro_rules | `(tactic| walk_at "q") => `(tactic| first | with_reducible refine ws_seqP (ws_par (by with_unfolding_all exact rfl) (by with_unfolding_all exact rfl) ?_) | refine ⟨_, _, rfl, ?_⟩ | walk_at "v")
namespace J
abbrev t_law_draw_0 (K : PySem.W.Frag) : TS :=
  (tSeq (tAsg (tOp (rModI) (tCB (rInt1) (tCons (tOp (rIx K) (tVar 0) (tC (.int 0))) tNil)) (tVar 1)) (gName 2))
    (tSeq (tAsg (tOp (rDivI) (tOp (rIx K) (tVar 0) (tC (.int 0))) (tVar 1)) (gSub (tVar 0) (tC (.int 0)) rSetL))
    (tRet (tVar 2))))
abbrev t_law_draw_1 (K : PySem.W.Frag) : TS :=
  (tSeq (tAsg (tOp (rModI) (tCB (rInt1) (tCons (tOp (rPlus K) (tOp (rMulW) (tVar 3) (tVar 3)) (tOp (rIx K) (tVar 0) (tC (.int 1)))) tNil)) (tOp (rPlus K) (tOp (rPowI) (tC (.int 10)) (tC (.int 25))) (tC (.int 13)))) (gName 3))
    (tRet (tOp (rModI) (tCB (rInt1) (tCons (tOp (rDivI) (tVar 3) (tC (.int 8191))) tNil)) (tVar 1))))
abbrev t_law_draw_2 (K : PySem.W.Frag) : TS :=
  (tSeq (tAsg (tOp (rModI) (tCB (rInt1) (tCons (tOp (rMulW) (tVar 3) (tVar 3)) tNil)) (tOp (rPlus K) (tOp (rPowI) (tC (.int 10)) (tC (.int 27))) (tC (.int 103)))) (gName 3))
    (t_law_draw_1 K))
abbrev t_law_draw_3 (K : PySem.W.Frag) : TS :=
  (tSeq (tAsg (tOp (rPlus K) (tOp (rPlus K) (tOp (rMulW) (tOp (rIx K) (tVar 0) (tC (.int 1))) (tC (.int 7368787))) (tOp (rMulW) (tOp (rMulW) (tOp (rIx K) (tVar 0) (tC (.int 2))) (tOp (rIx K) (tVar 0) (tC (.int 2)))) (tC (.int 3267000013)))) (tOp (rIx K) (tVar 0) (tC (.int 2)))) (gName 3))
    (t_law_draw_2 K))
abbrev t_law_draw_4 (K : PySem.W.Frag) : TS :=
  (tSeq (tIfS (tTest (tOp (rGtI) (tOp (rIx K) (tVar 0) (tC (.int 0))) (tC (.int 0)))) (t_law_draw_0 K) tNext)
    (tSeq (tAsg (tOp (rPlus K) (tOp (rIx K) (tVar 0) (tC (.int 2))) (tC (.int 1))) (gSub (tVar 0) (tC (.int 2)) rSetL))
    (t_law_draw_3 K)))
def t_law_draw (K : PySem.W.Frag) : TS :=
  (t_law_draw_4 K)
abbrev N_law_draw : List Str := ["jar", "many", "drawn", "mixed"]
abbrev F_law_draw : Fw := fun gs kk xx => ∃ m many, gs = [jar m, dat (.int many)] ∧ 1 ≤ m ∧ 0 < many ∧ many < 2 ^ 100 ∧ ∀ r : Int, 0 ≤ r → r < many → kk (dat (.int r)) [some (jar (m - 1)), none]
abbrev sp_law_draw (K : PySem.W.Frag) : Sp := SpG 2 F_law_draw
theorem pure_law_draw {K : PySem.W.Frag} {vs : List V} {H : Hp} {Q : VK} {E : XK} (h : sp_law_draw K vs H Q E) : t_law_draw K { nx := fun _ H' => Q .non H', rt := Q } (L2.start N_law_draw vs) H := by
  refine body_ok (fun i => i == 0) ?_ h
  rintro gs kk xx ⟨m, many, rfl, hm, h0, hM, hk⟩ -
  refine ws_jar (i := 0) rfl fun a b c c0 c1 b0 b1 => ?_
  unfold t_law_draw
  show WS _ _ [some (own [.int a, .int b, .int c]), some (dat (.int many)), none, none] _
  refine ws_seq ?_
  repeat walk_at "v"
  refine ite_dec (fun ha => ?_) (fun ha => ?_)
  · repeat walk_at "v"
    refine ok_div (cdiv_of h0 hM (by decide) (by decide)) ?_
    repeat walk_at "v"
    exact ⟨_, _, Ent.refl, les_some (jar_mk c0 (by omega) b0 b1) (les_none les_nil), hk _ (Int.emod_nonneg _ (by omega)) (Int.emod_lt_of_pos _ h0)⟩
  · repeat walk_at "v"
    have hb : b.natAbs < 2 ^ 91 := by omega
    have hc : (c + 1).natAbs < 2 ^ 61 := by omega
    refine ok_mulW (wide_mul hb (b := 23) (by decide) (by decide) (by decide) (by decide)) ?_
    repeat walk_at "v"
    refine ok_mulW (wide_mul hc hc (by decide) (by decide) (by decide)) ?_
    have hcc := wide_lt hc hc
    have hcn : 0 ≤ (c + 1) * (c + 1) := Int.mul_nonneg (by omega) (by omega)
    generalize (c + 1) * (c + 1) = d at hcc hcn
    repeat walk_at "v"
    refine ok_mulW (wide_mul hcc (b := 32) (by decide) (by decide) (by decide) (by decide)) ?_
    repeat walk_at "v"
    have hx : (b * 7368787 + d * 3267000013 + (c + 1)).natAbs < 2 ^ 160 := by omega
    generalize b * 7368787 + d * 3267000013 + (c + 1) = x at hx
    refine ok_mulW (wide_mul hx hx (by decide) (by decide) (by decide)) ?_
    generalize x * x = x2
    repeat walk_at "v"
    refine ok_pow (cpow_of (by decide) (by decide) (by decide)) ?_
    rw [show (10 : Int) ^ (27 : Int).toNat = 1000000000000000000000000000 by decide]
    repeat walk_at "v"
    have hy0 : 0 ≤ x2 % (1000000000000000000000000000 + 103) := Int.emod_nonneg _ (by decide)
    have hy1 : x2 % (1000000000000000000000000000 + 103) < 1000000000000000000000000000 + 103 := Int.emod_lt_of_pos _ (by decide)
    generalize x2 % (1000000000000000000000000000 + 103) = y at hy0 hy1
    have hy : y.natAbs < 2 ^ 91 := by omega
    refine ok_mulW (wide_mul hy hy (by decide) (by decide) (by decide)) ?_
    generalize y * y = y2
    repeat walk_at "v"
    refine ok_pow (cpow_of (by decide) (by decide) (by decide)) ?_
    rw [show (10 : Int) ^ (25 : Int).toNat = 10000000000000000000000000 by decide]
    repeat walk_at "v"
    refine ok_div (cdiv_of (b := 32) (by decide) (by decide) (by decide) (by decide)) ?_
    repeat walk_at "v"
    exact ⟨_, _, Ent.refl, les_some (jar_mk (m := m - 1) (by omega) (by omega) b0 b1) (les_none les_nil), hk _ (Int.emod_nonneg _ (by omega)) (Int.emod_lt_of_pos _ h0)⟩
abbrev t_law_jar_0 (K : PySem.W.Frag) : TS :=
  (tRet (tLst (tCons (tCB (rMax2) (tCons (tC (.int 0)) (tCons (tOp (rSubI) (tVar 3) (tOp (rPowI) (tC (.int 10)) (tC (.int 18)))) tNil))) (tCons (tOp (rPlus K) (tOp (rMulI) (tOp (rModI) (tCB (rInt1) (tCons (tVar 3) tNil)) (tOp (rPlus K) (tOp (rPowI) (tC (.int 10)) (tC (.int 24))) (tC (.int 7)))) (tC (.int 2))) (tCB (rInt1) (tCons (tOp (rLtI) (tVar 2) (tC (.int 0))) tNil))) (tCons (tOp (rPlus K) (tOp (rMulI) (tC (.int 17)) (tVar 1)) (tC (.int 3))) tNil)))))
abbrev t_law_jar_1 (K : PySem.W.Frag) : TS :=
  (tSeq (tIfS (tTest (tOp (rLtI) (tVar 1) (tCB (rLenA K) (tCons (tVar 0) tNil)))) (tAsg (tOp (rIx K) (tVar 0) (tVar 1)) (gName 2)) tNext)
    (tSeq (tAsg (tCB (rAbsI) (tCons (tVar 2) tNil)) (gName 3))
    (t_law_jar_0 K)))
def t_law_jar (K : PySem.W.Frag) : TS :=
  (tSeq (tAsg (tC (.int 0)) (gName 2))
    (t_law_jar_1 K))
abbrev N_law_jar : List Str := ["script", "k", "cell", "size"]
abbrev F_law_jar (K : PySem.W.Frag) : Fw := fun gs kk xx => ∃ ns j, gs = [per (scrP K ns), dat (.int j)] ∧ 0 ≤ j ∧ j ≤ 100 ∧ ns.length ≤ 63 ∧ kk (jar big) [none, none]
abbrev sp_law_jar (K : PySem.W.Frag) : Sp := SpG 2 (F_law_jar K)
theorem pure_law_jar {K : PySem.W.Frag} {vs : List V} {H : Hp} {Q : VK} {E : XK} (h : sp_law_jar K vs H Q E) : t_law_jar K { nx := fun _ H' => Q .non H', rt := Q } (L2.start N_law_jar vs) H := by
  refine body_ok (fun _ => false) ?_ h
  rintro gs kk xx ⟨ns, j, rfl, hj, hj2, hn, hk⟩ -
  unfold t_law_jar
  show WS _ _ [some (per (scrP K ns)), some (dat (.int j)), none, none] _
  refine ws_seq (ws_asg rfl (we_int ?_))
  walk_at "n"
  refine ws_cut (fun Γ => ∃ c : Int, Γ = [some (per (scrP K ns)), some (dat (.int j)), some (dat (.int c)), none]) ?_ ?_
  · refine ws_if ?_
    repeat walk_at "v"
    refine ite_dec (fun h => ?_) fun h => ws_next ⟨_, rfl⟩
    obtain ⟨i, rfl⟩ : ∃ i : Nat, j = (i : Int) := ⟨j.toNat, by omega⟩
    have hi : i < ns.length := by omega
    repeat walk_at "v"
    refine ⟨_, _, rfl, at_nat i rfl (List.getElem?_eq_getElem hi), ?_⟩
    exact ⟨_, rfl⟩
  · rintro _ ⟨c, rfl⟩
    walk_at "n"
    repeat walk_at "v"
    refine ok_pow (cpow_of (by decide) (by decide) (by decide)) ?_
    repeat walk_at "v"
    refine ok_pow (cpow_of (by decide) (by decide) (by decide)) ?_
    rw [show (10 : Int) ^ (24 : Int).toNat = 1000000000000000000000000 by decide]
    repeat walk_at "v"
    refine ok_mul (cmul_r (by decide) (by decide)) ?_
    repeat walk_at "v"
    refine ok_mul (cmul_l (by decide) (by decide)) ?_
    repeat walk_at "v"
    have h0 : 0 ≤ (if c < 0 then -c else c) % (1000000000000000000000000 + 7) := Int.emod_nonneg _ (by decide)
    have h1 : (if c < 0 then -c else c) % (1000000000000000000000000 + 7) < 1000000000000000000000000 + 7 := Int.emod_lt_of_pos _ (by decide)
    generalize (if c < 0 then -c else c) % (1000000000000000000000000 + 7) = x at h0 h1
    have h2 : 0 ≤ (if decide (c < 0) = true then (1 : Int) else 0) ∧ (if decide (c < 0) = true then (1 : Int) else 0) ≤ 1 := by split <;> decide
    refine ⟨_, _, jar_mk (m := big) (by omega) (by unfold big; omega) (by omega) (by omega), les_none (les_none les_nil), hk⟩
end J
end G

namespace G
open PySem L2
local macro_rules | `(tactic| walk_at "g1") => `(tactic| first
  | (with_reducible show WE _ _ _; with_reducible first | refine we_var (by with_unfolding_all exact rfl) ?_ | (show WE (tOp _ _ _) _ _; first | refine we_ixS (by with_unfolding_all exact rfl) ?_ | refine we_ixScr (by with_unfolding_all exact rfl) ?_ | refine we_inS (by with_unfolding_all exact rfl) ?_ | refine we_notInS (by with_unfolding_all exact rfl) ?_ | refine we_eqS (by with_unfolding_all exact rfl) ?_ | refine we_neS (by with_unfolding_all exact rfl) ?_ | refine we_opK ?_) | (show WE (tCB _ _) _ _; first | refine we_lenS' (by with_unfolding_all exact rfl) ?_ | refine we_lenScr (by with_unfolding_all exact rfl) ?_ | refine we_cbK ?_) | refine we_int ?_ | refine we_bl ?_ | refine we_non ?_ | refine we_str ?_ | refine we_neg ?_ | refine we_not ?_ | refine we_and ?_ | refine we_or ?_ | refine we_if ?_ | refine we_tup ?_ | refine we_lst ?_ | refine we_call ?_ | refine we_mt (by with_unfolding_all exact rfl) ?_)
  | (with_reducible show WS _ _ _ _; with_reducible first | refine ws_seqA ?_ | refine ws_seqD ?_ | refine ws_asg (by with_unfolding_all exact rfl) ?_ | refine ws_asgG ?_ | refine ws_if ?_ | refine ws_ret ?_ | refine ws_drop ?_ | refine ws_next ?_ | refine ws_retN ?_)
  | (with_reducible show WT _ _ _; with_reducible first | refine wt_test ?_ | refine wt_B ?_ | refine wt_not ?_ | refine wt_and ?_ | refine wt_or ?_ | refine wt_yes ?_)
  | (with_reducible show WA _ _ _; with_reducible first | refine wa_nil ?_ | refine wa_cons (wq_of (we_var (by with_unfolding_all exact rfl) ?_)) | refine wa_slotU (by with_unfolding_all exact rfl) ?_ | refine wa_cons ?_)
  | (with_reducible show OpK _ _ _ _ _; with_reducible first | refine ok_plusI ?_ | refine ok_sub ?_ | refine ok_lt ?_ | refine ok_le ?_ | refine ok_gt ?_ | refine ok_ge ?_ | refine ok_eqI ?_ | refine ok_neI ?_ | refine ok_mod (by first | assumption | decide | omega) ?_ | refine ok_ixL (by with_unfolding_all exact rfl) ?_)
  | (with_reducible show CbK _ _ _ _; with_reducible first | refine ck_lenL ?_ | refine ck_lenT ?_ | refine ck_int ?_ | refine ck_intB ?_ | refine ck_max ?_ | refine ck_min ?_ | refine ck_list ?_)
  | with_reducible refine wq_of ?_
  | (with_reducible show WG _ _ _ _ _; with_reducible first | refine wg_name (by with_unfolding_all exact rfl) ?_ | refine wg_tup (by with_unfolding_all exact rfl) ?_ | refine wg_set (by with_unfolding_all exact rfl) ?_)
  | (with_reducible show WGs _ _ _ _ _; with_reducible first | refine wgs_cons ?_ | refine wgs_nil ?_)
  | with_reducible refine iteT ?_
  | with_reducible refine iteF ?_
  | with_reducible refine ⟨_, frz_per, ?_⟩
  | with_reducible refine ⟨_, frz_own, ?_⟩
  | refine ⟨_, rfl, ?_⟩
  | refine ⟨_, argD1, ?_⟩
  | refine ⟨_, argD2, ?_⟩
  | refine ⟨_, argD0, ?_⟩
  | refine ⟨_, argD3, ?_⟩
  | refine ⟨_, argD4, ?_⟩
  | refine ⟨_, _, rfl, rfl, rfl, ?_⟩
  | refine ⟨_, _, _, rfl, rfl, rfl, ?_⟩
  | refine ⟨(by simp only [List.length_cons, List.length_nil]; decide), ?_⟩
  | refine ⟨rfl, nd1, ?_⟩
  | refine ⟨rfl, nd0, ?_⟩)
local macro_rules | `(tactic| walk_at "go") => `(tactic| repeat walk_at "g1")
local macro_rules | `(tactic| walk_at "g2") => `(tactic| first
  | (with_reducible show WE _ _ _; with_reducible first | refine we_var (by with_unfolding_all exact rfl) ?_ | (show WE (tOp _ _ _) _ _; first | refine we_notN ?_ | refine we_ixS (by with_unfolding_all exact rfl) ?_ | refine we_ixScr (by with_unfolding_all exact rfl) ?_ | refine we_inS (by with_unfolding_all exact rfl) ?_ | refine we_notInS (by with_unfolding_all exact rfl) ?_ | refine we_eqS (by with_unfolding_all exact rfl) ?_ | refine we_neS (by with_unfolding_all exact rfl) ?_ | refine we_opK ?_) | (show WE (tCB _ _) _ _; first | refine we_isInt ?_ | refine we_isBl ?_ | refine we_isLst ?_ | refine we_isTup ?_ | refine we_lenO (by with_unfolding_all exact rfl) ?_ | refine we_lenS' (by with_unfolding_all exact rfl) ?_ | refine we_lenScr (by with_unfolding_all exact rfl) ?_ | refine we_cbK ?_) | refine we_chain ?_ | refine we_slice ?_ | refine we_int ?_ | refine we_bl ?_ | refine we_non ?_ | refine we_str ?_ | refine we_neg ?_ | refine we_not ?_ | refine we_and ?_ | refine we_or ?_ | refine we_if ?_ | refine we_tup ?_ | refine we_lst ?_ | refine we_call ?_ | refine we_mt (by with_unfolding_all exact rfl) ?_)
  | (with_reducible show WS _ _ _ _; with_reducible first | refine ws_seqA ?_ | refine ws_seqD ?_ | refine ws_asg (by with_unfolding_all exact rfl) ?_ | refine ws_asgG ?_ | refine ws_if ?_ | refine ws_ret ?_ | refine ws_drop ?_ | refine ws_next ?_ | refine ws_retN ?_)
  | (with_reducible show WT _ _ _; with_reducible first | refine wt_test ?_ | refine wt_B ?_ | refine wt_not ?_ | refine wt_and ?_ | refine wt_or ?_ | refine wt_yes ?_)
  | (with_reducible show WA _ _ _; with_reducible first | refine wa_nil ?_ | refine wa_cons (wq_of (we_var (by with_unfolding_all exact rfl) ?_)) | refine wa_slotU (by with_unfolding_all exact rfl) ?_ | refine wa_cons ?_)
  | (with_reducible show OpK _ _ _ _ _; with_reducible first | refine ok_isB ?_ | refine ok_notB ?_ | refine ok_plusI ?_ | refine ok_sub ?_ | refine ok_lt ?_ | refine ok_le ?_ | refine ok_gt ?_ | refine ok_ge ?_ | refine ok_eqI ?_ | refine ok_neI ?_ | refine ok_mod (by first | assumption | decide | omega) ?_ | refine ok_ixL (by with_unfolding_all exact rfl) ?_)
  | (with_reducible show CbK _ _ _ _; with_reducible first | refine ck_lenL ?_ | refine ck_lenT ?_ | refine ck_int ?_ | refine ck_intB ?_ | refine ck_max ?_ | refine ck_min ?_ | refine ck_list ?_)
  | with_reducible refine wq_of ?_
  | (with_reducible show WG _ _ _ _ _; with_reducible first | refine wg_name (by with_unfolding_all exact rfl) ?_ | refine wg_tup (by with_unfolding_all exact rfl) ?_ | refine wg_set (by with_unfolding_all exact rfl) ?_)
  | (with_reducible show WGs _ _ _ _ _; with_reducible first | refine wgs_cons ?_ | refine wgs_nil ?_)
  | (with_reducible show WO _ _ _; with_reducible first | refine wo_some ?_ | refine wo_none ?_)
  | refine ⟨_, argD5, ?_⟩
  | refine ⟨_, argD6, ?_⟩
  | refine ⟨_, argD7, ?_⟩
  | refine ⟨_, argD9, ?_⟩
  | with_reducible refine iteT ?_
  | with_reducible refine iteF ?_
  | with_reducible refine ⟨_, frz_per, ?_⟩
  | with_reducible refine ⟨_, frz_own, ?_⟩
  | refine ⟨_, rfl, ?_⟩
  | refine ⟨_, argD1, ?_⟩
  | refine ⟨_, argD2, ?_⟩
  | refine ⟨_, argD0, ?_⟩
  | refine ⟨_, argD3, ?_⟩
  | refine ⟨_, argD4, ?_⟩
  | refine ⟨_, _, rfl, rfl, rfl, ?_⟩
  | refine ⟨_, _, _, rfl, rfl, rfl, ?_⟩
  | refine ⟨(by simp only [List.length_cons, List.length_nil]; decide), ?_⟩
  | refine ⟨rfl, nd1, ?_⟩
  | refine ⟨rfl, nd0, ?_⟩)
local macro_rules | `(tactic| walk_at "g2") => `(tactic| first | with_reducible refine we_isInt ?_ | with_reducible refine we_isBl ?_ | with_reducible refine we_isLst ?_ | with_reducible refine we_isTup ?_ | with_reducible refine we_chain ?_ | with_reducible refine we_slice ?_ | with_reducible refine wo_some ?_ | with_reducible refine wo_none ?_ | walk_at "g1")
abbrev t_is_count_0 (K : PySem.W.Frag) : TS :=
  (tRet (tAndV (tCB (rIsiA K) (tCons (tVar 0) (tCons (tC (.ty "int")) tNil))) (tAndV (tNotV (tCB (rIsiA K) (tCons (tVar 0) (tCons (tC (.ty "bool")) tNil)))) (tOp (rGeI) (tVar 0) (tC (.int 0))))))
def t_is_count (K : PySem.W.Frag) : TS :=
  (t_is_count_0 K)
abbrev N_is_count : List Str := ["value"]
/-- a whole number from 0 on -/
def cntD : PyData → Bool
  | .int n => decide (0 ≤ n)
  | _ => false
def F_is_count : Fw := fun gs kk _ => ∃ d, gs = [dat d] ∧ kk (dat (.bool (cntD d))) [none]
abbrev sp_is_count (K : PySem.W.Frag) : Sp := SpG 1 F_is_count
theorem pure_is_count {K : PySem.W.Frag} {vs : List V} {H : Hp} {Q : VK} {E : XK} (h : sp_is_count K vs H Q E) : t_is_count K { nx := fun _ H' => Q .non H', rt := Q } (start N_is_count vs) H := by
  refine body_ok (fun _ => false) ?_ h
  rintro gs kk xx ⟨d, rfl, hk⟩ -
  unfold t_is_count
  repeat walk_at "g2"
  have out : ∀ {b : Bool}, cntD d = b → ∃ g' Γp, Ent (dat (.bool b)) g' ∧ Les (mask (fun _ => false) 1 (List.map some [dat d] ++ List.replicate (N_is_count.length - 1) none)) Γp ∧ kk g' Γp := fun {b} e => ⟨_, [none], Ent.refl, les_none les_nil, e ▸ hk⟩
  refine ite_b (fun e => ?_) fun e => out (by cases d <;> first | rfl | exact Bool.noConfusion e)
  repeat walk_at "g2"
  refine ite_b (fun e2 => ?_) fun e2 => out (by cases d <;> first | rfl | exact Bool.noConfusion e | exact Bool.noConfusion e2)
  cases d with
  | int n =>
    repeat walk_at "g2"
    exact out rfl
  | bool b => exact Bool.noConfusion e2
  | none => exact Bool.noConfusion e
  | str s => exact Bool.noConfusion e
  | list s => exact Bool.noConfusion e
  | tuple s => exact Bool.noConfusion e
  | dict s => exact Bool.noConfusion e
abbrev t_is_tie_0 (K : PySem.W.Frag) : TS :=
  (tRet (tAndV (tCall (sp_is_count K) [] E0 (tCons (tVar 2) tNil)) (tAndV (tCall (sp_is_count K) [] E0 (tCons (tVar 3) tNil)) (tChain (rLtI) (rLtI) (tVar 2) (tVar 3) (tVar 0)))))
abbrev t_is_tie_1 (K : PySem.W.Frag) : TS :=
  (tSeq (tIfS (tOr (tNot (tB (tCB (rIsiA K) (tCons (tVar 1) (tCons (tC (.ty "tuple")) tNil))))) (tTest (tOp (rNeD K) (tCB (rLenA K) (tCons (tVar 1) tNil)) (tC (.int 2))))) (tRet (tC (.bl false))) tNext)
    (tSeq (tAsg (tVar 1) (gTup K 2 (gCons (gName 2) (gCons (gName 3) gNil))))
    (t_is_tie_0 K)))
def t_is_tie (K : PySem.W.Frag) : TS :=
  (t_is_tie_1 K)
abbrev N_is_tie : List Str := ["places", "value", "u", "v"]
/-- a pair of places, the first one below the second one -/
def tieB (n : Int) : PyData → Bool
  | .tuple [.int u, .int v] => decide (0 ≤ u) && (decide (0 ≤ v) && (decide (u < v) && decide (v < n)))
  | _ => false
def F_is_tie : Fw := fun gs kk _ => ∃ n d, gs = [dat (.int n), dat d] ∧ kk (dat (.bool (tieB n d))) [none, none]
abbrev sp_is_tie (K : PySem.W.Frag) : Sp := SpG 2 F_is_tie
theorem pure_is_tie {K : PySem.W.Frag} {vs : List V} {H : Hp} {Q : VK} {E : XK} (h : sp_is_tie K vs H Q E) : t_is_tie K { nx := fun _ H' => Q .non H', rt := Q } (start N_is_tie vs) H := by
  refine body_ok (fun _ => false) ?_ h
  rintro gs kk xx ⟨n, d, rfl, hk⟩ -
  unfold t_is_tie
  refine ws_seq (ws_if ?_)
  have hb : ∀ {b : Bool}, tieB n d = b → kk (dat (.bool b)) [none, none] := fun e => e ▸ hk
  repeat walk_at "g2"
  cases ht : isTup d with
  | false =>
    refine iteT (iteT ?_)
    repeat walk_at "g2"
    exact ⟨_, [none, none], Ent.refl, les_none (les_none les_nil), hb (by cases d <;> first | rfl | exact Bool.noConfusion ht)⟩
  | true =>
    refine iteF ?_
    obtain ⟨ds, rfl⟩ : ∃ ds, d = .tuple ds := by
      cases d <;> first | exact ⟨_, rfl⟩ | exact Bool.noConfusion ht
    repeat walk_at "g2"
    refine ite_ndec (fun e => ?_) fun e => ?_
    · repeat walk_at "g2"
      refine ⟨_, [none, none], Ent.refl, les_none (les_none les_nil), hb ?_⟩
      match ds, e with
      | [], _ => rfl
      | [x], _ => cases x <;> rfl
      | [_, _], e => exact (e rfl).elim
      | _ :: _ :: _ :: _, _ => unfold tieB; split <;> simp_all
    · obtain ⟨x, y, rfl⟩ : ∃ x y, ds = [x, y] := by
        match ds, e with
        | [x, y], _ => exact ⟨x, y, rfl⟩
        | [], e => simp at e
        | [_], e => simp at e
        | _ :: _ :: _ :: _, e => simp at e; omega
      have out : ∀ {b : Bool} {Γ : Ga}, tieB n (.tuple [x, y]) = b → Γ.length = 4 → ∃ g' Γp, Ent (dat (.bool b)) g' ∧ Les (mask (fun _ => false) 2 Γ) Γp ∧ kk g' Γp := fun {b Γ} e hl => ⟨_, [none, none], Ent.refl, les_none (les_none les_nil), hb e⟩
      refine ws_next (ws_seq (ws_asgG ?_))
      repeat walk_at "g2"
      cases hx : cntD x with
      | false =>
        refine iteF (out ?_ rfl)
        cases x <;> cases y <;> first | rfl | (simp only [cntD] at hx; simp only [tieB, hx, Bool.false_and])
      | true =>
        obtain ⟨u, rfl⟩ : ∃ u, x = .int u := by
          cases x <;> first | exact ⟨_, rfl⟩ | exact Bool.noConfusion hx
        have hu : decide (0 ≤ u) = true := hx
        refine iteT ?_
        repeat walk_at "g2"
        cases hy : cntD y with
        | false =>
          refine iteF (out ?_ rfl)
          cases y <;> first | rfl | (simp only [cntD] at hy; simp only [tieB, hy, Bool.false_and, Bool.and_false])
        | true =>
          obtain ⟨v, rfl⟩ : ∃ v, y = .int v := by
            cases y <;> first | exact ⟨_, rfl⟩ | exact Bool.noConfusion hy
          have hv : decide (0 ≤ v) = true := hy
          refine iteT ?_
          repeat walk_at "g2"
          refine ⟨_, _, rfl, od_B0, ite_dec (fun h1 => ?_) fun h1 => out ?_ rfl⟩
          · repeat walk_at "g2"
            refine ⟨_, _, rfl, od_B0, out ?_ rfl⟩
            simp only [tieB, hu, hv, decide_eq_true h1, Bool.true_and]
          · simp only [tieB, hu, hv, decide_eq_false h1, Bool.true_and, Bool.false_and]
end G

namespace G
open PySem L2
local macro_rules | `(tactic| walk_at "g1") => `(tactic| first
  | (with_reducible show WE _ _ _; with_reducible first | refine we_var (by with_unfolding_all exact rfl) ?_ | (show WE (tOp _ _ _) _ _; first | refine we_ixS (by with_unfolding_all exact rfl) ?_ | refine we_ixScr (by with_unfolding_all exact rfl) ?_ | refine we_inS (by with_unfolding_all exact rfl) ?_ | refine we_notInS (by with_unfolding_all exact rfl) ?_ | refine we_eqS (by with_unfolding_all exact rfl) ?_ | refine we_neS (by with_unfolding_all exact rfl) ?_ | refine we_opK ?_) | (show WE (tCB _ _) _ _; first | refine we_lenS' (by with_unfolding_all exact rfl) ?_ | refine we_lenScr (by with_unfolding_all exact rfl) ?_ | refine we_cbK ?_) | refine we_int ?_ | refine we_bl ?_ | refine we_non ?_ | refine we_str ?_ | refine we_neg ?_ | refine we_not ?_ | refine we_and ?_ | refine we_or ?_ | refine we_if ?_ | refine we_tup ?_ | refine we_lst ?_ | refine we_call ?_ | refine we_mt (by with_unfolding_all exact rfl) ?_)
  | (with_reducible show WS _ _ _ _; with_reducible first | refine ws_seqA ?_ | refine ws_seqD ?_ | refine ws_asg (by with_unfolding_all exact rfl) ?_ | refine ws_asgG ?_ | refine ws_if ?_ | refine ws_ret ?_ | refine ws_drop ?_ | refine ws_next ?_ | refine ws_retN ?_)
  | (with_reducible show WT _ _ _; with_reducible first | refine wt_test ?_ | refine wt_B ?_ | refine wt_not ?_ | refine wt_and ?_ | refine wt_or ?_ | refine wt_yes ?_)
  | (with_reducible show WA _ _ _; with_reducible first | refine wa_nil ?_ | refine wa_cons (wq_of (we_var (by with_unfolding_all exact rfl) ?_)) | refine wa_slotU (by with_unfolding_all exact rfl) ?_ | refine wa_cons ?_)
  | (with_reducible show OpK _ _ _ _ _; with_reducible first | refine ok_plusI ?_ | refine ok_sub ?_ | refine ok_lt ?_ | refine ok_le ?_ | refine ok_gt ?_ | refine ok_ge ?_ | refine ok_eqI ?_ | refine ok_neI ?_ | refine ok_mod (by first | assumption | decide | omega) ?_ | refine ok_ixL (by with_unfolding_all exact rfl) ?_)
  | (with_reducible show CbK _ _ _ _; with_reducible first | refine ck_lenL ?_ | refine ck_lenT ?_ | refine ck_int ?_ | refine ck_intB ?_ | refine ck_max ?_ | refine ck_min ?_ | refine ck_list ?_)
  | with_reducible refine wq_of ?_
  | (with_reducible show WG _ _ _ _ _; with_reducible first | refine wg_name (by with_unfolding_all exact rfl) ?_ | refine wg_tup (by with_unfolding_all exact rfl) ?_ | refine wg_set (by with_unfolding_all exact rfl) ?_)
  | (with_reducible show WGs _ _ _ _ _; with_reducible first | refine wgs_cons ?_ | refine wgs_nil ?_)
  | with_reducible refine iteT ?_
  | with_reducible refine iteF ?_
  | with_reducible refine ⟨_, frz_per, ?_⟩
  | with_reducible refine ⟨_, frz_own, ?_⟩
  | refine ⟨_, rfl, ?_⟩
  | refine ⟨_, argD1, ?_⟩
  | refine ⟨_, argD2, ?_⟩
  | refine ⟨_, argD0, ?_⟩
  | refine ⟨_, argD3, ?_⟩
  | refine ⟨_, argD4, ?_⟩
  | refine ⟨_, _, rfl, rfl, rfl, ?_⟩
  | refine ⟨_, _, _, rfl, rfl, rfl, ?_⟩
  | refine ⟨(by simp only [List.length_cons, List.length_nil]; decide), ?_⟩
  | refine ⟨rfl, nd1, ?_⟩
  | refine ⟨rfl, nd0, ?_⟩)
local macro_rules | `(tactic| walk_at "go") => `(tactic| repeat walk_at "g1")
local macro_rules | `(tactic| walk_at "g2") => `(tactic| first
  | (with_reducible show WE _ _ _; with_reducible first | refine we_var (by with_unfolding_all exact rfl) ?_ | (show WE (tOp _ _ _) _ _; first | refine we_notN ?_ | refine we_ixS (by with_unfolding_all exact rfl) ?_ | refine we_ixScr (by with_unfolding_all exact rfl) ?_ | refine we_inS (by with_unfolding_all exact rfl) ?_ | refine we_notInS (by with_unfolding_all exact rfl) ?_ | refine we_eqS (by with_unfolding_all exact rfl) ?_ | refine we_neS (by with_unfolding_all exact rfl) ?_ | refine we_opK ?_) | (show WE (tCB _ _) _ _; first | refine we_isInt ?_ | refine we_isBl ?_ | refine we_isLst ?_ | refine we_isTup ?_ | refine we_lenO (by with_unfolding_all exact rfl) ?_ | refine we_lenS' (by with_unfolding_all exact rfl) ?_ | refine we_lenScr (by with_unfolding_all exact rfl) ?_ | refine we_cbK ?_) | refine we_chain ?_ | refine we_slice ?_ | refine we_int ?_ | refine we_bl ?_ | refine we_non ?_ | refine we_str ?_ | refine we_neg ?_ | refine we_not ?_ | refine we_and ?_ | refine we_or ?_ | refine we_if ?_ | refine we_tup ?_ | refine we_lst ?_ | refine we_call ?_ | refine we_mt (by with_unfolding_all exact rfl) ?_)
  | (with_reducible show WS _ _ _ _; with_reducible first | refine ws_seqA ?_ | refine ws_seqD ?_ | refine ws_asg (by with_unfolding_all exact rfl) ?_ | refine ws_asgG ?_ | refine ws_if ?_ | refine ws_ret ?_ | refine ws_drop ?_ | refine ws_next ?_ | refine ws_retN ?_)
  | (with_reducible show WT _ _ _; with_reducible first | refine wt_test ?_ | refine wt_B ?_ | refine wt_not ?_ | refine wt_and ?_ | refine wt_or ?_ | refine wt_yes ?_)
  | (with_reducible show WA _ _ _; with_reducible first | refine wa_nil ?_ | refine wa_cons (wq_of (we_var (by with_unfolding_all exact rfl) ?_)) | refine wa_slotU (by with_unfolding_all exact rfl) ?_ | refine wa_cons ?_)
  | (with_reducible show OpK _ _ _ _ _; with_reducible first | refine ok_isB ?_ | refine ok_notB ?_ | refine ok_plusI ?_ | refine ok_sub ?_ | refine ok_lt ?_ | refine ok_le ?_ | refine ok_gt ?_ | refine ok_ge ?_ | refine ok_eqI ?_ | refine ok_neI ?_ | refine ok_mod (by first | assumption | decide | omega) ?_ | refine ok_ixL (by with_unfolding_all exact rfl) ?_)
  | (with_reducible show CbK _ _ _ _; with_reducible first | refine ck_lenL ?_ | refine ck_lenT ?_ | refine ck_int ?_ | refine ck_intB ?_ | refine ck_max ?_ | refine ck_min ?_ | refine ck_list ?_)
  | with_reducible refine wq_of ?_
  | (with_reducible show WG _ _ _ _ _; with_reducible first | refine wg_name (by with_unfolding_all exact rfl) ?_ | refine wg_tup (by with_unfolding_all exact rfl) ?_ | refine wg_set (by with_unfolding_all exact rfl) ?_)
  | (with_reducible show WGs _ _ _ _ _; with_reducible first | refine wgs_cons ?_ | refine wgs_nil ?_)
  | (with_reducible show WO _ _ _; with_reducible first | refine wo_some ?_ | refine wo_none ?_)
  | refine ⟨_, argD5, ?_⟩
  | refine ⟨_, argD6, ?_⟩
  | refine ⟨_, argD7, ?_⟩
  | refine ⟨_, argD9, ?_⟩
  | with_reducible refine iteT ?_
  | with_reducible refine iteF ?_
  | with_reducible refine ⟨_, frz_per, ?_⟩
  | with_reducible refine ⟨_, frz_own, ?_⟩
  | refine ⟨_, rfl, ?_⟩
  | refine ⟨_, argD1, ?_⟩
  | refine ⟨_, argD2, ?_⟩
  | refine ⟨_, argD0, ?_⟩
  | refine ⟨_, argD3, ?_⟩
  | refine ⟨_, argD4, ?_⟩
  | refine ⟨_, _, rfl, rfl, rfl, ?_⟩
  | refine ⟨_, _, _, rfl, rfl, rfl, ?_⟩
  | refine ⟨(by simp only [List.length_cons, List.length_nil]; decide), ?_⟩
  | refine ⟨rfl, nd1, ?_⟩
  | refine ⟨rfl, nd0, ?_⟩)
end G

namespace G
open PySem L2
local macro_rules | `(tactic| walk_at "g1") => `(tactic| first
  | (with_reducible show WE _ _ _; with_reducible first | refine we_var (by with_unfolding_all exact rfl) ?_ | (show WE (tOp _ _ _) _ _; first | refine we_ixS (by with_unfolding_all exact rfl) ?_ | refine we_ixScr (by with_unfolding_all exact rfl) ?_ | refine we_inS (by with_unfolding_all exact rfl) ?_ | refine we_notInS (by with_unfolding_all exact rfl) ?_ | refine we_eqS (by with_unfolding_all exact rfl) ?_ | refine we_neS (by with_unfolding_all exact rfl) ?_ | refine we_opK ?_) | (show WE (tCB _ _) _ _; first | refine we_lenS' (by with_unfolding_all exact rfl) ?_ | refine we_lenScr (by with_unfolding_all exact rfl) ?_ | refine we_cbK ?_) | refine we_int ?_ | refine we_bl ?_ | refine we_non ?_ | refine we_str ?_ | refine we_neg ?_ | refine we_not ?_ | refine we_and ?_ | refine we_or ?_ | refine we_if ?_ | refine we_tup ?_ | refine we_lst ?_ | refine we_call ?_ | refine we_mt (by with_unfolding_all exact rfl) ?_)
  | (with_reducible show WS _ _ _ _; with_reducible first | refine ws_seqA ?_ | refine ws_seqD ?_ | refine ws_asg (by with_unfolding_all exact rfl) ?_ | refine ws_asgG ?_ | refine ws_if ?_ | refine ws_ret ?_ | refine ws_drop ?_ | refine ws_next ?_ | refine ws_retN ?_)
  | (with_reducible show WT _ _ _; with_reducible first | refine wt_test ?_ | refine wt_B ?_ | refine wt_not ?_ | refine wt_and ?_ | refine wt_or ?_ | refine wt_yes ?_)
  | (with_reducible show WA _ _ _; with_reducible first | refine wa_nil ?_ | refine wa_cons (wq_of (we_var (by with_unfolding_all exact rfl) ?_)) | refine wa_slotU (by with_unfolding_all exact rfl) ?_ | refine wa_cons ?_)
  | (with_reducible show OpK _ _ _ _ _; with_reducible first | refine ok_plusI ?_ | refine ok_sub ?_ | refine ok_lt ?_ | refine ok_le ?_ | refine ok_gt ?_ | refine ok_ge ?_ | refine ok_eqI ?_ | refine ok_neI ?_ | refine ok_mod (by first | assumption | decide | omega) ?_ | refine ok_ixL (by with_unfolding_all exact rfl) ?_)
  | (with_reducible show CbK _ _ _ _; with_reducible first | refine ck_lenL ?_ | refine ck_lenT ?_ | refine ck_int ?_ | refine ck_intB ?_ | refine ck_max ?_ | refine ck_min ?_ | refine ck_list ?_)
  | with_reducible refine wq_of ?_
  | (with_reducible show WG _ _ _ _ _; with_reducible first | refine wg_name (by with_unfolding_all exact rfl) ?_ | refine wg_tup (by with_unfolding_all exact rfl) ?_ | refine wg_set (by with_unfolding_all exact rfl) ?_)
  | (with_reducible show WGs _ _ _ _ _; with_reducible first | refine wgs_cons ?_ | refine wgs_nil ?_)
  | with_reducible refine iteT ?_
  | with_reducible refine iteF ?_
  | with_reducible refine ⟨_, frz_per, ?_⟩
  | with_reducible refine ⟨_, frz_own, ?_⟩
  | refine ⟨_, rfl, ?_⟩
  | refine ⟨_, argD1, ?_⟩
  | refine ⟨_, argD2, ?_⟩
  | refine ⟨_, argD0, ?_⟩
  | refine ⟨_, argD3, ?_⟩
  | refine ⟨_, argD4, ?_⟩
  | refine ⟨_, _, rfl, rfl, rfl, ?_⟩
  | refine ⟨_, _, _, rfl, rfl, rfl, ?_⟩
  | refine ⟨(by simp only [List.length_cons, List.length_nil]; decide), ?_⟩
  | refine ⟨rfl, nd1, ?_⟩
  | refine ⟨rfl, nd0, ?_⟩)
local macro_rules | `(tactic| walk_at "go") => `(tactic| repeat walk_at "g1")
local macro_rules | `(tactic| walk_at "g2") => `(tactic| first
  | (with_reducible show WE _ _ _; with_reducible first | refine we_var (by with_unfolding_all exact rfl) ?_ | (show WE (tOp _ _ _) _ _; first | refine we_notN ?_ | refine we_ixS (by with_unfolding_all exact rfl) ?_ | refine we_ixScr (by with_unfolding_all exact rfl) ?_ | refine we_inS (by with_unfolding_all exact rfl) ?_ | refine we_notInS (by with_unfolding_all exact rfl) ?_ | refine we_eqS (by with_unfolding_all exact rfl) ?_ | refine we_neS (by with_unfolding_all exact rfl) ?_ | refine we_opK ?_) | (show WE (tCB _ _) _ _; first | refine we_isInt ?_ | refine we_isBl ?_ | refine we_isLst ?_ | refine we_isTup ?_ | refine we_lenO (by with_unfolding_all exact rfl) ?_ | refine we_lenS' (by with_unfolding_all exact rfl) ?_ | refine we_lenScr (by with_unfolding_all exact rfl) ?_ | refine we_cbK ?_) | refine we_chain ?_ | refine we_slice ?_ | refine we_int ?_ | refine we_bl ?_ | refine we_non ?_ | refine we_str ?_ | refine we_neg ?_ | refine we_not ?_ | refine we_and ?_ | refine we_or ?_ | refine we_if ?_ | refine we_tup ?_ | refine we_lst ?_ | refine we_call ?_ | refine we_mt (by with_unfolding_all exact rfl) ?_)
  | (with_reducible show WS _ _ _ _; with_reducible first | refine ws_seqA ?_ | refine ws_seqD ?_ | refine ws_asg (by with_unfolding_all exact rfl) ?_ | refine ws_asgG ?_ | refine ws_if ?_ | refine ws_ret ?_ | refine ws_drop ?_ | refine ws_next ?_ | refine ws_retN ?_)
  | (with_reducible show WT _ _ _; with_reducible first | refine wt_test ?_ | refine wt_B ?_ | refine wt_not ?_ | refine wt_and ?_ | refine wt_or ?_ | refine wt_yes ?_)
  | (with_reducible show WA _ _ _; with_reducible first | refine wa_nil ?_ | refine wa_cons (wq_of (we_var (by with_unfolding_all exact rfl) ?_)) | refine wa_slotU (by with_unfolding_all exact rfl) ?_ | refine wa_cons ?_)
  | (with_reducible show OpK _ _ _ _ _; with_reducible first | refine ok_isB ?_ | refine ok_notB ?_ | refine ok_plusI ?_ | refine ok_sub ?_ | refine ok_lt ?_ | refine ok_le ?_ | refine ok_gt ?_ | refine ok_ge ?_ | refine ok_eqI ?_ | refine ok_neI ?_ | refine ok_mod (by first | assumption | decide | omega) ?_ | refine ok_ixL (by with_unfolding_all exact rfl) ?_)
  | (with_reducible show CbK _ _ _ _; with_reducible first | refine ck_lenL ?_ | refine ck_lenT ?_ | refine ck_int ?_ | refine ck_intB ?_ | refine ck_max ?_ | refine ck_min ?_ | refine ck_list ?_)
  | with_reducible refine wq_of ?_
  | (with_reducible show WG _ _ _ _ _; with_reducible first | refine wg_name (by with_unfolding_all exact rfl) ?_ | refine wg_tup (by with_unfolding_all exact rfl) ?_ | refine wg_set (by with_unfolding_all exact rfl) ?_)
  | (with_reducible show WGs _ _ _ _ _; with_reducible first | refine wgs_cons ?_ | refine wgs_nil ?_)
  | (with_reducible show WO _ _ _; with_reducible first | refine wo_some ?_ | refine wo_none ?_)
  | refine ⟨_, argD5, ?_⟩
  | refine ⟨_, argD6, ?_⟩
  | refine ⟨_, argD7, ?_⟩
  | refine ⟨_, argD9, ?_⟩
  | with_reducible refine iteT ?_
  | with_reducible refine iteF ?_
  | with_reducible refine ⟨_, frz_per, ?_⟩
  | with_reducible refine ⟨_, frz_own, ?_⟩
  | refine ⟨_, rfl, ?_⟩
  | refine ⟨_, argD1, ?_⟩
  | refine ⟨_, argD2, ?_⟩
  | refine ⟨_, argD0, ?_⟩
  | refine ⟨_, argD3, ?_⟩
  | refine ⟨_, argD4, ?_⟩
  | refine ⟨_, _, rfl, rfl, rfl, ?_⟩
  | refine ⟨_, _, _, rfl, rfl, rfl, ?_⟩
  | refine ⟨(by simp only [List.length_cons, List.length_nil]; decide), ?_⟩
  | refine ⟨rfl, nd1, ?_⟩
  | refine ⟨rfl, nd0, ?_⟩)
local macro_rules | `(tactic| walk_at "g2") => `(tactic| first | with_reducible refine we_isInt ?_ | with_reducible refine we_isBl ?_ | with_reducible refine we_isLst ?_ | with_reducible refine we_isTup ?_ | with_reducible refine we_chain ?_ | with_reducible refine we_lenO (by with_unfolding_all exact rfl) ?_ | with_reducible refine we_slice ?_ | with_reducible refine wo_some ?_ | with_reducible refine wo_none ?_ | walk_at "g1")
/-- the addresses of the program's classes -/
structure Ad where
  C_Web : Addr
  C_HueError : Addr
  C_InvalidWeb : Addr
  C_InvalidLists : Addr
  C_InvalidPlace : Addr
structure Clf (K : PySem.W.Frag) (a : Ad) : Prop where
  cl_Web : Cls K a.C_Web
  nT : NoAttr K a.C_Web "_ties"
  nN : NoAttr K a.C_Web "_near"
  ins : InsC K a.C_Web
  oth : Oth K a.C_Web
def t_Web_len_ (K : PySem.W.Frag) (a : Ad) : TS :=
  (tRet (tCB (rLenA K) (tCons (tFld K (tVar 0) "_near") tNil)))
abbrev N_Web_len_ : List Str := ["self"]
def F_Web_len_ (a : Ad) : Fw := fun gs kk _ => ∃ ds xs, gs = [per (objP a.C_Web ds)] ∧ lookD "_near" ds = some (.list xs) ∧ kk (dat (.int xs.length)) [none]
abbrev sp_Web_len_ (K : PySem.W.Frag) (a : Ad) : Sp := SpG 1 (F_Web_len_ a)
theorem pure_Web_len_ {K : PySem.W.Frag} {a : Ad} (c : Clf K a) {vs : List V} {H : Hp} {Q : VK} {E : XK} (h : sp_Web_len_ K a vs H Q E) : t_Web_len_ K a { nx := fun _ H' => Q .non H', rt := Q } (start N_Web_len_ vs) H := by
  refine body_ok (fun _ => false) ?_ h
  rintro gs kk xx ⟨ds, xs, rfl, hl, hk⟩ -
  unfold t_Web_len_
  repeat walk_at "g2"
  refine we_fldP c.cl_Web c.nN rfl hl ?_
  repeat walk_at "g2"
  exact ⟨_, [none], Ent.refl, les_none les_nil, hk⟩
def t_Web_ties (K : PySem.W.Frag) (a : Ad) : TS :=
  (tRet (tCB (rListOf K) (tCons (tFld K (tVar 0) "_ties") tNil)))
abbrev N_Web_ties : List Str := ["self"]
def F_Web_ties (a : Ad) : Fw := fun gs kk _ => ∃ ds xs, gs = [per (objP a.C_Web ds)] ∧ lookD "_ties" ds = some (.list xs) ∧ kk (own xs) [none]
abbrev sp_Web_ties (K : PySem.W.Frag) (a : Ad) : Sp := SpG 1 (F_Web_ties a)
theorem pure_Web_ties {K : PySem.W.Frag} {a : Ad} (c : Clf K a) {vs : List V} {H : Hp} {Q : VK} {E : XK} (h : sp_Web_ties K a vs H Q E) : t_Web_ties K a { nx := fun _ H' => Q .non H', rt := Q } (start N_Web_ties vs) H := by
  refine body_ok (fun _ => false) ?_ h
  rintro gs kk xx ⟨ds, xs, rfl, hl, hk⟩ -
  unfold t_Web_ties
  repeat walk_at "g2"
  refine we_fldP c.cl_Web c.nT rfl hl ?_
  repeat walk_at "g2"
  exact ⟨_, [none], Ent.refl, les_none les_nil, hk⟩
abbrev t_neighbour_lists_0 (K : PySem.W.Frag) : TS :=
  (tSeq (tDrop (tBM K "list" (rAppend) (tOp (rIx K) (tVar 2) (tVar 3)) (tCons (tVar 4) tNil)))
    (tDrop (tBM K "list" (rAppend) (tOp (rIx K) (tVar 2) (tVar 4)) (tCons (tVar 3) tNil))))
abbrev t_neighbour_lists_1 (K : PySem.W.Frag) : TS :=
  (tSeq (tAsg (tLc (iRng1 (tCons (tVar 0) tNil)) (gName 5) tYes (tLst tNil) [5]) (gName 2))
    (tSeq (tFor (iList K (tVar 1)) (gTup K 2 (gCons (gName 3) (gCons (gName 4) gNil))) (t_neighbour_lists_0 K))
    (tRet (tVar 2))))
def t_neighbour_lists (K : PySem.W.Frag) : TS :=
  (t_neighbour_lists_1 K)
abbrev N_neighbour_lists : List Str := ["places", "ties", "near", "u", "v", "place"]
/-- y is put at the end of the m-th one -/
def putAt (dss : List (List PyData)) (m : Nat) (y : PyData) : List (List PyData) := dss.set m (dss.getD m [] ++ [y])
def nearStep (dss : List (List PyData)) (t : Int × Int) : List (List PyData) := putAt (putAt dss t.1.toNat (.int t.2)) t.2.toNat (.int t.1)
/-- for each place the ones it is tied to, in the order of the ties -/
def nearL (n : Nat) (ts : List (Int × Int)) : List (List PyData) := ts.foldl nearStep (List.replicate n [])
theorem putAt_len {dss : List (List PyData)} {m : Nat} {y : PyData} : (putAt dss m y).length = dss.length := List.length_set
theorem nearStep_len {dss : List (List PyData)} {t : Int × Int} : (nearStep dss t).length = dss.length := by unfold nearStep; rw [putAt_len, putAt_len]
theorem nearFold_len : ∀ (ts : List (Int × Int)) (dss : List (List PyData)), (ts.foldl nearStep dss).length = dss.length
  | [], _ => rfl
  | t :: ts, dss => by rw [List.foldl_cons, nearFold_len ts, nearStep_len]
theorem nearL_len {n : Nat} {ts : List (Int × Int)} : (nearL n ts).length = n := by unfold nearL; rw [nearFold_len, List.length_replicate]
/-- none is longer than the ties -/
theorem putAt_le {dss : List (List PyData)} {m b : Nat} {y : PyData} (h : ∀ ds ∈ dss, ds.length ≤ b) : ∀ ds ∈ putAt dss m y, ds.length ≤ b + 1 := fun ds hd => by
  unfold putAt at hd
  rcases List.mem_or_eq_of_mem_set hd with hd | e
  · exact Nat.le_succ_of_le (h ds hd)
  · rw [e, List.length_append, List.getD_eq_getElem?_getD]
    cases e2 : dss[m]? with
    | none => simp
    | some x => simpa using h x (List.mem_of_getElem? e2)
theorem nearFold_le : ∀ (ts : List (Int × Int)) (dss : List (List PyData)) (b : Nat), (∀ ds ∈ dss, ds.length ≤ b) → ∀ ds ∈ ts.foldl nearStep dss, ds.length ≤ b + 2 * ts.length
  | [], _, _, h => h
  | t :: ts, dss, b, h => fun ds hd => by
    rw [List.foldl_cons] at hd
    have := nearFold_le ts (nearStep dss t) (b + 2) (putAt_le (putAt_le h)) ds hd
    simp only [List.length_cons]
    omega
theorem take_fold {α β : Type} {f : β → α → β} {xs : List α} {i : Nat} {x : α} {b : β} (h : xs[i]? = some x) : (xs.take (i + 1)).foldl f b = f ((xs.take i).foldl f b) x := by
  rw [List.take_succ, h, List.foldl_append]
  rfl
theorem ixN_in {n : Nat} {j : Int} (h0 : 0 ≤ j) (h1 : j.toNat < n) : ixN n j = some j.toNat := by
  unfold ixN
  rw [if_pos h0, if_pos (by omega)]
def F_neighbour_lists : Fw := fun gs kk _ => ∃ (n : Nat) (ts : List (Int × Int)), gs = [dat (.int n), dat (.list (ts.map tieD))] ∧ n < 100000 ∧ ts.length < 10000 ∧ (∀ t ∈ ts, 0 ≤ t.1 ∧ t.1 < t.2 ∧ t.2 < n) ∧ kk (own2 (nearL n ts)) [none, none]
abbrev sp_neighbour_lists (K : PySem.W.Frag) : Sp := SpG 2 F_neighbour_lists
theorem pure_neighbour_lists {K : PySem.W.Frag} {vs : List V} {H : Hp} {Q : VK} {E : XK} (h : sp_neighbour_lists K vs H Q E) : t_neighbour_lists K { nx := fun _ H' => Q .non H', rt := Q } (start N_neighbour_lists vs) H := by
  refine body_ok (fun _ => false) ?_ h
  rintro gs kk xx ⟨n, ts, rfl, hn, hs, hts, hk⟩ -
  unfold t_neighbour_lists
  refine ws_seq (ws_asg rfl ?_)
  refine we_lcE (fun i Γ => Γ = [some (dat (.int n)), some (dat (.list (ts.map tieD))), none, none, none, none]) ?_
  refine wi_range1 ?_
  repeat walk_at "g2"
  refine ⟨by omega, by omega, by omega, rfl, ?_, ?_⟩
  · rintro Γ2 rfl
    rw [Int.toNat_natCast]
    refine ws_seq ?_
    refine ws_for (fun i Γ => ∃ x y, Γ = [some (dat (.int n)), some (dat (.list (ts.map tieD))), some (own2 ((ts.take i).foldl nearStep (List.replicate n []))), x, y, none]) ?_
    refine wi_list ?_
    repeat walk_at "g2"
    refine ⟨⟨_, _, rfl⟩, ?_, ?_⟩
    · rintro Γ2 ⟨x, y, rfl⟩
      refine ws_ret (we_varM rfl ?_)
      rw [List.length_map, List.take_length]
      exact ⟨_, [none, none], Ent.refl, les_none (les_none les_nil), hk⟩
    · rintro i Γ2 hi ⟨x, y, rfl⟩
      rw [List.length_map] at hi
      obtain ⟨t, ht⟩ := getD_of hi
      have hm := hts t (List.mem_of_getElem? ht)
      have e : (ts.map tieD).getD i .none = tieD t := getD_at (by rw [List.getElem?_map, ht]; rfl)
      dsimp only
      rw [e]
      have e2 := take_fold (f := nearStep) (b := List.replicate n []) ht
      have hln : ((ts.take i).foldl nearStep (List.replicate n [])).length = n := by rw [nearFold_len, List.length_replicate]
      have hle := nearFold_le (ts.take i) (List.replicate n []) 0 fun ds hd => by rw [(List.mem_replicate.mp hd).2]; exact Nat.le_refl _
      have htk : (ts.take i).length ≤ ts.length := by rw [List.length_take]; omega
      generalize (ts.take i).foldl nearStep (List.replicate n []) = dss at *
      have at_ : ∀ {es : List (List PyData)} {m : Nat}, m < es.length → es[m]? = some (es.getD m []) := fun {es m} h => by rw [List.getD_eq_getElem?_getD, List.getElem?_eq_getElem h]; rfl
      show WG _ _ (dP (.tuple [.int t.1, .int t.2])) _ _
      repeat walk_at "g2"
      refine we_apAt rfl ?_
      repeat walk_at "g2"
      have h1 : t.1.toNat < dss.length := by omega
      refine ⟨t.1, t.1.toNat, dss, _, .int t.2, rfl, rfl, ixN_in (by omega) (by omega), at_ h1, rfl, ?_, ?_⟩
      · have := hle _ (List.mem_of_getElem? (at_ h1))
        omega
      repeat walk_at "g2"
      refine we_apAt rfl ?_
      repeat walk_at "g2"
      have h2 : t.2.toNat < (putAt dss t.1.toNat (.int t.2)).length := by rw [putAt_len]; omega
      refine ⟨t.2, t.2.toNat, putAt dss t.1.toNat (.int t.2), _, .int t.1, rfl, rfl, ixN_in (by omega) (by omega), at_ h2, rfl, ?_, ?_⟩
      · have := putAt_le hle _ (List.mem_of_getElem? (at_ h2))
        omega
      exact ⟨_, _, by rw [e2]; rfl⟩
  · rintro i Γ2 hi rfl -
    exact wg_name rfl rfl
end G

/-! ### set(ties) of up to a thousand different ties: no two hashes alike, so the table only must have room -/
namespace GW
open PySem PySem.Spec PyProof.Rows L2
/-! #### the round of 5 i + 1, for the masks that come -/
def BigM (m : Nat) : Prop := m = 7 ∨ m = 31 ∨ m = 127 ∨ m = 511 ∨ m = 2047
def noz (m : Nat) : Nat → Nat → Bool
  | 0, _ => true
  | n + 1, x => (x != 0) && noz m n ((x * 5 + 1) % (m + 1))
theorem noz_spec {m : Nat} : ∀ {n a : Nat}, noz m n (lcgN m a) = true → ∀ k, k < n → lcgN m (a + k) ≠ 0
  | 0, _, _, k, hk => absurd hk (Nat.not_lt_zero _)
  | n + 1, a, h, k, hk => by
    have h := (Bool.and_eq_true _ _).mp h
    cases k with
    | zero => simpa using h.1
    | succ k =>
      have := noz_spec (n := n) (a := a + 1) h.2 k (by omega)
      rwa [show a + 1 + k = a + (k + 1) by omega] at this
theorem noz_all {m : Nat} (hm : BigM m) : noz m m (lcgN m 1) = true := by
  rcases hm with e | e | e | e | e <;> subst e <;> decide +kernel
theorem five_inj {m : Nat} (hm : BigM m) {a b : Nat} (ha : a ≤ m) (hb : b ≤ m) (e : (a * 5 + 1) % (m + 1) = (b * 5 + 1) % (m + 1)) : a = b := by
  rcases hm with z | z | z | z | z <;> subst z <;> omega
theorem lcgN_le (m : Nat) : ∀ k, lcgN m k ≤ m
  | 0 => Nat.zero_le _
  | k + 1 => Nat.le_of_lt_succ (Nat.mod_lt _ (Nat.succ_pos _))
theorem lcg_apart {m : Nat} (hm : BigM m) {d : Nat} (h0 : 0 < d) (hd : d ≤ m) : ∀ a, lcgN m (a + d) ≠ lcgN m a
  | 0 => by
    have := noz_spec (noz_all hm) (d - 1) (by omega)
    rw [show 1 + (d - 1) = 0 + d by omega] at this
    exact this
  | a + 1 => fun e => by
    rw [show a + 1 + d = a + d + 1 by omega] at e
    exact lcg_apart hm h0 hd a (five_inj hm (lcgN_le m _) (lcgN_le m _) e)
theorem cover {m : Nat} {f : Nat → Nat} (hb : ∀ k, f k ≤ m) (hd : ∀ a d, 0 < d → d ≤ m → f (a + d) ≠ f a) {j : Nat} (hj : j ≤ m) : ∃ k, k ≤ m ∧ f k = j := by
  refine Decidable.byContradiction fun hn => ?_
  have nd : ((List.range (m + 1)).map f).Nodup := by
    refine List.Pairwise.map f (R := fun a b => a < b ∧ b ≤ m) (fun a b ⟨h1, h2⟩ e => ?_) ?_
    · have := hd a (b - a) (by omega) (by omega)
      rw [show a + (b - a) = b by omega] at this
      exact this e.symm
    · rw [List.pairwise_iff_getElem]
      intro i k hi hk hik
      simp only [List.length_range] at hi hk
      simp only [List.getElem_range]
      omega
  have sub : ∀ x ∈ (List.range (m + 1)).map f, x ∈ (List.range (m + 1)).erase j := fun x hx => by
    obtain ⟨k, hk, rfl⟩ := List.mem_map.mp hx
    have hk := List.mem_range.mp hk
    exact (List.mem_erase_of_ne fun e => hn ⟨k, by omega, e⟩).mpr (List.mem_range.mpr (Nat.lt_succ_of_le (hb k)))
  have := nat_nodup_len _ _ nd sub
  rw [List.length_map, List.length_erase_of_mem (List.mem_range.mpr (by omega)), List.length_range] at this
  omega
theorem round {m : Nat} (hm : BigM m) {i j : Nat} (hi : i ≤ m) (hj : j ≤ m) : ∃ k, k ≤ m ∧ lcgI m i k = j := by
  obtain ⟨a, _, rfl⟩ := cover (lcgN_le m) (fun a d h0 hd => lcg_apart hm h0 hd a) hi
  refine cover (f := lcgI m (lcgN m a)) (fun k => by rw [lcgN_add]; exact lcgN_le m _) (fun b d h0 hd => ?_) hj
  rw [lcgN_add, lcgN_add, ← Nat.add_assoc]
  exact lcg_apart hm h0 hd _
theorem runs {m : Nat} (hm : BigM m) (h : Int) {j : Nat} (hj : j ≤ m) : ∃ n, n ≤ m + 12 ∧ runI m (SetTable.bits h) n = j := by
  obtain ⟨k, hk, e⟩ := round hm (runI_le m (SetTable.bits h) 12) hj
  exact ⟨12 + k, by omega, by rw [runI_tail (bits_lt h), e]⟩
theorem way_bd (m : Nat) (h : Int) (k : Nat) : way m h k ≤ m := by
  have hi : SetTable.bits h % (m + 1) ≤ m := Nat.le_of_lt_succ (Nat.mod_lt _ (Nat.succ_pos _))
  have r := runEnd_bd hi
  have q := nth_in (m := m) k (runAt m (SetTable.bits h % (m + 1)) (SetTable.bits h)) (by
    show SetTable.bits h % (m + 1) + (SetTable.runEnd m (SetTable.bits h % (m + 1)) - SetTable.bits h % (m + 1)) ≤ m
    omega)
  show (nth m _ k).j ≤ m
  omega
/-! #### the table has room -/
structure Lay (t : SetTable) (n : Nat) : Prop where
  ris : Ris t.place.toList
  dm : t.dummies = #[]
  sz : t.place.size = n
  mok : BigM t.mask
  bd : ∀ x ∈ t.place.toList, x ≤ t.mask
theorem Lay.odd {t : SetTable} {n : Nat} (T : Lay t n) : ¬ t.gaveWay = true := by
  unfold SetTable.gaveWay
  have : t.mask % 2 = 1 := by rcases T.mok with e | e | e | e | e <;> rw [e]
  rw [this]
  decide
/-- the probe of a hash that isn't there meets an empty slot -/
theorem Lay.free {t : SetTable} {n : Nat} (T : Lay t n) (hl : n ≤ t.mask) {hashAt : Nat → Int} {h : Int} (hn : ∀ i, i < n → hashAt i ≠ h) : ∃ j, j ≤ t.mask ∧ j ∉ t.place.toList ∧ t.probe hashAt h (t.probeStart h) = some (.empty j none) := by
  obtain ⟨j, hj, hnj⟩ := st_missing t.place.toList (t.mask + 1) (by rw [Array.length_toList, T.sz]; omega)
  obtain ⟨r, hr, e⟩ := runs T.mok h (Nat.le_of_lt_succ hj)
  obtain ⟨k, hk, e2⟩ := run_nth t.mask (SetTable.bits h) r
  have hw : way t.mask h k = j := by
    show (nth t.mask _ k).j = j
    rw [e2]
    exact e
  obtain ⟨K, k1, k2, k3⟩ := st_least (p := fun k => way t.mask h k ∉ t.place.toList) k (by show way t.mask h k ∉ _; rw [hw]; exact hnj)
  rcases go_spec t T.ris T.dm hashAt h (10 * SetTable.turns t.mask) K (t.probeStart h) rfl (by unfold SetTable.turns; omega) (fun q hq => Classical.not_not.mp (k3 q hq)) k2 with ⟨q, i, _, hi, hh, _⟩ | ⟨_, hp⟩
  · exact absurd hh (hn i (by rw [← T.sz, ← Array.length_toList]; exact (List.getElem?_eq_some_iff.mp hi).1))
  · exact ⟨_, way_bd _ _ _, k2, hp⟩
theorem Lay.put {t : SetTable} {n : Nat} (T : Lay t n) {j : Nat} (hj : j ≤ t.mask) (hn : j ∉ t.place.toList) : Lay (t.put j).1 (n + 1) ∧ SetTable.below t.place j ≤ n := by
  have hb : SetTable.below t.place j ≤ t.place.toList.length := by rw [Array.length_toList]; exact (below_cut T.ris j).1
  have hpp := put_place t j
  refine ⟨⟨ris_insert T.ris fun e => hn (List.mem_of_getElem? (by rw [Array.getElem?_toList]; exact e)), put_dm T.dm j, ?_, T.mok, fun x hx => ?_⟩, ?_⟩
  · rw [← Array.length_toList, hpp, len_ins _ hb, Array.length_toList, T.sz]
  · rw [hpp] at hx
    rcases mem_ins.1 hx with z | z
    · rw [z]; exact hj
    · exact T.bd x z
  · rw [← T.sz, ← Array.length_toList]; exact hb
/-! #### laid anew -/
structure Sit (m n : Nat) (owner : Array (Option Nat)) : Prop where
  sz : owner.size = m + 1
  all : ∀ k, k < n → ∃ j, j ≤ m ∧ oAt owner j = some k
  ps : ∃ ps : List Nat, ps.length = n ∧ ∀ j, j ≤ m → oAt owner j ≠ none → j ∈ ps
theorem Sit.free {m n : Nat} (hm : BigM m) {owner : Array (Option Nat)} (W : Sit m n owner) (hl : n ≤ m) (h : Int) :
    ∃ j, j ≤ m ∧ oAt owner j = none ∧ SetTable.layClean.free m owner (SetTable.turns m) (SetTable.bits h % (m + 1)) (SetTable.bits h) = some j := by
  obtain ⟨ps, hps, hin⟩ := W.ps
  obtain ⟨j0, h0, hn0⟩ := st_missing ps (m + 1) (by omega)
  have hj0 : oAt owner j0 = none := Classical.not_not.mp fun z => hn0 (hin j0 (Nat.le_of_lt_succ h0) z)
  obtain ⟨r, hr, e⟩ := runs hm h (Nat.le_of_lt_succ h0)
  have hw : way m h (off m (SetTable.bits h % (m + 1)) (SetTable.bits h) r) = j0 := by
    show (nth m _ _).j = j0
    rw [nth_off, itL_run]
    exact e
  obtain ⟨K, k1, k2, k3⟩ := st_least (p := fun k => oAt owner (way m h k) = none) (off m (SetTable.bits h % (m + 1)) (SetTable.bits h) r) (by show oAt owner (way m h _) = none; rw [hw]; exact hj0)
  refine ⟨_, way_bd m h K, k2, free_spec m owner (SetTable.turns m) r _ _ K (by unfold SetTable.turns; omega) k1 (fun k hk => ?_) ?_⟩
  · have q := k3 k hk
    revert q
    show oAt owner (way m h k) ≠ none → (oAt owner (way m h k)).isNone = false
    cases oAt owner (way m h k) with
    | none => intro q; exact absurd rfl q
    | some _ => intro _; rfl
  · have q : oAt owner (nth m _ K).j = none := k2
    rw [q]
    rfl
theorem Sit.step {m n : Nat} {owner : Array (Option Nat)} (W : Sit m n owner) {j : Nat} (hj : j ≤ m) (e : oAt owner j = none) : Sit m (n + 1) (owner.setIfInBounds j (some n)) := by
  obtain ⟨ps, hps, hin⟩ := W.ps
  have hself := oAt_set_self (some n) (show j < owner.size by rw [W.sz]; omega)
  refine ⟨by rw [Array.size_setIfInBounds]; exact W.sz, fun k hk => ?_, ⟨j :: ps, by simp [hps], fun i hi z => ?_⟩⟩
  · by_cases c : k < n
    · obtain ⟨i, hi, ei⟩ := W.all k c
      exact ⟨i, hi, by rw [oAt_set_ne _ fun z => by rw [z, e] at ei; cases ei]; exact ei⟩
    · obtain rfl : k = n := by omega
      exact ⟨j, hj, hself⟩
  · by_cases c : i = j
    · rw [c]; exact List.mem_cons_self
    · rw [oAt_set_ne _ c] at z
      exact List.mem_cons_of_mem _ (hin i hi z)
theorem Sit.fold {m : Nat} (hm : BigM m) : ∀ (rest : List Int) (n : Nat) (owner : Array (Option Nat)), Sit m n owner → n + rest.length ≤ m →
    ∃ owner', rest.foldl (stepF m) (some (owner, n)) = some (owner', n + rest.length) ∧ Sit m (n + rest.length) owner'
  | [], n, owner, W, _ => ⟨owner, rfl, W⟩
  | h :: rest, n, owner, W, hl => by
    rw [List.length_cons] at hl
    obtain ⟨j, hj, e, hf⟩ := W.free hm (by omega) h
    obtain ⟨o2, f, W2⟩ := Sit.fold hm rest (n + 1) _ (W.step hj e) (by omega)
    have ea : n + 1 + rest.length = n + (h :: rest).length := by rw [List.length_cons]; omega
    rw [ea] at f W2
    exact ⟨o2, by rw [List.foldl_cons, stepF_some hf]; exact f, W2⟩
theorem relaid {t : SetTable} {hs : Array Int} {wanted M : Nat} (hw : SetTable.sizeAbove wanted - 1 = M) (hM : BigM M) (hn : hs.size ≤ M) :
    ∃ t' order, t.relaid hs wanted = some (t', order) ∧ order.toList.Perm (List.range hs.size) ∧ Lay t' hs.size ∧ t'.mask = M ∧ t'.led = t.led ∧ t'.plain = t.plain := by
  obtain ⟨owner, f, W⟩ := Sit.fold hM hs.toList 0 (Array.replicate (M + 1) none) ⟨by simp, fun k hk => absurd hk (Nat.not_lt_zero _), ⟨[], rfl, fun j hj e => absurd (oAt_init hj) e⟩⟩ (by rw [Array.length_toList]; omega)
  rw [Nat.zero_add, Array.length_toList] at W
  have e : SetTable.layClean M hs = some owner := by rw [layClean_eq, f]; rfl
  have hr : t.relaid hs wanted = some (tabOf t M owner, ((liveOf M owner).map (·.2)).toArray) := by rw [relaid_eq, hw, e]; rfl
  have ris := ris_live (fun j => owner.getD j none) (List.range (M + 1)) List.pairwise_lt_range
  have r1 : Ris ((liveOf M owner).map (·.1)) := ris.1
  have r2 : ∀ x ∈ (liveOf M owner).map (·.1), x ∈ List.range (M + 1) := ris.2
  obtain ⟨ps, p1, p2⟩ := W.ps
  have nd : ((liveOf M owner).map (·.1)).Nodup := List.Pairwise.imp (fun h => Nat.ne_of_lt h) r1
  have a := nat_nodup_len ((liveOf M owner).map (·.1)) ps nd fun x hx => by
    obtain ⟨⟨y, k⟩, hq, rfl⟩ := List.mem_map.mp hx
    obtain ⟨b1, b2⟩ := (mem_live W.sz).1 hq
    exact p2 y b1 (by rw [b2]; exact fun z => nomatch z)
  have all : ∀ k, k < hs.size → k ∈ (liveOf M owner).map (·.2) := fun k hk => by
    obtain ⟨j, b1, b2⟩ := W.all k hk
    exact List.mem_map.mpr ⟨(j, k), (mem_live W.sz).2 ⟨b1, b2⟩, rfl⟩
  have b := nat_nodup_len (List.range hs.size) ((liveOf M owner).map (·.2)) List.nodup_range fun k hk => all k (List.mem_range.mp hk)
  rw [List.length_map] at a b
  rw [List.length_range] at b
  have hlen : (liveOf M owner).length = hs.size := by omega
  refine ⟨_, _, hr, perm_range _ _ (by show ((liveOf M owner).map (·.2)).length = _; rw [List.length_map, hlen]) all, ⟨r1, rfl, ?_, hM, fun x hx => Nat.le_of_lt_succ (List.mem_range.mp (r2 x hx))⟩, rfl, rfl, rfl⟩
  show ((liveOf M owner).map (·.1)).toArray.size = _
  rw [List.size_toArray, List.length_map, hlen]
end GW

namespace GW
open PySem PySem.Spec PyProof.Rows L2
/-! #### the set of tuples, no two hashes alike -/
structure Wid (P : Program) (w : World) (h : Heap) (a : Addr) (L : List (Addr × List Int)) (es : Array (Int × Value)) (ep : Nat) (t : SetTable) : Prop where
  ob : ∃ o, h.get? a = some o ∧ o.ExactSet ∧ o.data = .set es ep t
  rows : es.toList.Perm (rowsOf P w L)
  lay : Lay t L.length
  plain : t.plain = true
  led : w.params.followText "set-order" = true ∨ t.led = true
  room : L.length * 5 < t.mask * 3
section
variable {P : Program} {w : World} {A : Around} {E : Value → Shared → Prop} {s : Shared} {a : Addr} {L : List (Addr × List Int)} {es : Array (Int × Value)} {ep : Nat} {t : SetTable}
theorem rows_len (h : es.toList.Perm (rowsOf P w L)) : es.size = L.length := by
  have := h.length_eq
  unfold rowsOf at this
  rwa [Array.length_toList, List.length_map] at this
theorem fits_of {n : Nat} (T : Lay t n) (hn : n ≤ t.mask) {k : Nat} (hk : k = n) : t.fits k = true := by
  subst hk
  unfold SetTable.fits SetTable.fill
  rw [T.dm, T.sz, Bool.and_eq_true, beq_iff_eq, decide_eq_true_eq]
  exact ⟨rfl, by show k + 0 ≤ _; omega⟩
theorem Wid.fits (R : Wid P w s.heap a L es ep t) : t.fits es.size = true := fits_of R.lay (by have := R.room; omega) (rows_len R.rows)
/-- what isn't there finds a free slot -/
theorem wid_search (R : Wid P w s.heap a L es ep t) {x : Value} {h : Int} (hn : ∀ p ∈ L, thash P w p.2 ≠ h) {Q : SetFound → Shared → Prop}
    (hQ : ∀ j, j ≤ t.mask → j ∉ t.place.toList → Q (.free j false) s) : wpAny (model P w) A (setSearch a x h true) Q E s := by
  obtain ⟨o, ho, _, hd⟩ := R.ob
  have hl := rows_len R.rows
  unfold setSearch
  rw [show (100000 : Nat) = 99999 + 1 from rfl, setSearchFrom_succ]
  refine wpAny_bind (wpAny_setState_of ho hd R.fits ?_)
  dsimp only
  refine wp_if_neg R.lay.odd ?_
  try refine wpAny_bind (wpAny_pure ?_)
  obtain ⟨j, hj, hnj, hp⟩ := R.lay.free (by have := R.room; omega) (hashAt := fun i => (es[i]?.map (·.1)).getD 0) (h := h) fun i hi => by
    have hi2 : i < es.size := by rw [hl]; exact hi
    have hm : es[i] ∈ es.toList := by simp
    obtain ⟨p, hpL, hpe⟩ := List.mem_map.mp (R.rows.mem_iff.mp hm)
    show (es[i]?.map (·.1)).getD 0 ≠ h
    rw [Array.getElem?_eq_getElem hi2, ← hpe]
    exact hn p hpL
  rw [show (none : Option SetTable.Probe).getD (t.probeStart h) = t.probeStart h from rfl, hp]
  dsimp only
  exact wpAny_pure (hQ j hj hnj)
theorem wid_relay {o : Obj} {n M wanted : Nat} (ho : s.heap.get? a = some o) (hex : o.ExactSet) (hd : o.data = .set es ep t) (hr : es.toList.Perm (rowsOf P w L)) (T : Lay t L.length) (hf : L.length ≤ t.mask) (pl : t.plain = true)
    (ld : w.params.followText "set-order" = true ∨ t.led = true) (hw : SetTable.sizeAbove wanted - 1 = M) (hM : BigM M) (hn : L.length * 5 < M * 3) {Q : Unit → Shared → Prop}
    (hQ : ∀ h' es' ep' t', Heap.SameBut a s.heap h' → Wid P w h' a L es' ep' t' → Q () { s with heap := h' }) : wpAny (model P w) A (setRelay a wanted) Q E s := by
  have hsl := rows_len hr
  have hM2 : M ≤ 2047 := by rcases hM with e | e | e | e | e <;> omega
  obtain ⟨t', order, e, hp, T', em, el, epl⟩ := relaid (t := t) (hs := es.map (·.1)) hw hM (by rw [Array.size_map, hsl]; omega)
  rw [Array.size_map] at hp T'
  have pm : (order.filterMap (es[·]?)).toList.Perm es.toList := by
    have h1 : (order.toList.filterMap fun i => es[i]?).Perm ((List.range es.size).filterMap fun i => es[i]?) := hp.filterMap _
    have h2 : ∀ n, n ≤ es.size → (List.range n).filterMap (fun i => es[i]?) = es.toList.take n := by
      intro n
      induction n with
      | zero => intro _; rfl
      | succ n ih =>
        intro hn
        have hlt : n < es.size := hn
        rw [List.range_succ, List.filterMap_append, ih (Nat.le_of_lt hlt), List.take_succ, Array.getElem?_toList, Array.getElem?_eq_getElem hlt]
        rw [List.filterMap_cons_some (Array.getElem?_eq_getElem hlt)]
        rfl
    rw [h2 _ (Nat.le_refl _), ← Array.length_toList, List.take_length] at h1
    rw [Array.toList_filterMap]
    exact h1
  have hs2 : (order.filterMap (es[·]?)).size = es.size := by rw [← Array.length_toList, pm.length_eq, Array.length_toList]
  rw [setRelay_eq]
  refine wpAny_bind (wpAny_setState_of ho hd (fits_of T hf hsl) ?_)
  dsimp only
  refine wp_if_neg (by rw [sizeLine_eq]; omega) ?_
  try refine wpAny_bind (wpAny_pure ?_)
  rw [e]
  dsimp only
  refine wpAny_bind ?_
  refine wp_if_neg (by rw [hs2]; simp) ?_
  try refine wpAny_bind (wpAny_pure ?_)
  refine wpAny_pure ?_
  dsimp only
  refine wpAny_storeSet_of ho hd ?_ (by rw [hs2, hsl, sizeLine_eq]; omega)
  refine hQ _ (order.filterMap (es[·]?)) (ep + 1) t' (Heap.SameBut.update ..) ⟨⟨_, store_at ho hd, ⟨hex.1, hex.2.1, hex.2.2⟩, rfl⟩, pm.trans hr, hsl ▸ T', by rw [epl]; exact pl, by rw [el]; exact ld, by rw [em]; exact hn⟩
theorem sizes : SetTable.sizeAbove (SetTable.grown 5) = 32 ∧ SetTable.sizeAbove (SetTable.grown 19) = 128 ∧ SetTable.sizeAbove (SetTable.grown 77) = 512 ∧ SetTable.sizeAbove (SetTable.grown 307) = 2048 := by decide +kernel
/-- one more, its hash a new one -/
theorem wid_add (R : Wid P w s.heap a L es ep t) {x : Addr} {k : List Int} (hx : IsT P w s.heap k x) (hn : ∀ p ∈ L, thash P w p.2 ≠ thash P w k) (few : L.length + 1 ≤ 1000) {Q : Bool → Shared → Prop}
    (hQ : ∀ h' es' ep' t', Heap.SameBut a s.heap h' → Wid P w h' a ((x, k) :: L) es' ep' t' → Q true { s with heap := h' }) : wpAny (model P w) A (setAddHashed a (.ref x) (thash P w k)) Q E s := by
  obtain ⟨o, ho, hex, hd⟩ := R.ob
  have hsl := rows_len R.rows
  have hroom := R.room
  unfold setAddHashed
  refine wpAny_holding ?_
  rw [show (100000 : Nat) = 99999 + 1 from rfl, setAddHashedIn_succ]
  refine wpAny_bind (wpAny_setState_of ho hd R.fits ?_)
  dsimp only
  refine wp_if_neg (by simp [byScan, Value.scannable]) ?_
  try refine wpAny_bind (wpAny_pure ?_)
  refine wpAny_bind (wid_search R hn fun j hj hnj => ?_)
  dsimp only
  refine wpAny_bind (wpAny_setState_of ho hd R.fits ?_)
  dsimp only
  obtain ⟨T1, hb⟩ := R.lay.put hj hnj
  have hp1 : (t.put j).1.plain = true := R.plain
  have hm1 : (t.put j).1.mask = t.mask := rfl
  have ld1 : w.params.followText "set-order" = true ∨ (t.put j).1.led = true := R.led
  have hp2 : (t.put j).2 = SetTable.below t.place j := rfl
  generalize hpt : t.put j = pt at T1 hp1 hm1 ld1 hp2 ⊢
  obtain ⟨t1, p⟩ := pt
  dsimp only at T1 hp1 hm1 ld1 hp2 ⊢
  first
    | (refine wpAny_bind ?_; refine wp_if_pos hp1 ?_; refine hashBy_tup hx ?_)
    | refine wp_if_pos hp1 (wpAny_bind (hashBy_tup hx ?_))
  simp only [if_true]
  have pm : (SetTable.insertAt es p (thash P w k, Value.ref x)).toList.Perm (rowsOf P w ((x, k) :: L)) := by
    rw [SetTable.toList_insertAt]
    exact (put_perm _ _ _).trans (R.rows.cons _)
  have hes := rows_len pm
  generalize SetTable.insertAt es p (thash P w k, Value.ref x) = es1 at pm hes ⊢
  have hlen : ((x, k) :: L).length = L.length + 1 := rfl
  refine wpAny_bind (wpAny_storeSet_of ho hd ?_ (by rw [hes, hlen, sizeLine_eq]; omega))
  have sb : Heap.SameBut a s.heap (s.heap.update a (Obj.putSet es1 t1)) := Heap.SameBut.update ..
  have ho1 := store_at (es' := es1) (t' := t1) ho hd
  generalize s.heap.update a (Obj.putSet es1 t1) = h1 at sb ho1 ⊢
  have hfull : t1.tooFull = decide ((L.length + 1) * 5 ≥ t.mask * 3) := by
    unfold SetTable.tooFull SetTable.fill
    rw [T1.dm, T1.sz, hm1]
    rfl
  by_cases hf : (L.length + 1) * 5 ≥ t.mask * 3
  · have hf1 : t1.tooFull = true := by rw [hfull]; exact decide_eq_true hf
    first
      | (refine wpAny_bind ?_; refine wp_if_pos (by simp [hf1]) ?_)
      | (refine wp_if_pos (by simp [hf1]) ?_; refine wpAny_bind ?_)
    rw [hsl]
    obtain ⟨z1, z2, z3, z4⟩ := sizes
    have go : ∀ M, SetTable.sizeAbove (SetTable.grown (L.length + 1)) - 1 = M → BigM M → (L.length + 1) * 5 < M * 3 →
        wpAny (model P w) A (setRelay a (SetTable.grown (L.length + 1))) (fun _ s' => wpAny (model P w) A (pure true) Q E s') E { s with heap := h1 } := fun M a1 a2 a3 =>
      wid_relay (L := (x, k) :: L) (n := 0) (s := { s with heap := h1 }) ho1 ⟨hex.1, hex.2.1, hex.2.2⟩ rfl pm T1 (by rw [hlen, hm1]; omega) hp1 ld1 a1 a2 a3 fun h2 es2 ep2 t2 sb2 R2 => wpAny_pure (hQ h2 es2 ep2 t2 (sb.trans sb2) R2)
    rcases R.lay.mok with e | e | e | e | e
    · obtain e2 : L.length = 4 := by omega
      exact go 31 (by rw [e2, z1]) (by unfold BigM; omega) (by omega)
    · obtain e2 : L.length = 18 := by omega
      exact go 127 (by rw [e2, z2]) (by unfold BigM; omega) (by omega)
    · obtain e2 : L.length = 76 := by omega
      exact go 511 (by rw [e2, z3]) (by unfold BigM; omega) (by omega)
    · obtain e2 : L.length = 306 := by omega
      exact go 2047 (by rw [e2, z4]) (by unfold BigM; omega) (by omega)
    · omega
  · have hf1 : ¬ t1.tooFull = true := by rw [hfull, decide_eq_true_eq]; exact hf
    first
      | refine wp_if_neg (by simp [hf1]) ?_
      | (refine wpAny_bind ?_; refine wp_if_neg (by simp [hf1]) ?_; refine wpAny_pure ?_)
    exact wpAny_pure (hQ h1 es1 (ep + 1) t1 sb ⟨⟨_, ho1, ⟨hex.1, hex.2.1, hex.2.2⟩, rfl⟩, pm, T1, hp1, ld1, by rw [hm1, hlen]; omega⟩)
end
end GW

namespace GW
open PySem PySem.Spec PyProof.Rows L2
/-- the hash of a tuple of ints -/
def thI (k : List Int) : Int := reduceHash (Builtin.Tuple.tupleHashOf (k.map hashInt))
section
variable {P : Program} {w : World} {A : Around} {E : Value → Shared → Prop} {s : Shared}
theorem Wid.keep {h h' : Heap} {a : Addr} {L : List (Addr × List Int)} {es : Array (Int × Value)} {ep : Nat} {t : SetTable} (R : Wid P w h a L es ep t) (ha : ∀ o, h.get? a = some o → h'.get? a = some o) : Wid P w h' a L es ep t := by
  obtain ⟨o, ho, r⟩ := R.ob
  exact ⟨⟨o, ha o ho, r⟩, R.rows, R.lay, R.plain, R.led, R.room⟩
abbrev newS (w : World) : Obj := { cls := .type "set", dict := none, data := .set #[] 0 (.fresh 0 0 (!w.params.followText "set-order")) }
theorem wid_new {h : Heap} {a : Addr} (ho : h.get? a = some (newS w)) : Wid P w h a [] #[] 0 (.fresh 0 0 (!w.params.followText "set-order")) := by
  refine ⟨⟨_, ho, ⟨rfl, rfl, rfl⟩, rfl⟩, List.Perm.refl _, ⟨List.Pairwise.nil, rfl, rfl, .inl rfl, fun x hx => nomatch hx⟩, rfl, ?_, by show 0 * 5 < 7 * 3; decide⟩
  show _ ∨ (!w.params.followText "set-order") = true
  cases w.params.followText "set-order"
  · exact .inr rfl
  · exact .inl rfl
theorem next_rev {α : Type} {l : List α} {i : Nat} {x : α} (h : l[i]? = some x) : (l.take (i + 1)).reverse = x :: (l.take i).reverse := by
  rw [take_next h, List.reverse_append]
  rfl
/-- the loop of set(xs) -/
theorem wid_loop {I : Addr} {fp wr : List Addr} {G : Array GenState → Array GenState → Prop} {Pv : Nat → Value → Prop} {St : Nat → Shared → Prop} {R : Result → Shared → Prop} {ks : List (Addr × List Int)}
    (W : WalksS P w A.in1 I fp wr G ks.length Pv St) (S : Addr) (hSf : S ∉ fp) (few : ks.length ≤ 1000) (nd : (ks.map fun p => thash P w p.2).Nodup) (hval : ∀ i v, Pv i v → ∃ p, ks[i]? = some p ∧ v = .ref p.1)
    (h0 : Heap) (hk : ∀ p ∈ ks, IsT P w h0 p.2 p.1) (hS0 : h0.get? S = none) (hw0 : ∀ b ∈ wr, h0.get? b = none) (hu : A.in1.units < cLine) :
    ∀ (m i : Nat) (s : Shared), ks.length - i = m → i ≤ ks.length → St i s → (∀ b o, h0.get? b = some o → s.heap.get? b = some o) → (∃ es ep t, Wid P w s.heap S (ks.take i).reverse es ep t) →
      (∀ s' es ep t, Moved (S :: wr) G s s' → Wid P w s'.heap S ks.reverse es ep t → (∀ b o, h0.get? b = some o → s'.heap.get? b = some o) → R (.ok (.ret .none)) s') →
      codeAny (model P w) A (.builtin "set.update.loop" ⟨[.ref S, .ref I], []⟩) R s := by
  have hSw : S ∉ wr := fun h => hSf (W.sub _ h)
  have hsub : ∀ b ∈ wr, b ∈ S :: wr := fun b hb => List.mem_cons_of_mem _ hb
  have keepM : ∀ {s s' : Shared}, Moved wr G s s' → (∀ b o, h0.get? b = some o → s.heap.get? b = some o) → ∀ b o, h0.get? b = some o → s'.heap.get? b = some o := fun hm hkp b o e =>
    hm.heap b o (fun hb => by rw [hw0 b hb] at e; cases e) (hkp b o e)
  intro m
  induction m with
  | zero =>
    intro i s hm hi hst hkp ⟨es, ep, t, hS⟩ hR
    obtain rfl : i = ks.length := by omega
    refine codeAny_builtin F.entry_set_update_loop ?_
    rw [Around.under_plainId F.plain_set_update_loop _]
    show wpAny _ A.in1 (pyNext (.ref I) >>= _) _ _ s
    refine wpAny_bind (W.done s _ _ hst fun s' hm => ?_)
    show wpAny _ A.in1 (ret Value.none) _ _ s'
    rw [List.take_length] at hS
    exact wpAny_pure (hR s' es ep t (hm.mono hsub) (hS.keep fun o e => hm.heap S o hSw e) (keepM hm hkp))
  | succ m ih =>
    intro i s hm' hi hst hkp ⟨es, ep, t, hS⟩ hR
    have hlt : i < ks.length := by omega
    refine codeAny_builtin F.entry_set_update_loop ?_
    rw [Around.under_plainId F.plain_set_update_loop _]
    show wpAny _ A.in1 (pyNext (.ref I) >>= _) _ _ s
    refine wpAny_bind (W.item i s _ _ hlt hst fun v s' hP hst' hm => ?_)
    obtain ⟨p, hp, rfl⟩ := hval i v hP
    have hkp' := keepM hm hkp
    have hx : IsT P w s'.heap p.2 p.1 := isT_keep (hk p (List.mem_of_getElem? hp)) hkp'
    show wpAny _ A.in1 (holding [Value.ref p.1] (setAdd S (.ref p.1)) >>= _) _ _ s'
    refine wpAny_bind (wpAny_holding ?_)
    unfold setAdd
    refine wpAny_holding (wpAny_bind (wpAny_pyHash_tuple hu hx ?_))
    have new : ∀ q ∈ (ks.take i).reverse, thash P w q.2 ≠ thash P w p.2 := fun q hq e => by
      obtain ⟨j, hj, ej⟩ := List.getElem_of_mem (List.mem_reverse.mp hq)
      rw [List.length_take] at hj
      rw [List.getElem_take] at ej
      have hi2 : ks[i] = p := (List.getElem?_eq_some_iff.mp hp).2
      have := List.pairwise_iff_getElem.mp nd j i (by rw [List.length_map]; omega) (by rw [List.length_map]; exact hlt) (by omega)
      rw [List.getElem_map, List.getElem_map, ej, hi2] at this
      exact this e
    refine wid_add (s := { s' with toks := s'.toks + (p.2.length + 1) }) (hS.keep fun o e => hm.heap S o hSw e) hx new (by rw [List.length_reverse, List.length_take]; omega) fun h' es' ep' t' hsb hS2 => ?_
    have hkp2 : ∀ b o, h0.get? b = some o → h'.get? b = some o := fun b o e => (hsb.2 b (fun z => by rw [z, hS0] at e; cases e)).trans (hkp' b o e)
    refine wpAny_pure ⟨plainId_quiet F.plain_set_update_loop _, ih (i + 1) _ (by omega) hlt (W.frame _ s' _ _ hst' (Nat.le_add_right _ _) fun b hb o e => ?_) hkp2 ⟨es', ep', t', by rw [next_rev hp]; exact hS2⟩ fun s'' es2 ep2 t2 hm'' hS'' hkp'' => ?_⟩
    · rw [hsb.2 b (fun h : b = S => hSf (by rw [← h]; exact hb))]; exact e
    · refine hR s'' es2 ep2 t2 (Moved.trans W.gtrans ((hm.mono hsub).then_heap (Nat.le_add_right _ _) fun b o hb e => ?_) hm'') hS'' hkp''
      rw [hsb.2 b (fun h : b = S => hb (by rw [h]; exact List.mem_cons_self))]; exact e
theorem call_set_wid {l : Addr} {items : Array Value} {ks : List (Addr × List Int)} {Q : Value → Shared → Prop} (hh : A.handled = none) (hl : s.heap.IsList l items) (hit : items.toList = ks.map fun p => Value.ref p.1)
    (hk : ∀ p ∈ ks, IsT P w s.heap p.2 p.1) (few : ks.length ≤ 1000) (nd : (ks.map fun p => thash P w p.2).Nodup) (hu : A.units + 3 < cLine)
    (h : ∀ (h' : Heap) (tk : Nat) es ep t, Wid P w h' s.heap.objs.size ks.reverse es ep t → (∀ b o, s.heap.get? b = some o → h'.get? b = some o) → Q (.ref s.heap.objs.size) { s with heap := h', toks := tk }) :
    wpAny (model P w) A (call (.type "set") [.ref l]) Q E s := by
  have hisz : items.size = ks.length := by
    have := congrArg List.length hit
    rwa [Array.length_toList, List.length_map] at this
  have hval : ∀ (i : Nat) (v : Value), items[i]? = some v → ∃ p, ks[i]? = some p ∧ v = .ref p.1 := fun i v hv => by
    rw [← Array.getElem?_toList, hit, List.getElem?_map] at hv
    obtain ⟨p, hp, e⟩ := Option.map_eq_some_iff.mp hv
    exact ⟨p, hp, e.symm⟩
  have none_of : ∀ b, s.heap.objs.size ≤ b → s.heap.get? b = none := fun b hb => by
    cases q : s.heap.get? b with
    | none => rfl
    | some o => exact absurd (Nat.lt_of_lt_of_le (Heap.lt_size q) hb) (Nat.lt_irrefl _)
  generalize hH1 : s.heap.push (newS w) = H1
  have hS : H1.get? s.heap.objs.size = some (newS w) := by rw [← hH1]; exact Heap.get?_push_size _ rfl
  have hz1 : H1.objs.size = s.heap.objs.size + 1 := by rw [← hH1]; exact Heap.size_push ..
  have old : ∀ b o, s.heap.get? b = some o → H1.get? b = some o := fun b o e => by rw [← hH1]; exact Heap.get?_push_of_some _ e
  obtain ⟨c, tl, hmro⟩ := F.called_set.mro
  have hmade := F.called_set.made
  have hsub := F.called_set.sub
  refine wpAny_call (codeAny_of_tree ?_)
  show wpAny _ _ (callAny (.type "set") _) _ _ _
  refine wpAny_pure ⟨Code.quiet_builtin _ (by decide +kernel), codeAny_builtin F.entry_type_call ?_⟩
  rw [Around.under_plain (weight_type_call_type "set" [.ref l] []) rfl]
  have h1 := F.called_set.notType
  have h2 := F.called_set.canCreate
  have hct := F.typeCall_set_1 (.ref l)
  repeat (any_goals (first | assumption | wp_step))
  refine codeAny_mono (code_set_led1 (.ref l) (E := E) (Q₁ := fun obj s₁ => obj = .ref s.heap.objs.size ∧ s₁ = { s with heap := H1 }) ⟨rfl, by rw [← hH1]⟩) fun r s₁ hr => ?_
  rcases r with e | fl
  · exact hr
  cases fl with
  | ret obj =>
    obtain ⟨rfl, rfl⟩ := hr
    have hT : Shared.TypeIs { s with heap := H1 } (.ref s.heap.objs.size) "set" := ⟨_, hS, rfl⟩
    have hli := F.called_set.init.lookup
    have hbi := F.called_set.init.bind (.ref s.heap.objs.size)
    repeat (any_goals (first | assumption | wp_step))
    refine codeAny_mono (codeAny_call_builtin (R := wants (fun r s₂ => r = .none ∧ ∃ h' tk es ep t, s₂ = { s with heap := h', toks := tk } ∧ Wid P w h' s.heap.objs.size ks.reverse es ep t ∧ ∀ b o, s.heap.get? b = some o → h'.get? b = some o) E)
      F.called_set.init.plain F.entry_set_init (check_set_init_1 hT ?_)) fun r₂ s₂ hr₂ => ?_
    · obtain ⟨⟨ocls, odict, odata, oslots⟩, hol, hcl, nl, hdl⟩ := hl
      simp only at hcl hdl
      subst hcl hdl
      have hol' := old _ _ hol
      have hsls := F.sub_list_set
      have hslf := F.sub_list_frozenset
      have hne : (Value.type "list" == Value.type "dict") = false := by decide
      have hl1 : H1.IsList l items := ⟨_, hol', rfl, nl, rfl⟩
      unfold Builtin.«set.__init__» noKeywords Builtin.Frozenset.updateFrom
      generalize hPI : pyIter = PI
      wp_walk
      subst hPI
      refine wpAny_pyIter_list hl1 (wpAny_bind (wpAny_runValue ?_))
      have hlS : l < s.heap.objs.size := Heap.lt_size hol
      refine wid_loop (ks := ks) (hisz ▸ (Walks.list (show A.in1.in1.in1.handled = none by simp [hh]) _ l (show l ≠ H1.objs.size from Nat.ne_of_lt (by rw [hz1]; exact Nat.lt_succ_of_lt hlS)) items).toS) s.heap.objs.size ?_ few nd hval s.heap hk (none_of _ (Nat.le_refl _)) ?_ hu (ks.length - 0) 0 _ rfl (Nat.zero_le _)
        ⟨⟨_, Heap.get?_push_size _ rfl, rfl, rfl⟩, (hl1.push _)⟩ (fun b o e => Heap.get?_push_of_some _ (old b o e)) ⟨#[], 0, _, wid_new (Heap.get?_push_of_some _ hS)⟩ ?_
      · simp only [List.mem_cons, List.not_mem_nil, or_false, not_or]
        exact ⟨by rw [hz1]; exact Nat.ne_of_lt (Nat.lt_succ_self _), Nat.ne_of_gt hlS⟩
      · intro b hb
        rw [List.mem_singleton.mp hb]
        exact none_of _ (by rw [hz1]; exact Nat.le_succ _)
      · intro s' es ep t hm hS' hkp
        obtain ⟨h', g2, d', tk', os'⟩ := s'
        obtain rfl : g2 = s.gens := hm.gens
        obtain rfl : d' = s.drawn := hm.drawn
        obtain rfl : os' = s.os := hm.os
        show wpAny _ _ _ _ _ _
        refine wpAny_pure ?_
        show wpAny _ _ (ret Value.none) _ _ _
        exact wpAny_pure ⟨rfl, h', tk', es, ep, t, rfl, hS', hkp⟩
    · rcases r₂ with e | fl₂
      · exact hr₂
      cases fl₂ with
      | ret r =>
        obtain ⟨rfl, h', tk, es, ep, t, rfl, hS', hk'⟩ := hr₂
        repeat (any_goals (first | assumption | wp_step))
        exact h _ _ _ _ _ hS' hk'
      | _ => exact hr₂.elim
  | _ => exact hr.elim
end
end GW

namespace GW
open PySem PySem.Spec PyProof.Rows L2
/-- len(set(xs)): up to 63 tuples of ints, or up to 1000 without two hashes alike -/
def tLenSetW (K : PySem.W.Frag) (ta : TE) : TE := fun σ H Q => ta σ H fun x H1 => ∃ (l : Addr) (ks : List (Addr × List Int)), x = .ref l ∧ SqL K H1 l (ks.map fun p => V.ref p.1) ∧ (∀ p ∈ ks, SqT K H1 p.1 (p.2.map V.int)) ∧
  ((ks.length < 64 ∧ ∀ L : List (Addr × List Int), (∀ p ∈ L, p ∈ ks) → (∀ p ∈ ks, p.2 ∈ L.map (·.2)) → (L.map (·.2)).Nodup → Q (.int (L.length : Nat)) H1) ∨
   (ks.length ≤ 1000 ∧ (ks.map fun p => thI p.2).Nodup ∧ Q (.int (ks.length : Nat)) H1))
theorem pe_lenSetW {X : Cx} {a : Expr} {ta : TE} {p p2 q pos : Pos} (hc : X.calm = true) (hg : Gl X "len") (hm : X.mg "len" = none) (hg2 : Gl X "set") (hm2 : X.mg "set" = none) (hu : X.A.units + 64 < cLine) (ha : PE X a ta)
    (na : starEach [a] X.env = (false, eval a X.env) :: starEach [] X.env := by rfl) : PE X (.Call (.Name "len" p) [.Call (.Name "set" p2) [a] [] q] [] pos) (tLenSetW X.K ta) := by
  refine ⟨fun pins s σ H Q I h => Call_ (ld_blt I hg hm boot_len (PyProof.Rows.callWith_builtin1 (PyProof.Rows.args_cons (Call_ (ld_blt I hg2 hm2 boot_set (PyProof.Rows.callWith_type1 (PyProof.Rows.args_cons (thn (ha.run pins s σ H _ I h) fun v s1 ⟨x, H1, I1, r1, q1⟩ => PyProof.Rows.args_nil ?_) na) na rfl))) rfl) rfl rfl))⟩
  obtain ⟨l, ks, rfl, hq, hk, q1⟩ := q1
  cases r1
  obtain ⟨its, rv, pl, hz⟩ := I1.list hq
  have hit := refs_of_vals rv
  have hkT : ∀ p ∈ ks, IsT X.prog X.w s1.heap p.2 p.1 := fun p hp => I1.isT (hk p hp)
  rcases q1 with ⟨h64, q1⟩ | ⟨few, nd, q1⟩
  · refine call_set_tups (P := X.prog) (w := X.w) ks (I1.ok.hd hc) pl.isList (by simpa using hit) hkT h64 (by omega) fun h' tk L es ep t R g kp => PyProof.Rows.args_nil ?_
    obtain ⟨o, ho, hex, hd⟩ := R.ob
    have R' : SetTR X.prog X.w (Shared.heap { s1 with heap := h', toks := tk }) s1.heap.objs.size L es ep t := R
    have hsz := R'.size (s := { s1 with heap := h', toks := tk })
    have hfew := R.few
    have I2 : Inv X pins σ H1 { s1 with heap := h', toks := tk } := I1.kept fun b o e => kp b o e
    refine call_len_set ho hex hd (R'.fits (s := { s1 with heap := h', toks := tk })) (by omega) ⟨.int es.size, H1, I2.tok _, ⟨_, rfl⟩, ?_⟩
    rw [hsz]
    exact q1 L (fun p hp => List.mem_of_mem_take (g.sub p hp)) (fun p hp => g.all p (by rw [List.take_length]; exact hp)) R.nd
  · refine call_set_wid (P := X.prog) (w := X.w) (ks := ks) (I1.ok.hd hc) pl.isList (by simpa using hit) hkT few nd (by omega) fun h' tk es ep t R kp => PyProof.Rows.args_nil ?_
    obtain ⟨o, ho, hex, hd⟩ := R.ob
    have hsz := rows_len R.rows
    rw [List.length_reverse] at hsz
    have I2 : Inv X pins σ H1 { s1 with heap := h', toks := tk } := I1.kept fun b o e => kp b o e
    refine call_len_set ho hex hd (Wid.fits (s := { s1 with heap := h', toks := tk }) R) (by omega) ⟨.int es.size, H1, I2.tok _, ⟨_, rfl⟩, ?_⟩
    rw [hsz]
    exact q1
/-! #### the hashes of the ties of up to 40 places -/
def chk : List Nat → Nat → Bool
  | [], _ => true
  | x :: xs, acc => !acc.testBit x && chk xs (acc ||| (1 <<< x))
theorem chk_spec : ∀ {xs : List Nat} {acc : Nat}, chk xs acc = true → xs.Nodup ∧ ∀ x ∈ xs, acc.testBit x = false
  | [], _, _ => ⟨List.nodup_nil, fun _ h => nomatch h⟩
  | x :: xs, acc, h => by
    have h := (Bool.and_eq_true _ _).mp h
    obtain ⟨h1, h2⟩ := chk_spec h.2
    have hx : acc.testBit x = false := by simpa using h.1
    refine ⟨List.nodup_cons.mpr ⟨fun hm => ?_, h1⟩, fun y hy => ?_⟩
    · have := h2 x hm
      rw [Nat.testBit_or, Nat.testBit_shiftLeft] at this
      simp at this
    · rcases List.mem_cons.mp hy with e | hy
      · rw [e]; exact hx
      · have := h2 y hy
        rw [Nat.testBit_or, Bool.or_eq_false_iff] at this
        exact this.1
def keyN (h : Int) : Nat := (h % 100000).toNat
def pairsN : List (Nat × Nat) := (List.range 40).flatMap fun v => (List.range v).map fun u => (u, v)
def keyP (p : Nat × Nat) : Nat := keyN (thI [(p.1 : Int), (p.2 : Int)])
theorem keys_ok : chk (pairsN.map keyP) 0 = true := by decide +kernel
theorem pairs_len : pairsN.length = 780 := by decide +kernel
theorem inj_of {α β : Type} {f : α → β} : ∀ {l : List α}, (l.map f).Nodup → ∀ a ∈ l, ∀ b ∈ l, f a = f b → a = b
  | x :: l, h, a, ha, b, hb, e => by
    obtain ⟨h1, h2⟩ := List.nodup_cons.mp h
    rcases List.mem_cons.mp ha with za | za
    · rcases List.mem_cons.mp hb with zb | zb
      · rw [za, zb]
      · exact absurd (List.mem_map.mpr ⟨b, zb, by rw [← e, za]⟩) h1
    · rcases List.mem_cons.mp hb with zb | zb
      · exact absurd (List.mem_map.mpr ⟨a, za, by rw [e, zb]⟩) h1
      · exact inj_of h2 a za b zb e
/-- ties of at most 40 places -/
def Narrow (ts : List (Int × Int)) : Prop := ∀ t ∈ ts, 0 ≤ t.1 ∧ t.1 < t.2 ∧ t.2 < 40
theorem narrow_in {t : Int × Int} (h : 0 ≤ t.1 ∧ t.1 < t.2 ∧ t.2 < 40) : (t.1.toNat, t.2.toNat) ∈ pairsN ∧ t = (((t.1.toNat : Nat) : Int), ((t.2.toNat : Nat) : Int)) := by
  refine ⟨List.mem_flatMap.mpr ⟨t.2.toNat, List.mem_range.mpr (by omega), List.mem_map.mpr ⟨t.1.toNat, List.mem_range.mpr (by omega), rfl⟩⟩, ?_⟩
  refine Prod.ext ?_ ?_
  · show t.1 = _; omega
  · show t.2 = _; omega
theorem narrow_eq {s t : Int × Int} (hs : 0 ≤ s.1 ∧ s.1 < s.2 ∧ s.2 < 40) (ht : 0 ≤ t.1 ∧ t.1 < t.2 ∧ t.2 < 40) (e : (s.1.toNat, s.2.toNat) = (t.1.toNat, t.2.toNat)) : s = t := by
  injection e with e1 e2
  exact Prod.ext (by omega) (by omega)
theorem hash_inj {s t : Int × Int} (hs : 0 ≤ s.1 ∧ s.1 < s.2 ∧ s.2 < 40) (ht : 0 ≤ t.1 ∧ t.1 < t.2 ∧ t.2 < 40) (e : thI [s.1, s.2] = thI [t.1, t.2]) : s = t := by
  obtain ⟨a1, a2⟩ := narrow_in hs
  obtain ⟨b1, b2⟩ := narrow_in ht
  have := inj_of (chk_spec keys_ok).1 _ a1 _ b1 (by
    show keyN (thI [((s.1.toNat : Nat) : Int), ((s.2.toNat : Nat) : Int)]) = keyN (thI [((t.1.toNat : Nat) : Int), ((t.2.toNat : Nat) : Int)])
    rw [show ((s.1.toNat : Nat) : Int) = s.1 by omega, show ((s.2.toNat : Nat) : Int) = s.2 by omega, show ((t.1.toNat : Nat) : Int) = t.1 by omega, show ((t.2.toNat : Nat) : Int) = t.2 by omega, e])
  exact narrow_eq hs ht this
theorem narrow_len {ts : List (Int × Int)} (h : Narrow ts) (nd : ts.Nodup) : ts.length ≤ 780 := by
  have key : ∀ (l : List (Int × Int)) (D : List (Nat × Nat)), l.Nodup → (∀ t ∈ l, 0 ≤ t.1 ∧ t.1 < t.2 ∧ t.2 < 40) → (∀ t ∈ l, (t.1.toNat, t.2.toNat) ∈ D) → l.length ≤ D.length := by
    intro l
    induction l with
    | nil => intro D _ _ _; exact Nat.zero_le _
    | cons x l ih =>
      intro D nd hn hD
      obtain ⟨h1, h2⟩ := List.nodup_cons.mp nd
      have hx := hD x List.mem_cons_self
      have := ih (D.erase (x.1.toNat, x.2.toNat)) h2 (fun t ht => hn t (List.mem_cons_of_mem _ ht)) fun t ht => (List.mem_erase_of_ne fun e => h1 (narrow_eq (hn t (List.mem_cons_of_mem _ ht)) (hn x List.mem_cons_self) e ▸ ht)).mpr (hD t (List.mem_cons_of_mem _ ht))
      rw [List.length_erase_of_mem hx] at this
      have := List.length_pos_of_mem hx
      rw [List.length_cons]
      omega
  rw [← pairs_len]
  exact key ts pairsN nd h fun t ht => (narrow_in (h t ht)).1
end GW
namespace G
open PySem L2
section
variable {K : PySem.W.Frag} {Γ : Ga} {k : Gp → Ga → Prop} {te : TE}
theorem lenSet_count {ks L : List (Addr × List Int)} {ts : List (Int × Int)} (e2 : ks.map (·.2) = ts.map (fun t => [t.1, t.2])) (h1 : ∀ p ∈ L, p ∈ ks) (h2 : ∀ p ∈ ks, p.2 ∈ L.map (·.2)) (h3 : (L.map (·.2)).Nodup) :
    L.length ≤ ts.length ∧ (L.length = ts.length ↔ ts.Nodup) := by
  have inj : ∀ {s t : Int × Int}, [s.1, s.2] = [t.1, t.2] → s = t := fun {s t} e => by
    simp at e
    exact Prod.ext e.1 e.2
  have hsub : ∀ x ∈ L.map (·.2), x ∈ ts.map (fun t => [t.1, t.2]) := fun x hx => by
    obtain ⟨p, hp, rfl⟩ := List.mem_map.mp hx
    rw [← e2]
    exact List.mem_map.mpr ⟨p, h1 p hp, rfl⟩
  have hsup : ∀ x ∈ ts.map (fun t => [t.1, t.2]), x ∈ L.map (·.2) := fun x hx => by
    rw [← e2] at hx
    obtain ⟨p, hp, rfl⟩ := List.mem_map.mp hx
    exact h2 p hp
  have hle := nodup_len _ _ h3 hsub
  rw [List.length_map, List.length_map] at hle
  refine ⟨hle, fun e => Decidable.byContradiction fun hn => ?_, fun hn => ?_⟩
  · have key : ∀ us : List (Int × Int), ¬ us.Nodup → ∃ us' : List (Int × Int), us'.length < us.length ∧ ∀ x ∈ us, x ∈ us' := fun us => by
      induction us with
      | nil => intro h; exact absurd List.nodup_nil h
      | cons a us ih =>
        intro h
        by_cases hm : a ∈ us
        · exact ⟨us, by simp, fun x hx => by
            rcases List.mem_cons.mp hx with e | hx
            · rw [e]; exact hm
            · exact hx⟩
        · obtain ⟨us', h1, h2⟩ := ih fun z => h (List.nodup_cons.mpr ⟨hm, z⟩)
          exact ⟨a :: us', by simpa using h1, fun x hx => by
            rcases List.mem_cons.mp hx with e | hx
            · simp [e]
            · simp [h2 x hx]⟩
    obtain ⟨us', h4, h5⟩ := key ts hn
    have := nodup_len _ (us'.map fun t => [t.1, t.2]) h3 fun x hx => by
      obtain ⟨t, ht, rfl⟩ := List.mem_map.mp (hsub x hx)
      exact List.mem_map.mpr ⟨t, h5 t ht, rfl⟩
    rw [List.length_map, List.length_map] at this
    omega
  · have := nodup_len (ts.map fun t => [t.1, t.2]) (L.map (·.2)) (List.Pairwise.map _ (fun a b hab e => hab (inj e)) hn) hsup
    rw [List.length_map, List.length_map] at this
    omega
/-- len(set(ties)): as many as there are different ones; up to 63, or different ones of at most 40 places -/
theorem we_lenSetW (h : WQ te Γ fun q Γ1 => ∃ ts : List (Int × Int), q = dP (.list (ts.map tieD)) ∧ (ts.length < 64 ∨ (GW.Narrow ts ∧ ts.Nodup)) ∧ ∀ m : Nat, m ≤ ts.length → (m = ts.length ↔ ts.Nodup) → k (dat (.int m)) Γ1) : WE (GW.tLenSetW K te) Γ k := by
  intro ω σ H S Q f
  refine h ω σ H S _ fun v q Γ1 ω1 H1 ⟨ts, e, hl, hk⟩ S1 p f1 => ?_
  subst e
  obtain ⟨a, xs, rfl, ha, hd⟩ := DR.lst_inv p
  obtain ⟨ks, rfl, e2, hks⟩ := ties_keys hd
  have hlen : ks.length = ts.length := by
    have := congrArg List.length e2
    simpa using this
  refine ⟨a, ks, rfl, SqL.of (vw_H ha), fun p hp => SqT.of (vw_H (hks p hp)), ?_⟩
  rcases hl with hl | ⟨hw, hn⟩
  · refine .inl ⟨by omega, fun L h1 h2 h3 => ?_⟩
    obtain ⟨c1, c2⟩ := lenSet_count e2 h1 h2 h3
    exact f _ _ Γ1 ω1 H1 (hk L.length c1 c2) S1 (DR.int _) f1
  · refine .inr ⟨by have := GW.narrow_len hw hn; omega, ?_, ?_⟩
    · have e3 : (ks.map fun p => GW.thI p.2) = ts.map fun t => GW.thI [t.1, t.2] := by
        rw [show (ks.map fun p => GW.thI p.2) = (ks.map (·.2)).map GW.thI by rw [List.map_map]; rfl, e2, List.map_map]
        rfl
      rw [e3]
      refine List.pairwise_map.mpr ?_
      have both : ∀ l : List (Int × Int), l.Nodup → (∀ t ∈ l, t ∈ ts) → l.Pairwise fun s t => GW.thI [s.1, s.2] ≠ GW.thI [t.1, t.2] := by
        intro l
        induction l with
        | nil => intro _ _; exact .nil
        | cons x l ih =>
          intro nd hs
          obtain ⟨n1, n2⟩ := List.nodup_cons.mp nd
          exact List.pairwise_cons.mpr ⟨fun y hy e => n1 (GW.hash_inj (hw x (hs x List.mem_cons_self)) (hw y (hs y (List.mem_cons_of_mem _ hy))) e ▸ hy), ih n2 fun t ht => hs t (List.mem_cons_of_mem _ ht)⟩
      exact both ts hn fun t ht => ht
    · rw [hlen]
      exact f _ _ Γ1 ω1 H1 (hk ts.length (Nat.le_refl _) ⟨fun _ => hn, fun _ => rfl⟩) S1 (DR.int _) f1
end
end G

/-! ### own things looked at as they stand; lists of fresh lists; each list grown by one -/
namespace G
open PySem L2
/-- the slots of Γ as they stand: what may be looked at -/
def Still (Γ Γ0 : Ga) : Prop := Γ0.length = Γ.length ∧ ∀ (i : Nat) (g0 : Gp), Γ0[i]? = some (some g0) → ∃ g q, Γ[i]? = some (some g) ∧ Frz g q ∧ g0 = per q
theorem we_still {Γ Γ0 : Ga} {k : Gp → Ga → Prop} {te : TE} (s : Still Γ Γ0) (h : WE te Γ0 fun g _ => ∃ d, g = dat d ∧ scal d = true ∧ k (dat d) Γ) : WE te Γ k := fun ω σ H S Q f => by
  classical
  let ω0 : Col := fun a => if ω a = 1 then 1 else 0
  have c0 : ∀ c, c ≠ 1 → Same (vw ω H c) (vw ω0 H 0) := fun c hc a o z => vw_mk (by
    show (if ω a = 1 then 1 else 0) = 0
    rw [if_neg (by rw [vw_c z]; exact hc)]) (vw_H z)
  have S0 : Sta Γ0 ω0 σ H := ⟨by rw [s.1]; exact S.1, fun i g0 hi => by
    obtain ⟨g, q, hg, fz, rfl⟩ := s.2 i g0 hi
    obtain ⟨v, e, p⟩ := S.2 i g hg
    exact ⟨v, e, fz _ _ _ _ (c0 0 (by decide)) (c0 _ (by omega)) p⟩⟩
  refine h ω0 σ H S0 _ fun v g Γ' ω' H' ⟨d, eg, hd, hk⟩ S' p fr => ?_
  subst eg
  let ω2 : Col := fun a => if (H a).isSome then ω a else 1
  have keep : ∀ c, Same (vw ω H c) (vw ω2 H' c) := fun c a o z => by
    have hH := vw_H z
    have hc := vw_c z
    refine vw_mk (by show (if (H a).isSome then ω a else 1) = c; rw [hH]; exact hc) ?_
    by_cases h1 : ω a = 1
    · exact vw_H (fr.2 a o (vw_mk (by show (if ω a = 1 then 1 else 0) = 1; rw [if_pos h1]) hH))
    · exact vw_H (fr.1 a o (vw_mk (by show (if ω a = 1 then 1 else 0) = 0; rw [if_neg h1]) hH))
  exact f v (dat d) Γ ω2 H' hk (S.move (keep 0) fun i _ _ => keep _) (DR.scal hd p) ⟨keep 0, keep 1⟩
section
variable {K : PySem.W.Frag} {P : Nat → Bool} {Γ : Ga} {D : Pe} {k : Gp → Ga → Prop} {te : TE} {g : TG}
/-- [e for .. in ..], each e a fresh list -/
theorem we_lcO {wi : TI} {vs : List Nat} (Pv : Nat → List (List PyData) → Ga → Prop) (h : WI wi Γ fun n it Γ1 => n < 100000 ∧ Pv 0 [] Γ1 ∧ (∀ dss Γ2, Pv n dss Γ2 → k (own2 dss) Γ2) ∧ ∀ i dss Γ2, i < n → Pv i dss Γ2 → Γ2.length = Γ.length →
    WG (fun i => !vs.contains i) g (it i) (wipeG Γ2 vs) fun Γ3 => WE te Γ3 fun g Γ4 => ∃ ds, g = own ds ∧ Pv (i + 1) (dss ++ [ds]) (wipeG Γ4 vs)) :
    WE (tLc wi g tYes te vs) Γ k := fun ω σ H S Q f => h ω σ H S _ fun J n it Γ1 ω1 H1 ⟨hn, h0, hd, hs⟩ S1 W f1 => by
  intro L hL
  have hlen : ∀ {Γ2 : Ga} {ω2 : Col} {σ2 : L2.St} {H2 : Hp}, Sta Γ2 ω2 σ2 H2 → σ2.length = σ.length → Γ2.length = Γ.length := fun {Γ2 ω2 σ2 H2} S2 e => by rw [← S2.1, e, S.1]
  refine ⟨fun i μ H' => μ = n - i ∧ i ≤ n ∧ ∃ bs dss Γ2 ω2, Pv i dss Γ2 ∧ Sta Γ2 ω2 σ H' ∧ Fr ω1 ω2 H1 H' ∧ (ω2 L = 1 ∧ H' L = some (.lst (bs.map V.ref))) ∧ bs.length = i ∧ (L :: bs).Nodup ∧ In2 (vw ω2 H' 0) (vw ω2 H' 1) bs dss ∧ ∀ a o, vw ω1 H1 1 a = some o → a ∉ L :: bs,
    ⟨n, by simp, Nat.zero_le _, [], [], Γ1, paint ω1 L 1, h0, S1.new 1 hL, paint_fr hL, ⟨by unfold paint; rw [if_pos rfl], upd_same⟩, rfl, by simp, ⟨rfl, fun i b ds e _ => by simp at e⟩, fun a o z => by simpa using ne_of_none (vw_H z) hL⟩, ?_⟩
  rintro i μ H' ⟨rfl, hi, bs, dss, Γ2, ω2, p2, S2, f2, ⟨c2, e2⟩, l2, n2, b2, a2⟩
  have sA : Same (vw ω1 H1 0) H' := fun a o e => vw_H (f2.1 a o e)
  by_cases hlt : i < n
  · refine .inr ⟨((W i H' sA).1 hlt).1, fun H'' => ∃ bs dss Γ2 ω2, Pv (i + 1) dss Γ2 ∧ Sta Γ2 ω2 σ H'' ∧ Fr ω1 ω2 H1 H'' ∧ (ω2 L = 1 ∧ H'' L = some (.lst (bs.map V.ref))) ∧ bs.length = i + 1 ∧ (L :: bs).Nodup ∧ In2 (vw ω2 H'' 0) (vw ω2 H'' 1) bs dss ∧ ∀ a o, vw ω1 H1 1 a = some o → a ∉ L :: bs,
      fun H'' z => ⟨n - (i + 1), by omega, rfl, hlt, z⟩, fun x H'' y => ?_⟩
    obtain ⟨ω3, S3, f3, q3⟩ := yld_ok W rfl f2 S2 hlt y
    refine hs i dss Γ2 hlt p2 (hlen S2 rfl) ω3 _ H'' x (S3.wipe vs) q3 _ fun Γ4 ω4 σ4 H4 h4 S4 f4 q4 => ?_
    obtain ⟨_, ew⟩ := S4.unwipe q4
    refine ⟨ew, ?_⟩
    unfold tYes
    refine iteT ?_
    refine h4 ω4 σ4 H4 S4 _ fun v g5 Γ5 ω5 H5 ⟨ds, eg, hP⟩ S5 p5 f5 => ?_
    subst eg
    obtain ⟨b, ys, rfl, hb, hds⟩ := p5
    obtain ⟨S6, _⟩ := S5.unwipe q4
    have f25 : Fr ω2 ω5 H' H5 := (f3.trans f4).trans f5
    have zL := f25.2 L _ (vw_mk c2 e2)
    have z2 := b2.mono f25.1 f25.2
    have cb := vw_c hb
    have nL : L ≠ b := fun e => by rw [← e, vw_c zL] at cb; cases cb
    have nb : ∀ b' ∈ bs, b' ≠ b := fun b' hb' e => by
      obtain ⟨t, ht⟩ := List.getElem?_of_mem hb'
      obtain ⟨d', hd'⟩ : ∃ d', dss[t]? = some d' := ⟨dss[t]'(by rw [← z2.1]; exact (List.getElem?_eq_some_iff.mp ht).1), by simp⟩
      obtain ⟨ys', h1, _⟩ := z2.2 t b' d' ht hd'
      rw [← e, vw_c h1] at cb
      cases cb
    have f15 : Fr ω1 ω5 H1 H5 := f2.trans f25
    let ω6 : Col := paint ω5 b 1
    have pn : ∀ c, c ≠ 2 → Same (vw ω5 H5 c) (vw ω6 H5 c) := fun c hc a o z => by
      have : a ≠ b := fun e => hc (by rw [← vw_c z, e, cb])
      exact vw_mk (by show paint ω5 b 1 a = c; unfold paint; rw [if_neg this]; exact vw_c z) (vw_H z)
    have cL : ω6 L = 1 := by show paint ω5 b 1 L = 1; unfold paint; rw [if_neg nL]; exact vw_c zL
    have m0 : ∀ c, c ≠ 1 → Same (vw ω6 H5 c) (vw ω6 (upd H5 L (.lst (bs.map V.ref ++ [.ref b]))) c) := fun c hc => mut_same (by rw [cL]; exact Ne.symm hc)
    refine ⟨bs.map V.ref, vw_H zL, by rw [List.length_map, l2]; exact Nat.lt_of_lt_of_le (by omega : i < 100000) (by decide), bs ++ [b], dss ++ [ds], _, ω6, hP, ?_, ?_, ⟨cL, ?_⟩, by simp [l2], ?_, ?_, ?_⟩
    · exact S6.move ((pn 0 (by decide)).trans (m0 0 (by decide))) fun j _ _ => (pn _ (by omega)).trans (m0 _ (by omega))
    · refine ⟨(f15.1.trans (pn 0 (by decide))).trans (m0 0 (by decide)), fun a o z => ?_⟩
      have z' := (pn 1 (by decide)) a o (f15.2 a o z)
      have h2 : a ≠ L := fun e => a2 a o z (by simp [e])
      exact vw_mk (vw_c z') (by rw [upd_ne h2]; exact vw_H z')
    · rw [upd_same]
      simp
    · rw [List.nodup_cons] at n2 ⊢
      refine ⟨by simp [n2.1, nL], List.nodup_append.mpr ⟨n2.2, by simp, fun a ha b' hb' => ?_⟩⟩
      rw [List.mem_singleton.mp hb']
      exact nb a ha
    · refine ⟨by simp [z2.1], fun t b' d' e1 e3 => ?_⟩
      have s0 := (pn 0 (by decide)).trans (m0 0 (by decide))
      by_cases ht : t < bs.length
      · rw [List.getElem?_append_left ht] at e1
        rw [List.getElem?_append_left (by rw [← z2.1]; exact ht)] at e3
        obtain ⟨ys', h1, h3⟩ := z2.2 t b' d' e1 e3
        have hne : b' ≠ L := fun e => (List.nodup_cons.mp n2).1 (e ▸ List.mem_of_getElem? e1)
        have h1' := (pn 1 (by decide)) _ _ h1
        exact ⟨ys', vw_mk (vw_c h1') (by rw [upd_ne hne]; exact vw_H h1'), h3.mono s0⟩
      · have et : t = bs.length := by
          have := (List.getElem?_eq_some_iff.mp e1).1
          rw [List.length_append] at this
          have : t < bs.length + 1 := this
          omega
        subst et
        rw [List.getElem?_append_right (Nat.le_refl _), Nat.sub_self] at e1
        rw [z2.1, List.getElem?_append_right (Nat.le_refl _), Nat.sub_self] at e3
        cases e1
        cases e3
        exact ⟨ys, vw_mk (by show paint ω5 b 1 b = 1; unfold paint; rw [if_pos rfl]) (by rw [upd_ne (Ne.symm nL)]; exact vw_H hb), hds.mono s0⟩
    · intro a o z hm
      rcases List.mem_cons.mp hm with e | hm
      · exact a2 a o z (by simp [e])
      · rcases List.mem_append.mp hm with hm | hm
        · exact a2 a o z (by simp [hm])
        · rw [List.mem_singleton.mp hm] at z
          have := vw_c (f15.2 _ _ z)
          rw [cb] at this
          cases this
  · have e : i = n := by omega
    subst e
    refine .inl ⟨(W i H' sA).2 (Nat.le_refl _), ?_⟩
    let ω3 : Col := fun b => if b ∈ L :: bs then 2 else ω2 b
    have c1 : ∀ b ∈ L :: bs, ω2 b = 1 := fun b hb => by
      rcases List.mem_cons.mp hb with e | hb
      · rw [e]; exact c2
      · obtain ⟨t, ht⟩ := List.getElem?_of_mem hb
        obtain ⟨d', hd'⟩ : ∃ d', dss[t]? = some d' := ⟨dss[t]'(by rw [← b2.1]; exact (List.getElem?_eq_some_iff.mp ht).1), by simp⟩
        obtain ⟨ys', h1, _⟩ := b2.2 t b d' ht hd'
        exact vw_c h1
    have pn : ∀ c, c ≠ 1 → Same (vw ω2 H' c) (vw ω3 H' c) := fun c hc a o z => by
      refine vw_mk ?_ (vw_H z)
      show (if _ then _ else _) = c
      rw [if_neg]
      · exact vw_c z
      · intro e
        exact hc ((vw_c z).symm.trans (c1 a e))
    refine f (.ref L) (own2 dss) Γ2 ω3 H' (hd dss Γ2 p2) (S2.move (pn 0 (by decide)) fun i _ _ => pn _ (by omega)) ⟨L, bs, rfl, vw_mk (by show (if _ then _ else _) = _; rw [if_pos (by simp)]) e2, n2, b2.1, fun j b ds e1 e3 => ?_⟩ (f1.trans ⟨f2.1.trans (pn 0 (by decide)), fun a o z => ?_⟩)
    · obtain ⟨ys, h1, h3⟩ := b2.2 j b ds e1 e3
      exact ⟨ys, vw_mk (by show (if _ then _ else _) = _; rw [if_pos (by simp [List.mem_of_getElem? e1])]) (vw_H h1), h3.mono (pn 0 (by decide))⟩
    · have z' := f2.2 a o z
      refine vw_mk ?_ (vw_H z')
      show (if _ then _ else _) = _
      rw [if_neg (a2 a o z)]
      exact vw_c z'
end
inductive StillL : Ga → Ga → Prop
  | nil : StillL [] []
  | non {o : Option Gp} {Γ Γ0 : Ga} : StillL Γ Γ0 → StillL (o :: Γ) (none :: Γ0)
  | per {q : Per} {Γ Γ0 : Ga} : StillL Γ Γ0 → StillL (some (per q) :: Γ) (some (per q) :: Γ0)
  | frz {g : Gp} {q : Per} {Γ Γ0 : Ga} : Frz g q → StillL Γ Γ0 → StillL (some g :: Γ) (some (per q) :: Γ0)
theorem StillL.still : ∀ {Γ Γ0 : Ga}, StillL Γ Γ0 → Still Γ Γ0
  | _, _, .nil => ⟨rfl, fun i g0 h => by simp at h⟩
  | _, _, .non t => ⟨by simp [t.still.1], fun i g0 h => by
    match i, h with
    | 0, h => cases h
    | i + 1, h => exact t.still.2 i g0 (by simpa using h)⟩
  | _, _, .per t => ⟨by simp [t.still.1], fun i g0 h => by
    match i, h with
    | 0, h => cases h; exact ⟨_, _, rfl, frz_per, rfl⟩
    | i + 1, h => exact t.still.2 i g0 (by simpa using h)⟩
  | _, _, .frz z t => ⟨by simp [t.still.1], fun i g0 h => by
    match i, h with
    | 0, h => cases h; exact ⟨_, _, rfl, z, rfl⟩
    | i + 1, h => exact t.still.2 i g0 (by simpa using h)⟩
end G

/-! ### an own list lent for an expression that makes a list of pairs; an own list handed to a constructor -/
namespace G
open PySem L2
theorem ties_move {A A' : Hp} (s : ∀ (a : Addr) (xs : List V), A a = some (.tup xs) → A' a = some (.tup xs)) : ∀ {ps : List (Int × Int)} {vs : List V}, DRs A vs (ps.map tieD) → DRs A' vs (ps.map tieD)
  | [], _, h => by cases h; exact .nil
  | t :: ps, _, h => by
    cases h with | cons x y =>
    obtain ⟨_, a, rfl, ha⟩ := key_tie x
    exact .cons (.tup (s _ _ ha) (.cons (.int _) (.cons (.int _) .nil))) (ties_move s y)
section
variable {K : PySem.W.Frag} {Γ Γ0 : Ga} {k : Gp → Ga → Prop} {te : TE} {tr : TA} {C : Addr} {E : XK} {F : Fw}
/-- Γ0: slot i of Γ as it stands, and what is frozen -/
def Lent1 (i : Nat) (ds : List PyData) (Γ Γ0 : Ga) : Prop := Γ[i]? = some (some (own ds)) ∧ Γ0.length = Γ.length ∧ ∀ (j : Nat) (g0 : Gp), Γ0[j]? = some (some g0) → (j = i ∧ g0 = dat (.list ds)) ∨ ∃ q, g0 = per q ∧ Γ[j]? = some (some (per q))
theorem we_lendT {i : Nat} {ds : List PyData} (s : Lent1 i ds Γ Γ0) (h : WE te Γ0 fun g _ => ∃ ps : List (Int × Int), g = own (ps.map tieD) ∧ k (own (ps.map tieD)) Γ) : WE te Γ k := fun ω σ H S Q f => by
  classical
  obtain ⟨v0, ev, L, xs, rfl, hL, hx⟩ := S.2 i _ s.1
  let ω0 : Col := fun a => if a = L ∨ ω a = 0 then 0 else 1
  have k0 : Same (vw ω H 0) (vw ω0 H 0) := fun a o z => vw_mk (by show (if _ then 0 else 1) = 0; rw [if_pos (.inr (vw_c z))]) (vw_H z)
  have S0 : Sta Γ0 ω0 σ H := ⟨by rw [s.2.1]; exact S.1, fun j g0 hj => by
    rcases s.2.2 j g0 hj with ⟨rfl, rfl⟩ | ⟨q, rfl, hq⟩
    · exact ⟨_, ev, DR.lst (vw_mk (by show (if _ then 0 else 1) = 0; rw [if_pos (.inl rfl)]) (vw_H hL)) (hx.mono k0)⟩
    · obtain ⟨v, e, p⟩ := S.2 j _ hq
      exact ⟨v, e, q.mono k0 p⟩⟩
  refine h ω0 σ H S0 _ fun v g Γ' ω' H' ⟨ps, eg, hk⟩ S' p fr => ?_
  subst eg
  obtain ⟨r, vs, rfl, hr, hd⟩ := p
  -- what was, is, and its colour is 0 or 1
  have was : ∀ a o, H a = some o → H' a = some o ∧ (ω' a = 0 → a = L ∨ ω a = 0) ∧ ω' a ≠ 2 := fun a o z => by
    by_cases c : a = L ∨ ω a = 0
    · have y := fr.1 a o (vw_mk (by show (if _ then 0 else 1) = 0; rw [if_pos c]) z)
      exact ⟨vw_H y, fun _ => c, by rw [vw_c y]; decide⟩
    · have y := fr.2 a o (vw_mk (by show (if _ then 0 else 1) = 1; rw [if_neg c]) z)
      exact ⟨vw_H y, fun e => absurd ((vw_c y).symm.trans e) (by decide), by rw [vw_c y]; decide⟩
  let ω2 : Col := fun a => if (H a).isSome then ω a else ω' a
  have keep : ∀ c, Same (vw ω H c) (vw ω2 H' c) := fun c a o z => vw_mk (by show (if (H a).isSome = true then ω a else ω' a) = c; rw [vw_H z]; exact (if_pos rfl).trans (vw_c z)) (was a o (vw_H z)).1
  have hrn : H r = none := by
    cases e : H r with
    | none => rfl
    | some o => exact absurd (vw_c hr) (was r o e).2.2
  refine f (.ref r) (own (ps.map tieD)) Γ ω2 H' hk (S.move (keep 0) fun i _ _ => keep _) ⟨r, vs, rfl, vw_mk (by show (if (H r).isSome = true then ω r else ω' r) = 2; rw [hrn, if_neg (by simp)]; exact vw_c hr) (vw_H hr), ties_move (fun a ys z => ?_) hd⟩ ⟨keep 0, keep 1⟩
  refine vw_mk ?_ (vw_H z)
  show (if (H a).isSome = true then ω a else ω' a) = 0
  cases e : H a with
  | none => rw [if_neg (by simp)]; exact vw_c z
  | some o =>
    obtain ⟨w1, w2, _⟩ := was a o e
    rcases w2 (vw_c z) with c | c
    · subst c
      rw [vw_H z] at w1
      rw [vw_H hL] at e
      cases e
      cases w1
    · exact (if_pos rfl).trans c
end
end G

namespace G
open PySem L2
local macro_rules | `(tactic| walk_at "g1") => `(tactic| first
  | (with_reducible show WE _ _ _; with_reducible first | refine we_var (by with_unfolding_all exact rfl) ?_ | (show WE (tOp _ _ _) _ _; first | refine we_ixS (by with_unfolding_all exact rfl) ?_ | refine we_ixScr (by with_unfolding_all exact rfl) ?_ | refine we_inS (by with_unfolding_all exact rfl) ?_ | refine we_notInS (by with_unfolding_all exact rfl) ?_ | refine we_eqS (by with_unfolding_all exact rfl) ?_ | refine we_neS (by with_unfolding_all exact rfl) ?_ | refine we_opK ?_) | (show WE (tCB _ _) _ _; first | refine we_lenS' (by with_unfolding_all exact rfl) ?_ | refine we_lenScr (by with_unfolding_all exact rfl) ?_ | refine we_cbK ?_) | refine we_int ?_ | refine we_bl ?_ | refine we_non ?_ | refine we_str ?_ | refine we_neg ?_ | refine we_not ?_ | refine we_and ?_ | refine we_or ?_ | refine we_if ?_ | refine we_tup ?_ | refine we_lst ?_ | refine we_call ?_ | refine we_mt (by with_unfolding_all exact rfl) ?_)
  | (with_reducible show WS _ _ _ _; with_reducible first | refine ws_seqA ?_ | refine ws_seqD ?_ | refine ws_asg (by with_unfolding_all exact rfl) ?_ | refine ws_asgG ?_ | refine ws_if ?_ | refine ws_ret ?_ | refine ws_drop ?_ | refine ws_next ?_ | refine ws_retN ?_)
  | (with_reducible show WT _ _ _; with_reducible first | refine wt_test ?_ | refine wt_B ?_ | refine wt_not ?_ | refine wt_and ?_ | refine wt_or ?_ | refine wt_yes ?_)
  | (with_reducible show WA _ _ _; with_reducible first | refine wa_nil ?_ | refine wa_cons (wq_of (we_var (by with_unfolding_all exact rfl) ?_)) | refine wa_slotU (by with_unfolding_all exact rfl) ?_ | refine wa_cons ?_)
  | (with_reducible show OpK _ _ _ _ _; with_reducible first | refine ok_plusI ?_ | refine ok_sub ?_ | refine ok_lt ?_ | refine ok_le ?_ | refine ok_gt ?_ | refine ok_ge ?_ | refine ok_eqI ?_ | refine ok_neI ?_ | refine ok_mod (by first | assumption | decide | omega) ?_ | refine ok_ixL (by with_unfolding_all exact rfl) ?_)
  | (with_reducible show CbK _ _ _ _; with_reducible first | refine ck_lenL ?_ | refine ck_lenT ?_ | refine ck_int ?_ | refine ck_intB ?_ | refine ck_max ?_ | refine ck_min ?_ | refine ck_list ?_)
  | with_reducible refine wq_of ?_
  | (with_reducible show WG _ _ _ _ _; with_reducible first | refine wg_name (by with_unfolding_all exact rfl) ?_ | refine wg_tup (by with_unfolding_all exact rfl) ?_ | refine wg_set (by with_unfolding_all exact rfl) ?_)
  | (with_reducible show WGs _ _ _ _ _; with_reducible first | refine wgs_cons ?_ | refine wgs_nil ?_)
  | with_reducible refine iteT ?_
  | with_reducible refine iteF ?_
  | with_reducible refine ⟨_, frz_per, ?_⟩
  | with_reducible refine ⟨_, frz_own, ?_⟩
  | refine ⟨_, rfl, ?_⟩
  | refine ⟨_, argD1, ?_⟩
  | refine ⟨_, argD2, ?_⟩
  | refine ⟨_, argD0, ?_⟩
  | refine ⟨_, argD3, ?_⟩
  | refine ⟨_, argD4, ?_⟩
  | refine ⟨_, _, rfl, rfl, rfl, ?_⟩
  | refine ⟨_, _, _, rfl, rfl, rfl, ?_⟩
  | refine ⟨(by simp only [List.length_cons, List.length_nil]; decide), ?_⟩
  | refine ⟨rfl, nd1, ?_⟩
  | refine ⟨rfl, nd0, ?_⟩)
local macro_rules | `(tactic| walk_at "go") => `(tactic| repeat walk_at "g1")
local macro_rules | `(tactic| walk_at "g2") => `(tactic| first
  | (with_reducible show WE _ _ _; with_reducible first | refine we_var (by with_unfolding_all exact rfl) ?_ | (show WE (tOp _ _ _) _ _; first | refine we_notN ?_ | refine we_ixS (by with_unfolding_all exact rfl) ?_ | refine we_ixScr (by with_unfolding_all exact rfl) ?_ | refine we_inS (by with_unfolding_all exact rfl) ?_ | refine we_notInS (by with_unfolding_all exact rfl) ?_ | refine we_eqS (by with_unfolding_all exact rfl) ?_ | refine we_neS (by with_unfolding_all exact rfl) ?_ | refine we_opK ?_) | (show WE (tCB _ _) _ _; first | refine we_isInt ?_ | refine we_isBl ?_ | refine we_isLst ?_ | refine we_isTup ?_ | refine we_lenO (by with_unfolding_all exact rfl) ?_ | refine we_lenS' (by with_unfolding_all exact rfl) ?_ | refine we_lenScr (by with_unfolding_all exact rfl) ?_ | refine we_cbK ?_) | refine we_chain ?_ | refine we_slice ?_ | refine we_int ?_ | refine we_bl ?_ | refine we_non ?_ | refine we_str ?_ | refine we_neg ?_ | refine we_not ?_ | refine we_and ?_ | refine we_or ?_ | refine we_if ?_ | refine we_tup ?_ | refine we_lst ?_ | refine we_call ?_ | refine we_mt (by with_unfolding_all exact rfl) ?_)
  | (with_reducible show WS _ _ _ _; with_reducible first | refine ws_seqA ?_ | refine ws_seqD ?_ | refine ws_asg (by with_unfolding_all exact rfl) ?_ | refine ws_asgG ?_ | refine ws_if ?_ | refine ws_ret ?_ | refine ws_drop ?_ | refine ws_next ?_ | refine ws_retN ?_)
  | (with_reducible show WT _ _ _; with_reducible first | refine wt_test ?_ | refine wt_B ?_ | refine wt_not ?_ | refine wt_and ?_ | refine wt_or ?_ | refine wt_yes ?_)
  | (with_reducible show WA _ _ _; with_reducible first | refine wa_nil ?_ | refine wa_cons (wq_of (we_var (by with_unfolding_all exact rfl) ?_)) | refine wa_slotU (by with_unfolding_all exact rfl) ?_ | refine wa_cons ?_)
  | (with_reducible show OpK _ _ _ _ _; with_reducible first | refine ok_isB ?_ | refine ok_notB ?_ | refine ok_plusI ?_ | refine ok_sub ?_ | refine ok_lt ?_ | refine ok_le ?_ | refine ok_gt ?_ | refine ok_ge ?_ | refine ok_eqI ?_ | refine ok_neI ?_ | refine ok_mod (by first | assumption | decide | omega) ?_ | refine ok_ixL (by with_unfolding_all exact rfl) ?_)
  | (with_reducible show CbK _ _ _ _; with_reducible first | refine ck_lenL ?_ | refine ck_lenT ?_ | refine ck_int ?_ | refine ck_intB ?_ | refine ck_max ?_ | refine ck_min ?_ | refine ck_list ?_)
  | with_reducible refine wq_of ?_
  | (with_reducible show WG _ _ _ _ _; with_reducible first | refine wg_name (by with_unfolding_all exact rfl) ?_ | refine wg_tup (by with_unfolding_all exact rfl) ?_ | refine wg_set (by with_unfolding_all exact rfl) ?_)
  | (with_reducible show WGs _ _ _ _ _; with_reducible first | refine wgs_cons ?_ | refine wgs_nil ?_)
  | (with_reducible show WO _ _ _; with_reducible first | refine wo_some ?_ | refine wo_none ?_)
  | refine ⟨_, argD5, ?_⟩
  | refine ⟨_, argD6, ?_⟩
  | refine ⟨_, argD7, ?_⟩
  | refine ⟨_, argD9, ?_⟩
  | with_reducible refine iteT ?_
  | with_reducible refine iteF ?_
  | with_reducible refine ⟨_, frz_per, ?_⟩
  | with_reducible refine ⟨_, frz_own, ?_⟩
  | refine ⟨_, rfl, ?_⟩
  | refine ⟨_, argD1, ?_⟩
  | refine ⟨_, argD2, ?_⟩
  | refine ⟨_, argD0, ?_⟩
  | refine ⟨_, argD3, ?_⟩
  | refine ⟨_, argD4, ?_⟩
  | refine ⟨_, _, rfl, rfl, rfl, ?_⟩
  | refine ⟨_, _, _, rfl, rfl, rfl, ?_⟩
  | refine ⟨(by simp only [List.length_cons, List.length_nil]; decide), ?_⟩
  | refine ⟨rfl, nd1, ?_⟩
  | refine ⟨rfl, nd0, ?_⟩)
local macro_rules | `(tactic| walk_at "g2") => `(tactic| first | with_reducible refine we_isInt ?_ | with_reducible refine we_isBl ?_ | with_reducible refine we_isLst ?_ | with_reducible refine we_isTup ?_ | with_reducible refine we_chain ?_ | with_reducible refine we_lenO (by with_unfolding_all exact rfl) ?_ | with_reducible refine we_lenSetW ?_ | with_reducible refine we_slice ?_ | with_reducible refine wo_some ?_ | with_reducible refine wo_none ?_ | walk_at "g1")
abbrev t_check_web_0 (K : PySem.W.Frag) (a : Ad) (E : XK) : TS :=
  (tSeq (tIfS (tNot (tB (tCB (rAllA K) (tCons (tLc (iList K (tVar 1)) (gName 2) tYes (tCall (sp_is_tie K) [] E0 (tCons (tVar 0) (tCons (tVar 2) tNil))) [2]) tNil)))) (tRaise E (.ref a.C_InvalidWeb)) tNext)
    (tIfS (tTest (tOp (rLtI) (GW.tLenSetW K (tVar 1)) (tCB (rLenA K) (tCons (tVar 1) tNil)))) (tRaise E (.ref a.C_InvalidWeb)) tNext))
abbrev t_check_web_1 (K : PySem.W.Frag) (a : Ad) (E : XK) : TS :=
  (tSeq (tIfS (tNot (tB (tCB (rIsiA K) (tCons (tVar 1) (tCons (tC (.ty "list")) tNil))))) (tRaise E (.ref a.C_InvalidWeb)) tNext)
    (t_check_web_0 K a E))
def t_check_web (K : PySem.W.Frag) (a : Ad) (E : XK) : TS :=
  (tSeq (tIfS (tNot (tB (tCall (sp_is_count K) [] E0 (tCons (tVar 0) tNil)))) (tRaise E (.ref a.C_InvalidWeb)) tNext)
    (t_check_web_1 K a E))
abbrev N_check_web : List Str := ["places", "ties", "tie"]
/-- right values for a web, ts its ties as they were passed -/
def WebOk (p d : PyData) : Prop := ∃ (n : Nat) (ts : List (Int × Int)), p = .int n ∧ d = .list (ts.map tieD) ∧ (∀ t ∈ ts, 0 ≤ t.1 ∧ t.1 < t.2 ∧ t.2 < n) ∧ ts.Nodup
theorem tie_of {n : Int} : ∀ {d : PyData}, tieB n d = true → ∃ t : Int × Int, d = tieD t ∧ 0 ≤ t.1 ∧ t.1 < t.2 ∧ t.2 < n := fun {d} h => by
  unfold tieB at h
  split at h
  · rename_i u v
    simp only [Bool.and_eq_true, decide_eq_true_eq] at h
    exact ⟨(u, v), rfl, h.1, h.2.2.1, h.2.2.2⟩
  · cases h
theorem tie_to {n : Int} {t : Int × Int} (h : 0 ≤ t.1 ∧ t.1 < t.2 ∧ t.2 < n) : tieB n (tieD t) = true := by
  show (decide (0 ≤ t.1) && (decide (0 ≤ t.2) && (decide (t.1 < t.2) && decide (t.2 < n)))) = true
  rw [decide_eq_true h.1, decide_eq_true (by omega : 0 ≤ t.2), decide_eq_true h.2.1, decide_eq_true h.2.2]
  rfl
theorem ties_of {n : Int} : ∀ {ds : List PyData}, ds.all (tieB n) = true → ∃ ts : List (Int × Int), ds = ts.map tieD ∧ ∀ t ∈ ts, 0 ≤ t.1 ∧ t.1 < t.2 ∧ t.2 < n
  | [], _ => ⟨[], rfl, by simp⟩
  | d :: ds, h => by
    rw [List.all_cons, Bool.and_eq_true] at h
    obtain ⟨t, e, ht⟩ := tie_of h.1
    obtain ⟨ts, es, hts⟩ := ties_of h.2
    exact ⟨t :: ts, by rw [e, es]; rfl, fun x hx => by
      rcases List.mem_cons.mp hx with e | hx
      · rw [e]; exact ht
      · exact hts x hx⟩
/-- right values for a web of at most 40 places -/
def WideD (p d : PyData) : Prop := ∃ (n : Nat) (ts : List (Int × Int)), p = .int n ∧ n ≤ 40 ∧ d = .list (ts.map tieD) ∧ (∀ t ∈ ts, 0 ≤ t.1 ∧ t.1 < t.2 ∧ t.2 < n) ∧ ts.Nodup
theorem tieD_inj {s t : Int × Int} (h : tieD s = tieD t) : s = t := by
  unfold tieD at h
  simp at h
  exact Prod.ext h.1 h.2
theorem ties_inj : ∀ {s t : List (Int × Int)}, s.map tieD = t.map tieD → s = t
  | [], [], _ => rfl
  | [], _ :: _, h => by simp at h
  | _ :: _, [], h => by simp at h
  | a :: s, b :: t, h => by
    simp only [List.map_cons, List.cons.injEq] at h
    rw [tieD_inj h.1, ties_inj h.2]
def F_check_web (a : Ad) : Fw := fun gs kk xx => ∃ p d, gs = [dat p, dat d] ∧ (∀ ds, d = .list ds → ds.length < 64 ∨ WideD p d) ∧ (WebOk p d → kk (dat .none) [none, none]) ∧ (¬ WebOk p d → xx (.ref a.C_InvalidWeb) [none, none])
abbrev sp_check_web (K : PySem.W.Frag) (a : Ad) : Sp := SpG 2 (F_check_web a)
theorem pure_check_web {K : PySem.W.Frag} {a : Ad} (c : Clf K a) {vs : List V} {H : Hp} {Q : VK} {E : XK} (h : sp_check_web K a vs H Q E) : t_check_web K a E { nx := fun _ H' => Q .non H', rt := Q } (start N_check_web vs) H := by
  refine body_okX (fun _ => false) ?_ h
  rintro gs kk xx ⟨p, d, rfl, hs, hk, hr⟩ -
  unfold t_check_web
  have bad : ∀ {Γ : Ga}, Γ.length = 3 → ¬ WebOk p d → ∃ Γp, Les (mask (fun _ => false) 2 Γ) Γp ∧ xx (.ref a.C_InvalidWeb) Γp := fun _ e => ⟨[none, none], les_none (les_none les_nil), hr e⟩
  refine wsx_seq (wsx_if ?_)
  repeat walk_at "g2"
  cases hp : cntD p with
  | false => exact iteT (wsx_raise (bad rfl fun ⟨n, ts, e, _⟩ => by
      rw [e] at hp
      simp [cntD] at hp))
  | true =>
    obtain ⟨n, rfl⟩ : ∃ n : Nat, p = .int n := by
      cases p <;> first | exact Bool.noConfusion hp | skip
      rename_i i
      exact ⟨i.toNat, by rw [Int.toNat_of_nonneg (of_decide_eq_true hp)]⟩
    refine iteF (wsx_of (ws_next (wsx_seq (wsx_if ?_))))
    repeat walk_at "g2"
    cases ht : isLst d with
    | false => exact iteT (wsx_raise (bad rfl fun ⟨n, ts, _, e, _⟩ => by
        rw [e] at ht
        exact Bool.noConfusion ht))
    | true =>
      obtain ⟨ds, rfl⟩ : ∃ ds, d = .list ds := by
        cases d <;> first | exact ⟨_, rfl⟩ | exact Bool.noConfusion ht
      have hl := hs ds rfl
      have hl0 : ds.length < 1000 := by
        rcases hl with h | ⟨n0, ts0, e1, h40, e2, hv, hnd⟩
        · omega
        · obtain rfl : ds = ts0.map tieD := PyData.list.inj e2
          have := GW.narrow_len (fun t ht => by have := hv t ht; omega) hnd
          rw [List.length_map]
          omega
      refine iteF (wsx_of (ws_next (wsx_seq (wsx_if ?_))))
      repeat walk_at "g2"
      refine we_lc (fun i acc Γ => acc = (ds.take i).map (fun d => .bool (tieB n d)) ∧ Γ = [some (dat (.int n)), some (dat (.list ds)), none]) ?_
      refine wi_list ?_
      repeat walk_at "g2"
      refine ⟨⟨rfl, rfl⟩, ?_, ?_⟩
      · rintro acc Γ2 ⟨rfl, rfl⟩
        repeat walk_at "g2"
        rw [List.take_length]
        refine ck_allM ?_
        repeat walk_at "g2"
        cases hb : ds.all (tieB n) with
        | false => exact iteT (wsx_raise (bad rfl fun ⟨m, ts, em, e, hts, _⟩ => by
            cases e
            cases em
            have : (ts.map tieD).all (tieB n) = true := by
              rw [List.all_eq_true]
              intro x hx
              obtain ⟨t, ht, rfl⟩ := List.mem_map.mp hx
              exact tie_to (hts t ht)
            rw [this] at hb
            cases hb))
        | true =>
          obtain ⟨ts, rfl, hts⟩ := ties_of hb
          rw [List.length_map] at hl
          have hl : ts.length < 64 ∨ (GW.Narrow ts ∧ ts.Nodup) := hl.imp id fun ⟨n0, ts0, e1, h40, e2, hv, hnd⟩ => by
            obtain rfl : ts = ts0 := ties_inj (PyData.list.inj e2)
            exact ⟨fun t ht => by have := hv t ht; omega, hnd⟩
          refine iteF (wsx_of (ws_next (wsx_if ?_)))
          repeat walk_at "g2"
          refine ⟨hl, fun m hm hn => ?_⟩
          repeat walk_at "g2"
          rw [List.length_map]
          refine ite_dec (fun e => wsx_raise (bad rfl fun ⟨_, ts', _, e2, _, nd⟩ => ?_)) fun e => wsx_of (ws_next ⟨[none, none], les_none (les_none les_nil), hk ⟨n, ts, rfl, rfl, hts, hn.mp (by omega)⟩⟩)
          injection e2 with e2
          have e3 := ties_inj e2
          subst e3
          have := hn.mpr nd
          omega
      · rintro i acc Γ2 hi ⟨rfl, rfl⟩ -
        obtain ⟨x, hx⟩ := getD_of hi
        dsimp only
        rw [getD_at hx]
        refine wg_name rfl ?_
        refine wt_yes ?_
        refine iteT ?_
        repeat walk_at "g2"
        exact ⟨n, x, rfl, _, frz_per, _, rfl, by rw [List.length_map, List.length_take]; omega, (take_map hx).symm, rfl⟩
abbrev t_Web_init__0 (K : PySem.W.Frag) (a : Ad) (E : XK) : TS :=
  (tSeq (sFld K (tVar 0) (tCB (rSortA K) (tCons (tLc (iList K (tVar 2)) (gTup K 2 (gCons (gName 3) (gCons (gName 4) gNil))) tYes (tTup (tCons (tVar 3) (tCons (tVar 4) tNil))) [3, 4]) tNil)) "_ties")
    (sFld K (tVar 0) (tCall (sp_neighbour_lists K) [] E0 (tCons (tVar 1) (tCons (tFld K (tVar 0) "_ties") tNil))) "_near"))
def t_Web_init_ (K : PySem.W.Frag) (a : Ad) (E : XK) : TS :=
  (tSeq (tDrop (tCall (sp_check_web K a) [] E (tCons (tVar 1) (tCons (tVar 2) tNil))))
    (t_Web_init__0 K a E))
abbrev N_Web_init_ : List Str := ["self", "places", "ties", "u", "v"]
/-- the attributes of a web -/
def webF (n : Nat) (ts : List (Int × Int)) : List (Str × PyData) := [("_ties", .list (ts.map tieD)), ("_near", .list ((nearL n ts).map .list))]
theorem webF_put {n : Nat} {ts : List (Int × Int)} : putD "_near" (.list ((nearL n ts).map .list)) (putD "_ties" (.list (ts.map tieD)) []) = webF n ts := by
  show (if ("_ties" : Str) = "_near" then _ else _) = _
  rw [if_neg (by decide +kernel)]
  rfl
theorem webF_near {n : Nat} {ts : List (Int × Int)} : lookD "_near" (webF n ts) = some (.list ((nearL n ts).map .list)) := by
  show (if ("_ties" : Str) = "_near" then _ else if ("_near" : Str) = "_near" then _ else _) = _
  rw [if_neg (by decide +kernel), if_pos rfl]
theorem webF_ties {n : Nat} {ts : List (Int × Int)} : lookD "_ties" (webF n ts) = some (.list (ts.map tieD)) := by
  show (if ("_ties" : Str) = "_ties" then _ else _) = _
  rw [if_pos rfl]
def F_Web_init1 (a : Ad) : Fw := fun gs kk xx => ∃ p d, gs = [insG a.C_Web [], dat p, dat d] ∧ (∀ i, p = .int i → i < 100000) ∧ (∀ ds, d = .list ds → ds.length < 64 ∨ WideD p d) ∧
  (∀ (n : Nat) (ts ts' : List (Int × Int)), p = .int n → d = .list (ts.map tieD) → (∀ t ∈ ts, 0 ≤ t.1 ∧ t.1 < t.2 ∧ t.2 < n) → ts.Nodup → ts'.Perm ts → ts'.Pairwise LexLe → kk (dat .none) [some (insG a.C_Web (webF n ts')), none, none]) ∧
  (¬ WebOk p d → xx (.ref a.C_InvalidWeb) [none, none, none])
/-- .. the ties an own list, which stays one's own -/
def F_Web_init2 (a : Ad) : Fw := fun gs kk xx => ∃ (n : Nat) (ts : List (Int × Int)), gs = [insG a.C_Web [], dat (.int n), own (ts.map tieD)] ∧ n ≤ 40 ∧ (∀ t ∈ ts, 0 ≤ t.1 ∧ t.1 < t.2 ∧ t.2 < n) ∧ ts.Nodup ∧
  ∀ ts', ts'.Perm ts → ts'.Pairwise LexLe → kk (dat .none) [some (insG a.C_Web (webF n ts')), none, some (own (ts.map tieD))]
def F_Web_init_ (a : Ad) : Fw := fun gs kk xx => F_Web_init1 a gs kk xx ∨ F_Web_init2 a gs kk xx
abbrev sp_Web_init_ (K : PySem.W.Frag) (a : Ad) : Sp := SpG 3 (F_Web_init_ a)
theorem pure_Web_init_ {K : PySem.W.Frag} {a : Ad} (c : Clf K a) {vs : List V} {H : Hp} {Q : VK} {E : XK} (h : sp_Web_init_ K a vs H Q E) : t_Web_init_ K a E { nx := fun _ H' => Q .non H', rt := Q } (start N_Web_init_ vs) H := by
  refine body_okX (fun i => i == 0 || i == 2) ?_ h
  rintro gs kk xx (⟨p, d, rfl, hp, hd, hk, hr⟩ | ⟨n, ts, rfl, hn, hv, hnd, hk⟩) -
  rotate_left
  · unfold t_Web_init_
    have st : Still [some (insG a.C_Web []), some (dat (.int n)), some (own (ts.map tieD)), none, none] [none, some (dat (.int n)), some (dat (.list (ts.map tieD))), none, none] := (StillL.non (.per (.frz frz_own (.non (.non .nil))))).still
    have hl := GW.narrow_len (fun t ht => by have := hv t ht; omega) hnd
    refine wsx_of (ws_seq (ws_drop (we_still st (we_call ?_))))
    repeat walk_at "g2"
    refine ⟨_, _, rfl, fun ds e => .inr ⟨n, ts, rfl, hn, rfl, hv, hnd⟩, fun _ => ?_, fun h => (h ⟨n, ts, rfl, rfl, hv, hnd⟩).elim⟩
    refine ⟨_, rfl, rfl, ?_⟩
    show WS _ (t_Web_init__0 K a E) [some (insG a.C_Web []), some (dat (.int n)), some (own (ts.map tieD)), none, none] _
    have le : Lent1 2 (ts.map tieD) [some (insG a.C_Web []), some (dat (.int n)), some (own (ts.map tieD)), none, none] [none, some (dat (.int n)), some (dat (.list (ts.map tieD))), none, none] := ⟨rfl, rfl, fun j g0 h => by
      match j, h with
      | 0, h => cases h
      | 1, h => cases h; exact .inr ⟨_, rfl, rfl⟩
      | 2, h => cases h; exact .inl ⟨rfl, rfl⟩
      | 3, h => cases h
      | 4, h => cases h
      | j + 5, h => simp at h⟩
    refine ws_seq (ws_fld c.cl_Web c.nT (wq_of (we_lendT le ?_)))
    walk_at "g2"
    walk_at "g2"
    refine wq_of ?_
    refine we_lc (fun i acc Γ => acc = (ts.take i).map tieD ∧ Γ = [none, some (dat (.int n)), some (dat (.list (ts.map tieD))), none, none]) ?_
    refine wi_list (wq_of (we_var rfl ⟨_, frz_per, _, rfl, ⟨rfl, rfl⟩, ?_, ?_⟩))
    · rintro acc Γ2 ⟨rfl, rfl⟩
      refine ⟨_, frz_own, ?_⟩
      refine wa_nil ?_
      refine ⟨_, argD1, ?_⟩
      rw [List.length_map, List.take_length]
      refine ck_sortP fun ts' hp hs => ?_
      refine ⟨ts', rfl, ?_⟩
      refine ⟨_, frz_own, ?_⟩
      refine ⟨_, _, rfl, rfl, (by decide), ?_⟩
      refine ws_fld c.cl_Web c.nN (wq_of (we_call ?_))
      refine wa_cons (wq_of (we_var rfl ⟨_, frz_per, ?_⟩))
      refine wa_cons (wq_of (we_fldI c.cl_Web c.nT rfl rfl ⟨_, frz_per, ?_⟩))
      refine wa_nil ⟨rfl, nd0, n, ts', rfl, by omega, ?_, fun t ht => hv t (hp.mem_iff.mp ht), ?_⟩
      · rw [hp.length_eq]; omega
      refine ⟨_, frz_own2, _, _, rfl, rfl, (by show (1 : Nat) < 1000; decide), ?_⟩
      refine ⟨_, les_some Ent.refl (les_none (les_some Ent.refl les_nil)), ?_⟩
      rw [webF_put]
      exact hk ts' hp hs
    · rintro i acc Γ2 hi ⟨rfl, rfl⟩ -
      rw [List.length_map] at hi
      obtain ⟨t, ht⟩ := getD_of hi
      have e : (ts.map tieD).getD i .none = tieD t := getD_at (by rw [List.getElem?_map, ht]; rfl)
      dsimp only
      rw [e]
      show WG _ _ (dP (.tuple [.int t.1, .int t.2])) _ _
      walk_at "g2"
      walk_at "g2"
      refine wg_name rfl ?_
      refine wgs_cons ?_
      refine wg_name rfl ?_
      refine wgs_nil ?_
      refine wt_yes (iteT ?_)
      refine wq_of (we_tup (wa_cons (wq_of (we_var rfl ⟨_, frz_per, wa_cons (wq_of (we_var rfl ⟨_, frz_per, wa_nil ?_⟩))⟩))))
      refine ⟨_, argD2, by show (2 : Nat) ≤ 100000; decide, _, frz_per, _, rfl, by rw [List.length_map, List.length_take]; omega, (take_map ht).symm, rfl⟩
  unfold t_Web_init_
  refine wsx_seq (wsx_call ?_)
  repeat walk_at "g2"
  refine ⟨p, d, rfl, hd, fun ⟨n, ts, e1, e2, h1, h2⟩ => ?_, fun hn => ⟨[none, none, none], les_none (les_none (les_none les_nil)), hr hn⟩⟩
  subst e1 e2
  have hl : ts.length < 1000 := by
    rcases hd _ rfl with h | ⟨n0, ts0, e1, h40, e2, hv, hnd⟩
    · rw [List.length_map] at h; omega
    · obtain rfl : ts = ts0 := ties_inj (PyData.list.inj e2)
      have := GW.narrow_len (fun t ht => by have := hv t ht; omega) hnd
      omega
  have hn := hp _ rfl
  refine wsx_of ?_
  refine ws_seq (ws_fld c.cl_Web c.nT ?_)
  walk_at "g2"
  walk_at "g2"
  walk_at "g2"
  refine wq_of ?_
  refine we_lc (fun i acc Γ => acc = (ts.take i).map tieD ∧ Γ = [some (insG a.C_Web []), some (dat (.int n)), some (dat (.list (ts.map tieD))), none, none]) ?_
  refine wi_list (wq_of (we_var rfl ⟨_, frz_per, _, rfl, ⟨rfl, rfl⟩, ?_, ?_⟩))
  · rintro acc Γ2 ⟨rfl, rfl⟩
    refine ⟨_, frz_own, ?_⟩
    refine wa_nil ?_
    refine ⟨_, argD1, ?_⟩
    rw [List.length_map, List.take_length]
    refine ck_sortP fun ts' hp hs => ?_
    refine ⟨_, frz_own, ?_⟩
    refine ⟨_, _, rfl, rfl, (by decide), ?_⟩
    refine ws_fld c.cl_Web c.nN (wq_of (we_call ?_))
    refine wa_cons (wq_of (we_var rfl ⟨_, frz_per, ?_⟩))
    refine wa_cons (wq_of (we_fldI c.cl_Web c.nT rfl rfl ⟨_, frz_per, ?_⟩))
    refine wa_nil ⟨rfl, nd0, n, ts', rfl, by omega, ?_, fun t ht => h1 t (hp.mem_iff.mp ht), ?_⟩
    · rw [hp.length_eq]; omega
    refine ⟨_, frz_own2, _, _, rfl, rfl, (by show (1 : Nat) < 1000; decide), ?_⟩
    refine ⟨_, les_some Ent.refl (les_none (les_none les_nil)), ?_⟩
    rw [webF_put]
    exact hk n ts ts' rfl rfl h1 h2 hp hs
  · rintro i acc Γ2 hi ⟨rfl, rfl⟩ -
    rw [List.length_map] at hi
    obtain ⟨t, ht⟩ := getD_of hi
    have e : (ts.map tieD).getD i .none = tieD t := getD_at (by rw [List.getElem?_map, ht]; rfl)
    dsimp only
    rw [e]
    show WG _ _ (dP (.tuple [.int t.1, .int t.2])) _ _
    walk_at "g2"
    walk_at "g2"
    refine wg_name rfl ?_
    refine wgs_cons ?_
    refine wg_name rfl ?_
    refine wgs_nil ?_
    refine wt_yes (iteT ?_)
    refine wq_of (we_tup (wa_cons (wq_of (we_var rfl ⟨_, frz_per, wa_cons (wq_of (we_var rfl ⟨_, frz_per, wa_nil ?_⟩))⟩))))
    refine ⟨_, argD2, by show (2 : Nat) ≤ 100000; decide, _, frz_per, _, rfl, by rw [List.length_map, List.length_take]; omega, (take_map ht).symm, rfl⟩
end G

namespace G
open PySem L2
/-! ### what is tied to a place, by the ties alone -/
/-- the other end at w -/
def oth (w : Int) (t : Int × Int) : Option Int := if t.1 = w then some t.2 else if t.2 = w then some t.1 else none
def nb (ts : List (Int × Int)) (w : Int) : List Int := ts.filterMap (oth w)
def nearC (n : Nat) (ts : List (Int × Int)) : List (List Int) := (List.range n).map fun (w : Nat) => nb ts w
def Valid (n : Nat) (ts : List (Int × Int)) : Prop := ∀ t ∈ ts, 0 ≤ t.1 ∧ t.1 < t.2 ∧ t.2 < n
theorem nearC_at {n : Nat} {ts : List (Int × Int)} {w : Nat} (h : w < n) : (nearC n ts)[w]? = some (nb ts w) := by
  unfold nearC
  rw [List.getElem?_map, List.getElem?_range h]
  rfl
theorem nb_snoc {ts : List (Int × Int)} {t : Int × Int} {w : Int} : nb (ts ++ [t]) w = nb ts w ++ (oth w t).toList := by
  unfold nb
  rw [List.filterMap_append]
  cases h : oth w t with
  | none => simp [h]
  | some x => simp [h]
theorem mem_nb {n : Nat} {ts : List (Int × Int)} (hv : Valid n ts) {u v : Int} : v ∈ nb ts u ↔ (u, v) ∈ ts ∨ (v, u) ∈ ts := by
  unfold nb
  rw [List.mem_filterMap]
  constructor
  · rintro ⟨⟨a, b⟩, ht, e⟩
    unfold oth at e
    dsimp only at e
    split at e
    next h => cases e; subst h; exact .inl ht
    next h =>
      split at e
      next h2 => cases e; subst h2; exact .inr ht
      next => cases e
  · rintro (h | h)
    · exact ⟨_, h, by unfold oth; simp⟩
    · refine ⟨_, h, ?_⟩
      have := hv _ h
      unfold oth
      dsimp only at this ⊢
      rw [if_neg (by omega), if_pos rfl]
/-- put at the end of the m-th one: by places -/
theorem range_map_set {α : Type} {f : Nat → α} {n m : Nat} {x : α} (h : m < n) : ((List.range n).map f).set m x = (List.range n).map fun i => if i = m then x else f i := by
  apply List.ext_getElem?
  intro i
  rw [List.getElem?_set, List.getElem?_map, List.getElem?_map, List.length_map, List.length_range]
  by_cases hi : i < n
  · rw [List.getElem?_range hi]
    by_cases e : m = i
    · subst e
      rw [if_pos rfl, if_pos h]
      simp
    · rw [if_neg e]
      have e' : ¬ i = m := fun z => e z.symm
      simp [e']
  · have z : (List.range n)[i]? = none := List.getElem?_eq_none (by simp; omega)
    have e : ¬ m = i := by omega
    rw [z, if_neg e]
    rfl
def rowsD (ls : List (List Int)) : List (List PyData) := ls.map fun l => l.map PyData.int
theorem nearL_eq {n : Nat} : ∀ (ts : List (Int × Int)), Valid n ts → nearL n ts = rowsD (nearC n ts) := fun ts => by
  have key : ∀ (us : List (Int × Int)) (ts : List (Int × Int)), Valid n us → us.foldl nearStep (rowsD (nearC n ts)) = rowsD (nearC n (ts ++ us)) := fun us => by
    induction us with
    | nil => intro ts _; rw [List.append_nil]; rfl
    | cons t us ih =>
      intro ts hv
      have ht := hv t (by simp)
      rw [List.foldl_cons]
      have e : nearStep (rowsD (nearC n ts)) t = rowsD (nearC n (ts ++ [t])) := by
        have h1 : t.1.toNat < n := by omega
        have h2 : t.2.toNat < n := by omega
        have z1 : ((t.1.toNat : Nat) : Int) = t.1 := by omega
        have z2 : ((t.2.toNat : Nat) : Int) = t.2 := by omega
        have g : ∀ {f : Nat → List PyData} {m : Nat} {y : PyData}, m < n → putAt ((List.range n).map f) m y = (List.range n).map fun i => if i = m then f m ++ [y] else f i := fun {f m y} hm => by
          unfold putAt
          rw [List.getD_eq_getElem?_getD, List.getElem?_map, List.getElem?_range hm]
          exact range_map_set hm
        have r0 : ∀ us, rowsD (nearC n us) = (List.range n).map fun (w : Nat) => (nb us w).map PyData.int := fun us => by
          unfold rowsD nearC
          rw [List.map_map]
          rfl
        unfold nearStep
        rw [r0, r0, g h1, g h2]
        apply List.map_congr_left
        intro w hw
        rw [nb_snoc]
        have hne : ¬ t.2.toNat = t.1.toNat := by omega
        unfold oth
        by_cases a : w = t.2.toNat
        · subst a
          rw [if_pos rfl, if_neg hne, z2, if_neg (by omega), if_pos rfl]
          simp
        · rw [if_neg a]
          by_cases b : w = t.1.toNat
          · subst b
            rw [if_pos rfl, z1, if_pos rfl]
            simp
          · rw [if_neg b, if_neg (by omega), if_neg (by omega)]
            simp
      rw [e, ih (ts ++ [t]) fun x hx => hv x (by simp [hx])]
      rw [List.append_assoc]
      rfl
  intro hv
  have h0 : List.replicate n ([] : List PyData) = rowsD (nearC n []) := by
    unfold rowsD nearC nb
    rw [List.map_map]
    apply List.ext_getElem?
    intro i
    rw [List.getElem?_replicate, List.getElem?_map]
    by_cases hi : i < n
    · rw [List.getElem?_range hi, if_pos hi]; rfl
    · rw [if_neg hi, List.getElem?_eq_none (by simp; omega)]; rfl
  unfold nearL
  rw [h0, key ts [] hv]
  rfl
end G

namespace G
noncomputable def dcP (p : Prop) : Bool := @decide p (Classical.propDecidable p)
theorem dcP_iff {p : Prop} : dcP p = true ↔ p := ⟨@of_decide_eq_true p (Classical.propDecidable p), @decide_eq_true p (Classical.propDecidable p)⟩
theorem dcP_f {p : Prop} (h : ¬ p) : dcP p = false := @decide_eq_false p (Classical.propDecidable p) h
inductive Reach (E : Int → Int → Prop) : Int → Int → Prop
  | refl (u : Int) : Reach E u u
  | step {u v x : Int} : Reach E u v → E v x → Reach E u x
section
variable {E : Int → Int → Prop} {n : Nat}
theorem Reach.trans {u v : Int} (h : Reach E u v) {x : Int} (k : Reach E v x) : Reach E u x := by
  induction k with
  | refl => exact h
  | step _ e ih => exact .step ih e
theorem Reach.sym (s : ∀ u v, E u v → E v u) {u v : Int} (h : Reach E u v) : Reach E v u := by
  induction h with
  | refl => exact .refl _
  | step _ e ih => exact Reach.trans (.step (.refl _) (s _ _ e)) ih
theorem Reach.rng (r : ∀ u v, E u v → 0 ≤ v ∧ v < n) {u v : Int} (h : Reach E u v) (h0 : 0 ≤ u ∧ u < n) : 0 ≤ v ∧ v < n := by
  induction h with
  | refl => exact h0
  | step _ e ih => exact r _ _ e
def IsHead (E : Int → Int → Prop) (x : Int) : Prop := ∀ y, Reach E x y → x ≤ y
theorem head_ex (s : ∀ u v, E u v → E v u) (r : ∀ u v, E u v → 0 ≤ v ∧ v < n) : ∀ (k : Nat) (x : Int), 0 ≤ x → x < n → x.toNat < k → ∃ h, Reach E x h ∧ IsHead E h := by
  intro k
  induction k with
  | zero => intro x _ _ h; omega
  | succ k ih =>
    intro x x0 x1 hx
    by_cases c : IsHead E x
    · exact ⟨x, .refl _, c⟩
    · have : ∃ y, Reach E x y ∧ y < x := Classical.byContradiction fun hn => c fun y hy => Classical.byContradiction fun hlt => hn ⟨y, hy, by omega⟩
      obtain ⟨y, hy, hlt⟩ := this
      have yr := Reach.rng r hy ⟨x0, x1⟩
      obtain ⟨h, h1, h2⟩ := ih y yr.1 yr.2 (by omega)
      exact ⟨h, hy.trans h1, h2⟩
noncomputable def partC (E : Int → Int → Prop) (n : Nat) (h : Int) : List Int := ((List.range n).map fun i : Nat => (i : Int)).filter fun x => dcP (Reach E h x)
noncomputable def headsC (E : Int → Int → Prop) (n : Nat) : List Int := ((List.range n).map fun i : Nat => (i : Int)).filter fun x => dcP (IsHead E x)
noncomputable def partsC (E : Int → Int → Prop) (n : Nat) : List (List Int) := (headsC E n).map (partC E n)
theorem rangeI_lt (n : Nat) : ((List.range n).map fun i : Nat => (i : Int)).Pairwise (· < ·) := by
  rw [List.pairwise_map]
  exact List.pairwise_lt_range.imp fun h => by omega
theorem mem_rangeI {n : Nat} {x : Int} : x ∈ (List.range n).map (fun i : Nat => (i : Int)) ↔ 0 ≤ x ∧ x < n := by
  rw [List.mem_map]
  refine ⟨?_, fun h => ⟨x.toNat, List.mem_range.mpr (by omega), by omega⟩⟩
  rintro ⟨i, hi, rfl⟩
  have := List.mem_range.mp hi
  omega
theorem partC_lt {h : Int} : (partC E n h).Pairwise (· < ·) := (rangeI_lt n).filter _
theorem mem_partC {h x : Int} : x ∈ partC E n h ↔ (0 ≤ x ∧ x < n) ∧ Reach E h x := by
  unfold partC
  rw [List.mem_filter, mem_rangeI, dcP_iff]
theorem mem_headsC {x : Int} : x ∈ headsC E n ↔ (0 ≤ x ∧ x < n) ∧ IsHead E x := by
  unfold headsC
  rw [List.mem_filter, mem_rangeI, dcP_iff]
theorem partC_len {h : Int} : (partC E n h).length ≤ n := by
  have := List.length_filter_le (fun x : Int => dcP (Reach E h x) ) ((List.range n).map fun i : Nat => (i : Int))
  rw [List.length_map, List.length_range] at this
  exact this
theorem headsC_len : (headsC E n).length ≤ n := by
  have := List.length_filter_le (fun x : Int => dcP (IsHead E x) ) ((List.range n).map fun i : Nat => (i : Int))
  rw [List.length_map, List.length_range] at this
  exact this
theorem partsC_len : (partsC E n).length ≤ n := by unfold partsC; rw [List.length_map]; exact headsC_len
end
theorem lt_uniq : ∀ {a b : List Int}, a.Pairwise (· < ·) → b.Pairwise (· < ·) → (∀ x, x ∈ a ↔ x ∈ b) → a = b
  | [], [], _, _, _ => rfl
  | [], y :: b, _, _, h => absurd ((h y).mpr List.mem_cons_self) (by simp)
  | x :: a, [], _, _, h => absurd ((h x).mp List.mem_cons_self) (by simp)
  | x :: a, y :: b, ha, hb, h => by
    obtain ⟨a1, a2⟩ := List.pairwise_cons.mp ha
    obtain ⟨b1, b2⟩ := List.pairwise_cons.mp hb
    have e : x = y := by
      rcases List.mem_cons.mp ((h x).mp List.mem_cons_self) with e | e
      · exact e
      · rcases List.mem_cons.mp ((h y).mpr List.mem_cons_self) with e' | e'
        · exact e'.symm
        · have := b1 _ e; have := a1 _ e'; omega
    subst e
    rw [lt_uniq a2 b2 fun z => ⟨fun hz => by
      rcases List.mem_cons.mp ((h z).mp (List.mem_cons_of_mem _ hz)) with e | e
      · have := a1 _ hz; omega
      · exact e, fun hz => by
      rcases List.mem_cons.mp ((h z).mpr (List.mem_cons_of_mem _ hz)) with e | e
      · have := b1 _ hz; omega
      · exact e⟩]
theorem range_pre {n i : Nat} {pre post : List Nat} (h : List.range n = pre ++ i :: post) : pre = List.range pre.length := by
  have e := congrArg (List.take pre.length) h
  rw [List.take_left, List.take_range] at e
  have hl := congrArg List.length h
  rw [List.length_range, List.length_append, List.length_cons] at hl
  rw [Nat.min_eq_left (by omega)] at e
  exact e.symm
end G

/-! ### sorted of a list of lists of ints -/
namespace GSM
open PySem PySem.Spec PyProof.Rows L2
end GSM
namespace G
open PySem PySem.Spec PyProof.Rows L2 GSM
def keyN (H : Hp) : V → List Int
  | .ref a => match H a with | some (.lst vs) => vs.map (fun v => match v with | .int i => i | _ => 0) | _ => []
  | _ => []
end G

namespace G
open GSM
/-! ### places numbered anew -/
structure Ord (n : Nat) (os : List Int) (π σ : Int → Int) : Prop where
  len : os.length = n
  at_ : ∀ x : Int, 0 ≤ x → x < n → os[x.toNat]? = some (π x)
  rng : ∀ x : Int, 0 ≤ x → x < n → 0 ≤ π x ∧ π x < n
  back : ∀ x : Int, 0 ≤ x → x < n → 0 ≤ σ x ∧ σ x < n
  sp : ∀ x : Int, 0 ≤ x → x < n → σ (π x) = x
  ps : ∀ x : Int, 0 ≤ x → x < n → π (σ x) = x
theorem ord_of {n : Nat} {os : List Int} (h : os.Perm ((List.range n).map fun i : Nat => (i : Int))) : Ord n os (fun x => os.getD x.toNat 0) (fun x => (os.idxOf x : Int)) ∧ os.Nodup ∧ ∀ x ∈ os, 0 ≤ x ∧ x < n := by
  have nd : os.Nodup := h.nodup_iff.mpr ((rangeI_lt n).imp fun {a b} h e => by omega)
  have hm : ∀ x, x ∈ os ↔ 0 ≤ x ∧ x < n := fun x => h.mem_iff.trans mem_rangeI
  have hl : os.length = n := by rw [h.length_eq, List.length_map, List.length_range]
  have ga : ∀ x : Int, 0 ≤ x → x < n → ∃ y, os[x.toNat]? = some y ∧ os.getD x.toNat 0 = y := fun x x0 x1 => by
    have hlt : x.toNat < os.length := by omega
    exact ⟨os[x.toNat], List.getElem?_eq_getElem hlt, by rw [List.getD_eq_getElem?_getD, List.getElem?_eq_getElem hlt]; rfl⟩
  have gi : ∀ x : Int, 0 ≤ x → x < n → os[os.idxOf x]? = some x ∧ os.idxOf x < os.length := fun x x0 x1 => by
    have hlt := List.idxOf_lt_length_of_mem ((hm x).mpr ⟨x0, x1⟩)
    refine ⟨?_, hlt⟩
    rw [List.getElem?_eq_getElem hlt, List.getElem_idxOf hlt]
  refine ⟨⟨hl, fun x x0 x1 => ?_, fun x x0 x1 => ?_, fun x x0 x1 => ?_, fun x x0 x1 => ?_, fun x x0 x1 => ?_⟩, nd, fun x hx => (hm x).mp hx⟩
  · obtain ⟨y, h1, h2⟩ := ga x x0 x1
    rw [h1, h2]
  · obtain ⟨y, h1, h2⟩ := ga x x0 x1
    show 0 ≤ os.getD x.toNat 0 ∧ os.getD x.toNat 0 < n
    rw [h2]
    exact (hm y).mp (List.mem_of_getElem? h1)
  · have := (gi x x0 x1).2
    omega
  · obtain ⟨y, h1, h2⟩ := ga x x0 x1
    show (os.idxOf (os.getD x.toNat 0) : Int) = x
    rw [h2]
    have hy := (hm y).mp (List.mem_of_getElem? h1)
    obtain ⟨g1, g2⟩ := gi y hy.1 hy.2
    have := (List.getElem?_inj (i := os.idxOf y) (j := x.toNat) g2 nd).mp (g1.trans h1.symm)
    omega
  · obtain ⟨g1, g2⟩ := gi x x0 x1
    show os.getD ((os.idxOf x : Int)).toNat 0 = x
    rw [Int.toNat_natCast, List.getD_eq_getElem?_getD, g1]
    rfl
theorem Ord.turn {n : Nat} {os : List Int} {π σ : Int → Int} (O : Ord n os π σ) (bs : List Int) (hb : bs = (List.range n).map fun i : Nat => σ (i : Int)) : Ord n bs σ π := by
  subst hb
  refine ⟨by rw [List.length_map, List.length_range], fun x x0 x1 => ?_, O.back, O.rng, O.ps, O.sp⟩
  rw [List.getElem?_map, List.getElem?_range (by omega)]
  simp [Int.toNat_of_nonneg x0]
def mvT (π : Int → Int) (t : Int × Int) : Int × Int := (if π t.2 < π t.1 then π t.2 else π t.1, if π t.2 > π t.1 then π t.2 else π t.1)
section
variable {n : Nat} {os : List Int} {π σ : Int → Int} {ts ms : List (Int × Int)}
theorem Ord.inj (O : Ord n os π σ) {x y : Int} (x0 : 0 ≤ x) (x1 : x < n) (y0 : 0 ≤ y) (y1 : y < n) (e : π x = π y) : x = y := by
  rw [← O.sp x x0 x1, ← O.sp y y0 y1, e]
theorem Ord.ok (O : Ord n os π σ) {t : Int × Int} (h : 0 ≤ t.1 ∧ t.1 < t.2 ∧ t.2 < n) : 0 ≤ (mvT π t).1 ∧ (mvT π t).1 < (mvT π t).2 ∧ (mvT π t).2 < n := by
  have h1 := O.rng t.1 (by omega) (by omega)
  have h2 := O.rng t.2 (by omega) (by omega)
  have h3 : π t.1 ≠ π t.2 := fun e => by have := O.inj (by omega) (by omega) (by omega) (by omega) e; omega
  unfold mvT
  dsimp only
  split <;> split <;> omega
theorem Ord.cases (O : Ord n os π σ) {t : Int × Int} (h : 0 ≤ t.1 ∧ t.1 < t.2 ∧ t.2 < n) : mvT π t = (π t.1, π t.2) ∨ mvT π t = (π t.2, π t.1) := by
  have h3 : π t.1 ≠ π t.2 := fun e => by have := O.inj (by omega) (by omega) (by omega) (by omega) e; omega
  unfold mvT
  by_cases c : π t.2 < π t.1
  · rw [if_pos c, if_neg (by omega)]; exact .inr rfl
  · rw [if_neg c, if_pos (by omega)]; exact .inl rfl
theorem Ord.mv_mv (O : Ord n os π σ) {t : Int × Int} (h : 0 ≤ t.1 ∧ t.1 < t.2 ∧ t.2 < n) : mvT σ (mvT π t) = t := by
  have h1 := O.sp t.1 (by omega) (by omega)
  have h2 := O.sp t.2 (by omega) (by omega)
  have e : t = (t.1, t.2) := rfl
  rcases O.cases h with c | c <;> rw [c] <;> unfold mvT <;> dsimp only <;> rw [h1, h2]
  · rw [if_neg (by omega), if_pos (by omega)]
  · rw [if_pos (by omega), if_neg (by omega)]
theorem Ord.nd (O : Ord n os π σ) (hv : Valid n ts) (hnd : ts.Nodup) (hp : ms.Perm (ts.map (mvT π))) : ms.Nodup := by
  refine hp.nodup_iff.mpr ?_
  rw [List.Nodup, List.pairwise_map]
  refine hnd.imp_of_mem fun {a b} ha hb hne e => hne ?_
  rw [← O.mv_mv (hv a ha), ← O.mv_mv (hv b hb), e]
/-- sorted(..) of the images -/
theorem Ord.sorted (O : Ord n os π σ) {l l' zs : List Int} (hl : ∀ x ∈ l, 0 ≤ x ∧ x < n) (nd : l.Nodup) (hp : zs.Perm (l.map π)) (hs : zs.Pairwise (· ≤ ·)) (ha : l'.Pairwise (· < ·)) (hm : ∀ y, y ∈ l' ↔ ∃ x ∈ l, π x = y) : zs = l' := by
  have n2 : zs.Nodup := by
    refine hp.nodup_iff.mpr ?_
    rw [List.Nodup, List.pairwise_map]
    refine nd.imp_of_mem fun {a b} ha hb hne e => hne (O.inj (hl a ha).1 (hl a ha).2 (hl b hb).1 (hl b hb).2 e)
  refine lt_uniq ((hs.and n2).imp fun {a b} ⟨h1, h2⟩ => by omega) ha fun y => ?_
  rw [hp.mem_iff, List.mem_map, hm]
end
/-! ### and what hangs together -/
section
variable {n : Nat} {E E' : Int → Int → Prop} {os : List Int} {π σ : Int → Int}
theorem perm_uniq {α : Type} {R : α → α → Prop} (anti : ∀ a b, R a b → R b a → a = b) : ∀ {l l' : List α}, l.Pairwise R → l'.Pairwise R → l.Perm l' → l = l'
  | [], l', _, _, p => by rw [p.nil_eq]
  | a :: l, [], _, _, p => by cases p.eq_nil
  | a :: l, b :: l', h, h', p => by
    obtain ⟨h1, h2⟩ := List.pairwise_cons.mp h
    obtain ⟨h3, h4⟩ := List.pairwise_cons.mp h'
    have e : a = b := by
      rcases List.mem_cons.mp (p.mem_iff.mp List.mem_cons_self) with e | e
      · exact e
      · rcases List.mem_cons.mp (p.mem_iff.mpr List.mem_cons_self) with e' | e'
        · exact e'.symm
        · exact anti a b (h1 b e') (h3 a e)
    subst e
    rw [perm_uniq anti h2 h4 (p.cons_inv)]
theorem headsC_lt : (headsC E n).Pairwise (· < ·) := (rangeI_lt n).filter _
theorem partC_eq (s : ∀ u v, E u v → E v u) {a b : Int} (h : Reach E a b) : partC E n a = partC E n b :=
  lt_uniq partC_lt partC_lt fun x => by
    rw [mem_partC, mem_partC]
    exact ⟨fun ⟨h1, h2⟩ => ⟨h1, (h.sym s).trans h2⟩, fun ⟨h1, h2⟩ => ⟨h1, h.trans h2⟩⟩
theorem partC_inj (s : ∀ u v, E u v → E v u) {a b : Int} (ha : 0 ≤ a ∧ a < n) (h : partC E n a = partC E n b) : Reach E a b := by
  have : a ∈ partC E n b := by rw [← h]; exact mem_partC.mpr ⟨ha, .refl _⟩
  exact (mem_partC.mp this).2.sym s
theorem filter_one {α : Type} {p : α → Bool} {a : α} : ∀ {l : List α}, l.Nodup → a ∈ l → (∀ x ∈ l, p x = true ↔ x = a) → l.filter p = [a]
  | [], _, h, _ => by cases h
  | x :: l, nd, h, hp => by
    obtain ⟨n1, n2⟩ := List.nodup_cons.mp nd
    rw [List.filter_cons]
    by_cases e : x = a
    · subst e
      rw [if_pos ((hp x (by simp)).mpr rfl)]
      have : l.filter p = [] := List.filter_eq_nil_iff.mpr fun y hy hpy => n1 ((hp y (by simp [hy])).mp hpy ▸ hy)
      rw [this]
    · rw [if_neg fun z => e ((hp x (by simp)).mp z)]
      exact filter_one n2 ((List.mem_cons.mp h).resolve_left (Ne.symm e)) fun y hy => hp y (by simp [hy])
theorem parts_with (r : ∀ u v, E u v → 0 ≤ v ∧ v < n) (s : ∀ u v, E u v → E v u) {x : Int} (x0 : 0 ≤ x ∧ x < n) : (partsC E n).filter (fun ms => decide (x ∈ ms)) = [partC E n x] := by
  obtain ⟨h, h1, h2⟩ := head_ex s r (x.toNat + 1) x x0.1 x0.2 (by omega)
  have hh := Reach.rng r h1 x0
  have hmem : h ∈ headsC E n := mem_headsC.mpr ⟨hh, h2⟩
  rw [partC_eq s h1]
  have nd2 : (partsC E n).Nodup := by
    unfold partsC
    rw [List.Nodup, List.pairwise_map]
    refine headsC_lt.imp_of_mem fun {a b} ha hb hlt e => ?_
    have k := partC_inj s (mem_headsC.mp ha).1 e
    have := (mem_headsC.mp hb).2 _ (k.sym s)
    omega
  refine filter_one nd2 (List.mem_map.mpr ⟨h, hmem, rfl⟩) fun m hm => ?_
  obtain ⟨g, hg, rfl⟩ := List.mem_map.mp hm
  have hg := mem_headsC.mp hg
  rw [decide_eq_true_iff, mem_partC]
  constructor
  · rintro ⟨_, k⟩
    exact partC_eq s (k.trans h1)
  · intro e
    exact ⟨x0, (partC_inj s hg.1 e).trans (h1.sym s)⟩
end
end G

namespace G
open PySem L2
local macro_rules | `(tactic| walk_at "g1") => `(tactic| first
  | (with_reducible show WE _ _ _; with_reducible first | refine we_var (by with_unfolding_all exact rfl) ?_ | (show WE (tOp _ _ _) _ _; first | refine we_ixS (by with_unfolding_all exact rfl) ?_ | refine we_ixScr (by with_unfolding_all exact rfl) ?_ | refine we_inS (by with_unfolding_all exact rfl) ?_ | refine we_notInS (by with_unfolding_all exact rfl) ?_ | refine we_eqS (by with_unfolding_all exact rfl) ?_ | refine we_neS (by with_unfolding_all exact rfl) ?_ | refine we_opK ?_) | (show WE (tCB _ _) _ _; first | refine we_lenS' (by with_unfolding_all exact rfl) ?_ | refine we_lenScr (by with_unfolding_all exact rfl) ?_ | refine we_cbK ?_) | refine we_int ?_ | refine we_bl ?_ | refine we_non ?_ | refine we_str ?_ | refine we_neg ?_ | refine we_not ?_ | refine we_and ?_ | refine we_or ?_ | refine we_if ?_ | refine we_tup ?_ | refine we_lst ?_ | refine we_call ?_ | refine we_mt (by with_unfolding_all exact rfl) ?_)
  | (with_reducible show WS _ _ _ _; with_reducible first | refine ws_seqA ?_ | refine ws_seqD ?_ | refine ws_asg (by with_unfolding_all exact rfl) ?_ | refine ws_asgG ?_ | refine ws_if ?_ | refine ws_ret ?_ | refine ws_drop ?_ | refine ws_next ?_ | refine ws_retN ?_)
  | (with_reducible show WT _ _ _; with_reducible first | refine wt_test ?_ | refine wt_B ?_ | refine wt_not ?_ | refine wt_and ?_ | refine wt_or ?_ | refine wt_yes ?_)
  | (with_reducible show WA _ _ _; with_reducible first | refine wa_nil ?_ | refine wa_cons (wq_of (we_var (by with_unfolding_all exact rfl) ?_)) | refine wa_slotU (by with_unfolding_all exact rfl) ?_ | refine wa_cons ?_)
  | (with_reducible show OpK _ _ _ _ _; with_reducible first | refine ok_plusI ?_ | refine ok_sub ?_ | refine ok_lt ?_ | refine ok_le ?_ | refine ok_gt ?_ | refine ok_ge ?_ | refine ok_eqI ?_ | refine ok_neI ?_ | refine ok_mod (by first | assumption | decide | omega) ?_ | refine ok_ixL (by with_unfolding_all exact rfl) ?_)
  | (with_reducible show CbK _ _ _ _; with_reducible first | refine ck_lenL ?_ | refine ck_lenT ?_ | refine ck_int ?_ | refine ck_intB ?_ | refine ck_max ?_ | refine ck_min ?_ | refine ck_list ?_)
  | with_reducible refine wq_of ?_
  | (with_reducible show WG _ _ _ _ _; with_reducible first | refine wg_name (by with_unfolding_all exact rfl) ?_ | refine wg_tup (by with_unfolding_all exact rfl) ?_ | refine wg_set (by with_unfolding_all exact rfl) ?_)
  | (with_reducible show WGs _ _ _ _ _; with_reducible first | refine wgs_cons ?_ | refine wgs_nil ?_)
  | with_reducible refine iteT ?_
  | with_reducible refine iteF ?_
  | with_reducible refine ⟨_, frz_per, ?_⟩
  | with_reducible refine ⟨_, frz_own, ?_⟩
  | refine ⟨_, rfl, ?_⟩
  | refine ⟨_, argD1, ?_⟩
  | refine ⟨_, argD2, ?_⟩
  | refine ⟨_, argD0, ?_⟩
  | refine ⟨_, argD3, ?_⟩
  | refine ⟨_, argD4, ?_⟩
  | refine ⟨_, _, rfl, rfl, rfl, ?_⟩
  | refine ⟨_, _, _, rfl, rfl, rfl, ?_⟩
  | refine ⟨(by simp only [List.length_cons, List.length_nil]; decide), ?_⟩
  | refine ⟨rfl, nd1, ?_⟩
  | refine ⟨rfl, nd0, ?_⟩)
local macro_rules | `(tactic| walk_at "go") => `(tactic| repeat walk_at "g1")
local macro_rules | `(tactic| walk_at "g2") => `(tactic| first
  | (with_reducible show WE _ _ _; with_reducible first | refine we_var (by with_unfolding_all exact rfl) ?_ | (show WE (tOp _ _ _) _ _; first | refine we_notN ?_ | refine we_ixS (by with_unfolding_all exact rfl) ?_ | refine we_ixScr (by with_unfolding_all exact rfl) ?_ | refine we_inS (by with_unfolding_all exact rfl) ?_ | refine we_notInS (by with_unfolding_all exact rfl) ?_ | refine we_eqS (by with_unfolding_all exact rfl) ?_ | refine we_neS (by with_unfolding_all exact rfl) ?_ | refine we_opK ?_) | (show WE (tCB _ _) _ _; first | refine we_isInt ?_ | refine we_isBl ?_ | refine we_isLst ?_ | refine we_isTup ?_ | refine we_lenO (by with_unfolding_all exact rfl) ?_ | refine we_lenS' (by with_unfolding_all exact rfl) ?_ | refine we_lenScr (by with_unfolding_all exact rfl) ?_ | refine we_cbK ?_) | refine we_chain ?_ | refine we_slice ?_ | refine we_int ?_ | refine we_bl ?_ | refine we_non ?_ | refine we_str ?_ | refine we_neg ?_ | refine we_not ?_ | refine we_and ?_ | refine we_or ?_ | refine we_if ?_ | refine we_tup ?_ | refine we_lst ?_ | refine we_call ?_ | refine we_mt (by with_unfolding_all exact rfl) ?_)
  | (with_reducible show WS _ _ _ _; with_reducible first | refine ws_seqA ?_ | refine ws_seqD ?_ | refine ws_asg (by with_unfolding_all exact rfl) ?_ | refine ws_asgG ?_ | refine ws_if ?_ | refine ws_ret ?_ | refine ws_drop ?_ | refine ws_next ?_ | refine ws_retN ?_)
  | (with_reducible show WT _ _ _; with_reducible first | refine wt_test ?_ | refine wt_B ?_ | refine wt_not ?_ | refine wt_and ?_ | refine wt_or ?_ | refine wt_yes ?_)
  | (with_reducible show WA _ _ _; with_reducible first | refine wa_nil ?_ | refine wa_cons (wq_of (we_var (by with_unfolding_all exact rfl) ?_)) | refine wa_slotU (by with_unfolding_all exact rfl) ?_ | refine wa_cons ?_)
  | (with_reducible show OpK _ _ _ _ _; with_reducible first | refine ok_isB ?_ | refine ok_notB ?_ | refine ok_plusI ?_ | refine ok_sub ?_ | refine ok_lt ?_ | refine ok_le ?_ | refine ok_gt ?_ | refine ok_ge ?_ | refine ok_eqI ?_ | refine ok_neI ?_ | refine ok_mod (by first | assumption | decide | omega) ?_ | refine ok_ixL (by with_unfolding_all exact rfl) ?_)
  | (with_reducible show CbK _ _ _ _; with_reducible first | refine ck_lenL ?_ | refine ck_lenT ?_ | refine ck_int ?_ | refine ck_intB ?_ | refine ck_max ?_ | refine ck_min ?_ | refine ck_list ?_)
  | with_reducible refine wq_of ?_
  | (with_reducible show WG _ _ _ _ _; with_reducible first | refine wg_name (by with_unfolding_all exact rfl) ?_ | refine wg_tup (by with_unfolding_all exact rfl) ?_ | refine wg_set (by with_unfolding_all exact rfl) ?_)
  | (with_reducible show WGs _ _ _ _ _; with_reducible first | refine wgs_cons ?_ | refine wgs_nil ?_)
  | (with_reducible show WO _ _ _; with_reducible first | refine wo_some ?_ | refine wo_none ?_)
  | refine ⟨_, argD5, ?_⟩
  | refine ⟨_, argD6, ?_⟩
  | refine ⟨_, argD7, ?_⟩
  | refine ⟨_, argD9, ?_⟩
  | with_reducible refine iteT ?_
  | with_reducible refine iteF ?_
  | with_reducible refine ⟨_, frz_per, ?_⟩
  | with_reducible refine ⟨_, frz_own, ?_⟩
  | refine ⟨_, rfl, ?_⟩
  | refine ⟨_, argD1, ?_⟩
  | refine ⟨_, argD2, ?_⟩
  | refine ⟨_, argD0, ?_⟩
  | refine ⟨_, argD3, ?_⟩
  | refine ⟨_, argD4, ?_⟩
  | refine ⟨_, _, rfl, rfl, rfl, ?_⟩
  | refine ⟨_, _, _, rfl, rfl, rfl, ?_⟩
  | refine ⟨(by simp only [List.length_cons, List.length_nil]; decide), ?_⟩
  | refine ⟨rfl, nd1, ?_⟩
  | refine ⟨rfl, nd0, ?_⟩)
local macro_rules | `(tactic| walk_at "g2") => `(tactic| first | with_reducible refine we_isInt ?_ | with_reducible refine we_isBl ?_ | with_reducible refine we_isLst ?_ | with_reducible refine we_isTup ?_ | with_reducible refine we_chain ?_ | with_reducible refine we_lenO (by with_unfolding_all exact rfl) ?_ | with_reducible refine we_lenSetW ?_ | with_reducible refine we_slice ?_ | with_reducible refine wo_some ?_ | with_reducible refine wo_none ?_ | walk_at "g1")
def intOf : PyData → Int
  | .int i => i
  | _ => 0
end G

namespace G
open PySem L2
local macro_rules | `(tactic| walk_at "g1") => `(tactic| first
  | (with_reducible show WE _ _ _; with_reducible first | refine we_var (by with_unfolding_all exact rfl) ?_ | (show WE (tOp _ _ _) _ _; first | refine we_ixS (by with_unfolding_all exact rfl) ?_ | refine we_ixScr (by with_unfolding_all exact rfl) ?_ | refine we_inS (by with_unfolding_all exact rfl) ?_ | refine we_notInS (by with_unfolding_all exact rfl) ?_ | refine we_eqS (by with_unfolding_all exact rfl) ?_ | refine we_neS (by with_unfolding_all exact rfl) ?_ | refine we_opK ?_) | (show WE (tCB _ _) _ _; first | refine we_lenS' (by with_unfolding_all exact rfl) ?_ | refine we_lenScr (by with_unfolding_all exact rfl) ?_ | refine we_cbK ?_) | refine we_int ?_ | refine we_bl ?_ | refine we_non ?_ | refine we_str ?_ | refine we_neg ?_ | refine we_not ?_ | refine we_and ?_ | refine we_or ?_ | refine we_if ?_ | refine we_tup ?_ | refine we_lst ?_ | refine we_call ?_ | refine we_mt (by with_unfolding_all exact rfl) ?_)
  | (with_reducible show WS _ _ _ _; with_reducible first | refine ws_seqA ?_ | refine ws_seqD ?_ | refine ws_asg (by with_unfolding_all exact rfl) ?_ | refine ws_asgG ?_ | refine ws_if ?_ | refine ws_ret ?_ | refine ws_drop ?_ | refine ws_next ?_ | refine ws_retN ?_)
  | (with_reducible show WT _ _ _; with_reducible first | refine wt_test ?_ | refine wt_B ?_ | refine wt_not ?_ | refine wt_and ?_ | refine wt_or ?_ | refine wt_yes ?_)
  | (with_reducible show WA _ _ _; with_reducible first | refine wa_nil ?_ | refine wa_cons (wq_of (we_var (by with_unfolding_all exact rfl) ?_)) | refine wa_slotU (by with_unfolding_all exact rfl) ?_ | refine wa_cons ?_)
  | (with_reducible show OpK _ _ _ _ _; with_reducible first | refine ok_plusI ?_ | refine ok_sub ?_ | refine ok_lt ?_ | refine ok_le ?_ | refine ok_gt ?_ | refine ok_ge ?_ | refine ok_eqI ?_ | refine ok_neI ?_ | refine ok_mod (by first | assumption | decide | omega) ?_ | refine ok_ixL (by with_unfolding_all exact rfl) ?_)
  | (with_reducible show CbK _ _ _ _; with_reducible first | refine ck_lenL ?_ | refine ck_lenT ?_ | refine ck_int ?_ | refine ck_intB ?_ | refine ck_max ?_ | refine ck_min ?_ | refine ck_list ?_)
  | with_reducible refine wq_of ?_
  | (with_reducible show WG _ _ _ _ _; with_reducible first | refine wg_name (by with_unfolding_all exact rfl) ?_ | refine wg_tup (by with_unfolding_all exact rfl) ?_ | refine wg_set (by with_unfolding_all exact rfl) ?_)
  | (with_reducible show WGs _ _ _ _ _; with_reducible first | refine wgs_cons ?_ | refine wgs_nil ?_)
  | with_reducible refine iteT ?_
  | with_reducible refine iteF ?_
  | with_reducible refine ⟨_, frz_per, ?_⟩
  | with_reducible refine ⟨_, frz_own, ?_⟩
  | refine ⟨_, rfl, ?_⟩
  | refine ⟨_, argD1, ?_⟩
  | refine ⟨_, argD2, ?_⟩
  | refine ⟨_, argD0, ?_⟩
  | refine ⟨_, argD3, ?_⟩
  | refine ⟨_, argD4, ?_⟩
  | refine ⟨_, _, rfl, rfl, rfl, ?_⟩
  | refine ⟨_, _, _, rfl, rfl, rfl, ?_⟩
  | refine ⟨(by simp only [List.length_cons, List.length_nil]; decide), ?_⟩
  | refine ⟨rfl, nd1, ?_⟩
  | refine ⟨rfl, nd0, ?_⟩)
local macro_rules | `(tactic| walk_at "go") => `(tactic| repeat walk_at "g1")
local macro_rules | `(tactic| walk_at "g2") => `(tactic| first
  | (with_reducible show WE _ _ _; with_reducible first | refine we_var (by with_unfolding_all exact rfl) ?_ | (show WE (tOp _ _ _) _ _; first | refine we_notN ?_ | refine we_ixS (by with_unfolding_all exact rfl) ?_ | refine we_ixScr (by with_unfolding_all exact rfl) ?_ | refine we_inS (by with_unfolding_all exact rfl) ?_ | refine we_notInS (by with_unfolding_all exact rfl) ?_ | refine we_eqS (by with_unfolding_all exact rfl) ?_ | refine we_neS (by with_unfolding_all exact rfl) ?_ | refine we_opK ?_) | (show WE (tCB _ _) _ _; first | refine we_isInt ?_ | refine we_isBl ?_ | refine we_isLst ?_ | refine we_isTup ?_ | refine we_lenO (by with_unfolding_all exact rfl) ?_ | refine we_lenS' (by with_unfolding_all exact rfl) ?_ | refine we_lenScr (by with_unfolding_all exact rfl) ?_ | refine we_cbK ?_) | refine we_chain ?_ | refine we_slice ?_ | refine we_int ?_ | refine we_bl ?_ | refine we_non ?_ | refine we_str ?_ | refine we_neg ?_ | refine we_not ?_ | refine we_and ?_ | refine we_or ?_ | refine we_if ?_ | refine we_tup ?_ | refine we_lst ?_ | refine we_call ?_ | refine we_mt (by with_unfolding_all exact rfl) ?_)
  | (with_reducible show WS _ _ _ _; with_reducible first | refine ws_seqA ?_ | refine ws_seqD ?_ | refine ws_asg (by with_unfolding_all exact rfl) ?_ | refine ws_asgG ?_ | refine ws_if ?_ | refine ws_ret ?_ | refine ws_drop ?_ | refine ws_next ?_ | refine ws_retN ?_)
  | (with_reducible show WT _ _ _; with_reducible first | refine wt_test ?_ | refine wt_B ?_ | refine wt_not ?_ | refine wt_and ?_ | refine wt_or ?_ | refine wt_yes ?_)
  | (with_reducible show WA _ _ _; with_reducible first | refine wa_nil ?_ | refine wa_cons (wq_of (we_var (by with_unfolding_all exact rfl) ?_)) | refine wa_slotU (by with_unfolding_all exact rfl) ?_ | refine wa_cons ?_)
  | (with_reducible show OpK _ _ _ _ _; with_reducible first | refine ok_isB ?_ | refine ok_notB ?_ | refine ok_plusI ?_ | refine ok_sub ?_ | refine ok_lt ?_ | refine ok_le ?_ | refine ok_gt ?_ | refine ok_ge ?_ | refine ok_eqI ?_ | refine ok_neI ?_ | refine ok_mod (by first | assumption | decide | omega) ?_ | refine ok_ixL (by with_unfolding_all exact rfl) ?_)
  | (with_reducible show CbK _ _ _ _; with_reducible first | refine ck_lenL ?_ | refine ck_lenT ?_ | refine ck_int ?_ | refine ck_intB ?_ | refine ck_max ?_ | refine ck_min ?_ | refine ck_list ?_)
  | with_reducible refine wq_of ?_
  | (with_reducible show WG _ _ _ _ _; with_reducible first | refine wg_name (by with_unfolding_all exact rfl) ?_ | refine wg_tup (by with_unfolding_all exact rfl) ?_ | refine wg_set (by with_unfolding_all exact rfl) ?_)
  | (with_reducible show WGs _ _ _ _ _; with_reducible first | refine wgs_cons ?_ | refine wgs_nil ?_)
  | (with_reducible show WO _ _ _; with_reducible first | refine wo_some ?_ | refine wo_none ?_)
  | refine ⟨_, argD5, ?_⟩
  | refine ⟨_, argD6, ?_⟩
  | refine ⟨_, argD7, ?_⟩
  | refine ⟨_, argD9, ?_⟩
  | with_reducible refine iteT ?_
  | with_reducible refine iteF ?_
  | with_reducible refine ⟨_, frz_per, ?_⟩
  | with_reducible refine ⟨_, frz_own, ?_⟩
  | refine ⟨_, rfl, ?_⟩
  | refine ⟨_, argD1, ?_⟩
  | refine ⟨_, argD2, ?_⟩
  | refine ⟨_, argD0, ?_⟩
  | refine ⟨_, argD3, ?_⟩
  | refine ⟨_, argD4, ?_⟩
  | refine ⟨_, _, rfl, rfl, rfl, ?_⟩
  | refine ⟨_, _, _, rfl, rfl, rfl, ?_⟩
  | refine ⟨(by simp only [List.length_cons, List.length_nil]; decide), ?_⟩
  | refine ⟨rfl, nd1, ?_⟩
  | refine ⟨rfl, nd0, ?_⟩)
local macro_rules | `(tactic| walk_at "g2") => `(tactic| first | with_reducible refine we_isInt ?_ | with_reducible refine we_isLst ?_ | with_reducible refine we_chain ?_ | with_reducible refine we_lenO (by with_unfolding_all exact rfl) ?_ | with_reducible refine we_slice ?_ | with_reducible refine wo_some ?_ | with_reducible refine wo_none ?_ | walk_at "g1")
/-- start, start + step, .. -/
def prog (s t : Int) (i : Nat) : List Int := (List.range i).map fun (k : Nat) => s + (k : Int) * t
theorem perm_ints {es : List PyData} {ps : List Int} (h : es.Perm (ps.map .int)) : ∃ ns : List Int, es = ns.map .int ∧ ns.Perm ps := by
  have e0 : ∀ {ns : List Int}, (ns.map PyData.int).map intOf = ns := fun {ns} => by
    rw [List.map_map]
    exact List.map_id ns
  refine ⟨es.map intOf, ?_, by have := h.map intOf; rwa [e0] at this⟩
  rw [List.map_map]
  refine (List.map_id es).symm.trans (List.map_congr_left fun d hd => ?_)
  obtain ⟨n, _, rfl⟩ := List.mem_map.mp (h.mem_iff.mp hd)
  rfl
end G

namespace G
open PySem L2
local macro_rules | `(tactic| walk_at "g1") => `(tactic| first
  | (with_reducible show WE _ _ _; with_reducible first | refine we_var (by with_unfolding_all exact rfl) ?_ | (show WE (tOp _ _ _) _ _; first | refine we_ixS (by with_unfolding_all exact rfl) ?_ | refine we_ixScr (by with_unfolding_all exact rfl) ?_ | refine we_inS (by with_unfolding_all exact rfl) ?_ | refine we_notInS (by with_unfolding_all exact rfl) ?_ | refine we_eqS (by with_unfolding_all exact rfl) ?_ | refine we_neS (by with_unfolding_all exact rfl) ?_ | refine we_opK ?_) | (show WE (tCB _ _) _ _; first | refine we_lenS' (by with_unfolding_all exact rfl) ?_ | refine we_lenScr (by with_unfolding_all exact rfl) ?_ | refine we_cbK ?_) | refine we_int ?_ | refine we_bl ?_ | refine we_non ?_ | refine we_str ?_ | refine we_neg ?_ | refine we_not ?_ | refine we_and ?_ | refine we_or ?_ | refine we_if ?_ | refine we_tup ?_ | refine we_lst ?_ | refine we_call ?_ | refine we_mt (by with_unfolding_all exact rfl) ?_)
  | (with_reducible show WS _ _ _ _; with_reducible first | refine ws_seqA ?_ | refine ws_seqD ?_ | refine ws_asg (by with_unfolding_all exact rfl) ?_ | refine ws_asgG ?_ | refine ws_if ?_ | refine ws_ret ?_ | refine ws_drop ?_ | refine ws_next ?_ | refine ws_retN ?_)
  | (with_reducible show WT _ _ _; with_reducible first | refine wt_test ?_ | refine wt_B ?_ | refine wt_not ?_ | refine wt_and ?_ | refine wt_or ?_ | refine wt_yes ?_)
  | (with_reducible show WA _ _ _; with_reducible first | refine wa_nil ?_ | refine wa_cons (wq_of (we_var (by with_unfolding_all exact rfl) ?_)) | refine wa_slotU (by with_unfolding_all exact rfl) ?_ | refine wa_cons ?_)
  | (with_reducible show OpK _ _ _ _ _; with_reducible first | refine ok_plusI ?_ | refine ok_sub ?_ | refine ok_lt ?_ | refine ok_le ?_ | refine ok_gt ?_ | refine ok_ge ?_ | refine ok_eqI ?_ | refine ok_neI ?_ | refine ok_mod (by first | assumption | decide | omega) ?_ | refine ok_ixL (by with_unfolding_all exact rfl) ?_)
  | (with_reducible show CbK _ _ _ _; with_reducible first | refine ck_lenL ?_ | refine ck_lenT ?_ | refine ck_int ?_ | refine ck_intB ?_ | refine ck_max ?_ | refine ck_min ?_ | refine ck_list ?_)
  | with_reducible refine wq_of ?_
  | (with_reducible show WG _ _ _ _ _; with_reducible first | refine wg_name (by with_unfolding_all exact rfl) ?_ | refine wg_tup (by with_unfolding_all exact rfl) ?_ | refine wg_set (by with_unfolding_all exact rfl) ?_)
  | (with_reducible show WGs _ _ _ _ _; with_reducible first | refine wgs_cons ?_ | refine wgs_nil ?_)
  | with_reducible refine iteT ?_
  | with_reducible refine iteF ?_
  | with_reducible refine ⟨_, frz_per, ?_⟩
  | with_reducible refine ⟨_, frz_own, ?_⟩
  | refine ⟨_, rfl, ?_⟩
  | refine ⟨_, argD1, ?_⟩
  | refine ⟨_, argD2, ?_⟩
  | refine ⟨_, argD0, ?_⟩
  | refine ⟨_, argD3, ?_⟩
  | refine ⟨_, argD4, ?_⟩
  | refine ⟨_, _, rfl, rfl, rfl, ?_⟩
  | refine ⟨_, _, _, rfl, rfl, rfl, ?_⟩
  | refine ⟨(by simp only [List.length_cons, List.length_nil]; decide), ?_⟩
  | refine ⟨rfl, nd1, ?_⟩
  | refine ⟨rfl, nd0, ?_⟩)
local macro_rules | `(tactic| walk_at "go") => `(tactic| repeat walk_at "g1")
local macro_rules | `(tactic| walk_at "g2") => `(tactic| first
  | (with_reducible show WE _ _ _; with_reducible first | refine we_var (by with_unfolding_all exact rfl) ?_ | (show WE (tOp _ _ _) _ _; first | refine we_notN ?_ | refine we_ixS (by with_unfolding_all exact rfl) ?_ | refine we_ixScr (by with_unfolding_all exact rfl) ?_ | refine we_inS (by with_unfolding_all exact rfl) ?_ | refine we_notInS (by with_unfolding_all exact rfl) ?_ | refine we_eqS (by with_unfolding_all exact rfl) ?_ | refine we_neS (by with_unfolding_all exact rfl) ?_ | refine we_opK ?_) | (show WE (tCB _ _) _ _; first | refine we_isInt ?_ | refine we_isBl ?_ | refine we_isLst ?_ | refine we_isTup ?_ | refine we_lenO (by with_unfolding_all exact rfl) ?_ | refine we_lenS' (by with_unfolding_all exact rfl) ?_ | refine we_lenScr (by with_unfolding_all exact rfl) ?_ | refine we_cbK ?_) | refine we_chain ?_ | refine we_slice ?_ | refine we_int ?_ | refine we_bl ?_ | refine we_non ?_ | refine we_str ?_ | refine we_neg ?_ | refine we_not ?_ | refine we_and ?_ | refine we_or ?_ | refine we_if ?_ | refine we_tup ?_ | refine we_lst ?_ | refine we_call ?_ | refine we_mt (by with_unfolding_all exact rfl) ?_)
  | (with_reducible show WS _ _ _ _; with_reducible first | refine ws_seqA ?_ | refine ws_seqD ?_ | refine ws_asg (by with_unfolding_all exact rfl) ?_ | refine ws_asgG ?_ | refine ws_if ?_ | refine ws_ret ?_ | refine ws_drop ?_ | refine ws_next ?_ | refine ws_retN ?_)
  | (with_reducible show WT _ _ _; with_reducible first | refine wt_test ?_ | refine wt_B ?_ | refine wt_not ?_ | refine wt_and ?_ | refine wt_or ?_ | refine wt_yes ?_)
  | (with_reducible show WA _ _ _; with_reducible first | refine wa_nil ?_ | refine wa_cons (wq_of (we_var (by with_unfolding_all exact rfl) ?_)) | refine wa_slotU (by with_unfolding_all exact rfl) ?_ | refine wa_cons ?_)
  | (with_reducible show OpK _ _ _ _ _; with_reducible first | refine ok_isB ?_ | refine ok_notB ?_ | refine ok_plusI ?_ | refine ok_sub ?_ | refine ok_lt ?_ | refine ok_le ?_ | refine ok_gt ?_ | refine ok_ge ?_ | refine ok_eqI ?_ | refine ok_neI ?_ | refine ok_mod (by first | assumption | decide | omega) ?_ | refine ok_ixL (by with_unfolding_all exact rfl) ?_)
  | (with_reducible show CbK _ _ _ _; with_reducible first | refine ck_lenL ?_ | refine ck_lenT ?_ | refine ck_int ?_ | refine ck_intB ?_ | refine ck_max ?_ | refine ck_min ?_ | refine ck_list ?_)
  | with_reducible refine wq_of ?_
  | (with_reducible show WG _ _ _ _ _; with_reducible first | refine wg_name (by with_unfolding_all exact rfl) ?_ | refine wg_tup (by with_unfolding_all exact rfl) ?_ | refine wg_set (by with_unfolding_all exact rfl) ?_)
  | (with_reducible show WGs _ _ _ _ _; with_reducible first | refine wgs_cons ?_ | refine wgs_nil ?_)
  | (with_reducible show WO _ _ _; with_reducible first | refine wo_some ?_ | refine wo_none ?_)
  | refine ⟨_, argD5, ?_⟩
  | refine ⟨_, argD6, ?_⟩
  | refine ⟨_, argD7, ?_⟩
  | refine ⟨_, argD9, ?_⟩
  | with_reducible refine iteT ?_
  | with_reducible refine iteF ?_
  | with_reducible refine ⟨_, frz_per, ?_⟩
  | with_reducible refine ⟨_, frz_own, ?_⟩
  | refine ⟨_, rfl, ?_⟩
  | refine ⟨_, argD1, ?_⟩
  | refine ⟨_, argD2, ?_⟩
  | refine ⟨_, argD0, ?_⟩
  | refine ⟨_, argD3, ?_⟩
  | refine ⟨_, argD4, ?_⟩
  | refine ⟨_, _, rfl, rfl, rfl, ?_⟩
  | refine ⟨_, _, _, rfl, rfl, rfl, ?_⟩
  | refine ⟨(by simp only [List.length_cons, List.length_nil]; decide), ?_⟩
  | refine ⟨rfl, nd1, ?_⟩
  | refine ⟨rfl, nd0, ?_⟩)
local macro_rules | `(tactic| walk_at "g2") => `(tactic| first | with_reducible refine we_notN ?_ | with_reducible refine we_isInt ?_ | with_reducible refine we_isLst ?_ | with_reducible refine we_chain ?_ | with_reducible refine we_lenO (by with_unfolding_all exact rfl) ?_ | with_reducible refine we_slice ?_ | with_reducible refine wo_some ?_ | with_reducible refine wo_none ?_ | walk_at "g1")
end G

namespace G
open PySem L2
local macro_rules | `(tactic| walk_at "g1") => `(tactic| first
  | (with_reducible show WE _ _ _; with_reducible first | refine we_var (by with_unfolding_all exact rfl) ?_ | (show WE (tOp _ _ _) _ _; first | refine we_ixS (by with_unfolding_all exact rfl) ?_ | refine we_ixScr (by with_unfolding_all exact rfl) ?_ | refine we_inS (by with_unfolding_all exact rfl) ?_ | refine we_notInS (by with_unfolding_all exact rfl) ?_ | refine we_eqS (by with_unfolding_all exact rfl) ?_ | refine we_neS (by with_unfolding_all exact rfl) ?_ | refine we_opK ?_) | (show WE (tCB _ _) _ _; first | refine we_lenS' (by with_unfolding_all exact rfl) ?_ | refine we_lenScr (by with_unfolding_all exact rfl) ?_ | refine we_cbK ?_) | refine we_int ?_ | refine we_bl ?_ | refine we_non ?_ | refine we_str ?_ | refine we_neg ?_ | refine we_not ?_ | refine we_and ?_ | refine we_or ?_ | refine we_if ?_ | refine we_tup ?_ | refine we_lst ?_ | refine we_call ?_ | refine we_mt (by with_unfolding_all exact rfl) ?_)
  | (with_reducible show WS _ _ _ _; with_reducible first | refine ws_seqA ?_ | refine ws_seqD ?_ | refine ws_asg (by with_unfolding_all exact rfl) ?_ | refine ws_asgG ?_ | refine ws_if ?_ | refine ws_ret ?_ | refine ws_drop ?_ | refine ws_next ?_ | refine ws_retN ?_)
  | (with_reducible show WT _ _ _; with_reducible first | refine wt_test ?_ | refine wt_B ?_ | refine wt_not ?_ | refine wt_and ?_ | refine wt_or ?_ | refine wt_yes ?_)
  | (with_reducible show WA _ _ _; with_reducible first | refine wa_nil ?_ | refine wa_cons (wq_of (we_var (by with_unfolding_all exact rfl) ?_)) | refine wa_slotU (by with_unfolding_all exact rfl) ?_ | refine wa_cons ?_)
  | (with_reducible show OpK _ _ _ _ _; with_reducible first | refine ok_plusI ?_ | refine ok_sub ?_ | refine ok_lt ?_ | refine ok_le ?_ | refine ok_gt ?_ | refine ok_ge ?_ | refine ok_eqI ?_ | refine ok_neI ?_ | refine ok_mod (by first | assumption | decide | omega) ?_ | refine ok_ixL (by with_unfolding_all exact rfl) ?_)
  | (with_reducible show CbK _ _ _ _; with_reducible first | refine ck_lenL ?_ | refine ck_lenT ?_ | refine ck_int ?_ | refine ck_intB ?_ | refine ck_max ?_ | refine ck_min ?_ | refine ck_list ?_)
  | with_reducible refine wq_of ?_
  | (with_reducible show WG _ _ _ _ _; with_reducible first | refine wg_name (by with_unfolding_all exact rfl) ?_ | refine wg_tup (by with_unfolding_all exact rfl) ?_ | refine wg_set (by with_unfolding_all exact rfl) ?_)
  | (with_reducible show WGs _ _ _ _ _; with_reducible first | refine wgs_cons ?_ | refine wgs_nil ?_)
  | with_reducible refine iteT ?_
  | with_reducible refine iteF ?_
  | with_reducible refine ⟨_, frz_per, ?_⟩
  | with_reducible refine ⟨_, frz_own, ?_⟩
  | refine ⟨_, rfl, ?_⟩
  | refine ⟨_, argD1, ?_⟩
  | refine ⟨_, argD2, ?_⟩
  | refine ⟨_, argD0, ?_⟩
  | refine ⟨_, argD3, ?_⟩
  | refine ⟨_, argD4, ?_⟩
  | refine ⟨_, _, rfl, rfl, rfl, ?_⟩
  | refine ⟨_, _, _, rfl, rfl, rfl, ?_⟩
  | refine ⟨(by simp only [List.length_cons, List.length_nil]; decide), ?_⟩
  | refine ⟨rfl, nd1, ?_⟩
  | refine ⟨rfl, nd0, ?_⟩)
local macro_rules | `(tactic| walk_at "go") => `(tactic| repeat walk_at "g1")
local macro_rules | `(tactic| walk_at "g2") => `(tactic| first
  | (with_reducible show WE _ _ _; with_reducible first | refine we_var (by with_unfolding_all exact rfl) ?_ | (show WE (tOp _ _ _) _ _; first | refine we_notN ?_ | refine we_ixS (by with_unfolding_all exact rfl) ?_ | refine we_ixScr (by with_unfolding_all exact rfl) ?_ | refine we_inS (by with_unfolding_all exact rfl) ?_ | refine we_notInS (by with_unfolding_all exact rfl) ?_ | refine we_eqS (by with_unfolding_all exact rfl) ?_ | refine we_neS (by with_unfolding_all exact rfl) ?_ | refine we_opK ?_) | (show WE (tCB _ _) _ _; first | refine we_isInt ?_ | refine we_isBl ?_ | refine we_isLst ?_ | refine we_isTup ?_ | refine we_lenO (by with_unfolding_all exact rfl) ?_ | refine we_lenS' (by with_unfolding_all exact rfl) ?_ | refine we_lenScr (by with_unfolding_all exact rfl) ?_ | refine we_cbK ?_) | refine we_chain ?_ | refine we_slice ?_ | refine we_int ?_ | refine we_bl ?_ | refine we_non ?_ | refine we_str ?_ | refine we_neg ?_ | refine we_not ?_ | refine we_and ?_ | refine we_or ?_ | refine we_if ?_ | refine we_tup ?_ | refine we_lst ?_ | refine we_call ?_ | refine we_mt (by with_unfolding_all exact rfl) ?_)
  | (with_reducible show WS _ _ _ _; with_reducible first | refine ws_seqA ?_ | refine ws_seqD ?_ | refine ws_asg (by with_unfolding_all exact rfl) ?_ | refine ws_asgG ?_ | refine ws_if ?_ | refine ws_ret ?_ | refine ws_drop ?_ | refine ws_next ?_ | refine ws_retN ?_)
  | (with_reducible show WT _ _ _; with_reducible first | refine wt_test ?_ | refine wt_B ?_ | refine wt_not ?_ | refine wt_and ?_ | refine wt_or ?_ | refine wt_yes ?_)
  | (with_reducible show WA _ _ _; with_reducible first | refine wa_nil ?_ | refine wa_cons (wq_of (we_var (by with_unfolding_all exact rfl) ?_)) | refine wa_slotU (by with_unfolding_all exact rfl) ?_ | refine wa_cons ?_)
  | (with_reducible show OpK _ _ _ _ _; with_reducible first | refine ok_isB ?_ | refine ok_notB ?_ | refine ok_plusI ?_ | refine ok_sub ?_ | refine ok_lt ?_ | refine ok_le ?_ | refine ok_gt ?_ | refine ok_ge ?_ | refine ok_eqI ?_ | refine ok_neI ?_ | refine ok_mod (by first | assumption | decide | omega) ?_ | refine ok_ixL (by with_unfolding_all exact rfl) ?_)
  | (with_reducible show CbK _ _ _ _; with_reducible first | refine ck_lenL ?_ | refine ck_lenT ?_ | refine ck_int ?_ | refine ck_intB ?_ | refine ck_max ?_ | refine ck_min ?_ | refine ck_list ?_)
  | with_reducible refine wq_of ?_
  | (with_reducible show WG _ _ _ _ _; with_reducible first | refine wg_name (by with_unfolding_all exact rfl) ?_ | refine wg_tup (by with_unfolding_all exact rfl) ?_ | refine wg_set (by with_unfolding_all exact rfl) ?_)
  | (with_reducible show WGs _ _ _ _ _; with_reducible first | refine wgs_cons ?_ | refine wgs_nil ?_)
  | (with_reducible show WO _ _ _; with_reducible first | refine wo_some ?_ | refine wo_none ?_)
  | refine ⟨_, argD5, ?_⟩
  | refine ⟨_, argD6, ?_⟩
  | refine ⟨_, argD7, ?_⟩
  | refine ⟨_, argD9, ?_⟩
  | with_reducible refine iteT ?_
  | with_reducible refine iteF ?_
  | with_reducible refine ⟨_, frz_per, ?_⟩
  | with_reducible refine ⟨_, frz_own, ?_⟩
  | refine ⟨_, rfl, ?_⟩
  | refine ⟨_, argD1, ?_⟩
  | refine ⟨_, argD2, ?_⟩
  | refine ⟨_, argD0, ?_⟩
  | refine ⟨_, argD3, ?_⟩
  | refine ⟨_, argD4, ?_⟩
  | refine ⟨_, _, rfl, rfl, rfl, ?_⟩
  | refine ⟨_, _, _, rfl, rfl, rfl, ?_⟩
  | refine ⟨(by simp only [List.length_cons, List.length_nil]; decide), ?_⟩
  | refine ⟨rfl, nd1, ?_⟩
  | refine ⟨rfl, nd0, ?_⟩)
end G

namespace G
open PySem L2
local macro_rules | `(tactic| walk_at "g1") => `(tactic| first
  | (with_reducible show WE _ _ _; with_reducible first | refine we_var (by with_unfolding_all exact rfl) ?_ | (show WE (tOp _ _ _) _ _; first | refine we_ixS (by with_unfolding_all exact rfl) ?_ | refine we_ixScr (by with_unfolding_all exact rfl) ?_ | refine we_inS (by with_unfolding_all exact rfl) ?_ | refine we_notInS (by with_unfolding_all exact rfl) ?_ | refine we_eqS (by with_unfolding_all exact rfl) ?_ | refine we_neS (by with_unfolding_all exact rfl) ?_ | refine we_opK ?_) | (show WE (tCB _ _) _ _; first | refine we_lenS' (by with_unfolding_all exact rfl) ?_ | refine we_lenScr (by with_unfolding_all exact rfl) ?_ | refine we_cbK ?_) | refine we_int ?_ | refine we_bl ?_ | refine we_non ?_ | refine we_str ?_ | refine we_neg ?_ | refine we_not ?_ | refine we_and ?_ | refine we_or ?_ | refine we_if ?_ | refine we_tup ?_ | refine we_lst ?_ | refine we_call ?_ | refine we_mt (by with_unfolding_all exact rfl) ?_)
  | (with_reducible show WS _ _ _ _; with_reducible first | refine ws_seqA ?_ | refine ws_seqD ?_ | refine ws_asg (by with_unfolding_all exact rfl) ?_ | refine ws_asgG ?_ | refine ws_if ?_ | refine ws_ret ?_ | refine ws_drop ?_ | refine ws_next ?_ | refine ws_retN ?_)
  | (with_reducible show WT _ _ _; with_reducible first | refine wt_test ?_ | refine wt_B ?_ | refine wt_not ?_ | refine wt_and ?_ | refine wt_or ?_ | refine wt_yes ?_)
  | (with_reducible show WA _ _ _; with_reducible first | refine wa_nil ?_ | refine wa_cons (wq_of (we_var (by with_unfolding_all exact rfl) ?_)) | refine wa_slotU (by with_unfolding_all exact rfl) ?_ | refine wa_cons ?_)
  | (with_reducible show OpK _ _ _ _ _; with_reducible first | refine ok_plusI ?_ | refine ok_sub ?_ | refine ok_lt ?_ | refine ok_le ?_ | refine ok_gt ?_ | refine ok_ge ?_ | refine ok_eqI ?_ | refine ok_neI ?_ | refine ok_mod (by first | assumption | decide | omega) ?_ | refine ok_ixL (by with_unfolding_all exact rfl) ?_)
  | (with_reducible show CbK _ _ _ _; with_reducible first | refine ck_lenL ?_ | refine ck_lenT ?_ | refine ck_int ?_ | refine ck_intB ?_ | refine ck_max ?_ | refine ck_min ?_ | refine ck_list ?_)
  | with_reducible refine wq_of ?_
  | (with_reducible show WG _ _ _ _ _; with_reducible first | refine wg_name (by with_unfolding_all exact rfl) ?_ | refine wg_tup (by with_unfolding_all exact rfl) ?_ | refine wg_set (by with_unfolding_all exact rfl) ?_)
  | (with_reducible show WGs _ _ _ _ _; with_reducible first | refine wgs_cons ?_ | refine wgs_nil ?_)
  | with_reducible refine iteT ?_
  | with_reducible refine iteF ?_
  | with_reducible refine ⟨_, frz_per, ?_⟩
  | with_reducible refine ⟨_, frz_own, ?_⟩
  | refine ⟨_, rfl, ?_⟩
  | refine ⟨_, argD1, ?_⟩
  | refine ⟨_, argD2, ?_⟩
  | refine ⟨_, argD0, ?_⟩
  | refine ⟨_, argD3, ?_⟩
  | refine ⟨_, argD4, ?_⟩
  | refine ⟨_, _, rfl, rfl, rfl, ?_⟩
  | refine ⟨_, _, _, rfl, rfl, rfl, ?_⟩
  | refine ⟨(by simp only [List.length_cons, List.length_nil]; decide), ?_⟩
  | refine ⟨rfl, nd1, ?_⟩
  | refine ⟨rfl, nd0, ?_⟩)
local macro_rules | `(tactic| walk_at "go") => `(tactic| repeat walk_at "g1")
local macro_rules | `(tactic| walk_at "g2") => `(tactic| first
  | (with_reducible show WE _ _ _; with_reducible first | refine we_var (by with_unfolding_all exact rfl) ?_ | (show WE (tOp _ _ _) _ _; first | refine we_notN ?_ | refine we_ixS (by with_unfolding_all exact rfl) ?_ | refine we_ixScr (by with_unfolding_all exact rfl) ?_ | refine we_inS (by with_unfolding_all exact rfl) ?_ | refine we_notInS (by with_unfolding_all exact rfl) ?_ | refine we_eqS (by with_unfolding_all exact rfl) ?_ | refine we_neS (by with_unfolding_all exact rfl) ?_ | refine we_opK ?_) | (show WE (tCB _ _) _ _; first | refine we_isInt ?_ | refine we_isBl ?_ | refine we_isLst ?_ | refine we_isTup ?_ | refine we_lenO (by with_unfolding_all exact rfl) ?_ | refine we_lenS' (by with_unfolding_all exact rfl) ?_ | refine we_lenScr (by with_unfolding_all exact rfl) ?_ | refine we_cbK ?_) | refine we_chain ?_ | refine we_slice ?_ | refine we_int ?_ | refine we_bl ?_ | refine we_non ?_ | refine we_str ?_ | refine we_neg ?_ | refine we_not ?_ | refine we_and ?_ | refine we_or ?_ | refine we_if ?_ | refine we_tup ?_ | refine we_lst ?_ | refine we_call ?_ | refine we_mt (by with_unfolding_all exact rfl) ?_)
  | (with_reducible show WS _ _ _ _; with_reducible first | refine ws_seqA ?_ | refine ws_seqD ?_ | refine ws_asg (by with_unfolding_all exact rfl) ?_ | refine ws_asgG ?_ | refine ws_if ?_ | refine ws_ret ?_ | refine ws_drop ?_ | refine ws_next ?_ | refine ws_retN ?_)
  | (with_reducible show WT _ _ _; with_reducible first | refine wt_test ?_ | refine wt_B ?_ | refine wt_not ?_ | refine wt_and ?_ | refine wt_or ?_ | refine wt_yes ?_)
  | (with_reducible show WA _ _ _; with_reducible first | refine wa_nil ?_ | refine wa_cons (wq_of (we_var (by with_unfolding_all exact rfl) ?_)) | refine wa_slotU (by with_unfolding_all exact rfl) ?_ | refine wa_cons ?_)
  | (with_reducible show OpK _ _ _ _ _; with_reducible first | refine ok_isB ?_ | refine ok_notB ?_ | refine ok_plusI ?_ | refine ok_sub ?_ | refine ok_lt ?_ | refine ok_le ?_ | refine ok_gt ?_ | refine ok_ge ?_ | refine ok_eqI ?_ | refine ok_neI ?_ | refine ok_mod (by first | assumption | decide | omega) ?_ | refine ok_ixL (by with_unfolding_all exact rfl) ?_)
  | (with_reducible show CbK _ _ _ _; with_reducible first | refine ck_lenL ?_ | refine ck_lenT ?_ | refine ck_int ?_ | refine ck_intB ?_ | refine ck_max ?_ | refine ck_min ?_ | refine ck_list ?_)
  | with_reducible refine wq_of ?_
  | (with_reducible show WG _ _ _ _ _; with_reducible first | refine wg_name (by with_unfolding_all exact rfl) ?_ | refine wg_tup (by with_unfolding_all exact rfl) ?_ | refine wg_set (by with_unfolding_all exact rfl) ?_)
  | (with_reducible show WGs _ _ _ _ _; with_reducible first | refine wgs_cons ?_ | refine wgs_nil ?_)
  | (with_reducible show WO _ _ _; with_reducible first | refine wo_some ?_ | refine wo_none ?_)
  | refine ⟨_, argD5, ?_⟩
  | refine ⟨_, argD6, ?_⟩
  | refine ⟨_, argD7, ?_⟩
  | refine ⟨_, argD9, ?_⟩
  | with_reducible refine iteT ?_
  | with_reducible refine iteF ?_
  | with_reducible refine ⟨_, frz_per, ?_⟩
  | with_reducible refine ⟨_, frz_own, ?_⟩
  | refine ⟨_, rfl, ?_⟩
  | refine ⟨_, argD1, ?_⟩
  | refine ⟨_, argD2, ?_⟩
  | refine ⟨_, argD0, ?_⟩
  | refine ⟨_, argD3, ?_⟩
  | refine ⟨_, argD4, ?_⟩
  | refine ⟨_, _, rfl, rfl, rfl, ?_⟩
  | refine ⟨_, _, _, rfl, rfl, rfl, ?_⟩
  | refine ⟨(by simp only [List.length_cons, List.length_nil]; decide), ?_⟩
  | refine ⟨rfl, nd1, ?_⟩
  | refine ⟨rfl, nd0, ?_⟩)
local macro_rules | `(tactic| walk_at "g3") => `(tactic| first | with_reducible refine we_dnew ?_ | with_reducible refine ck_tuple ?_ | with_reducible refine we_repr ?_ | walk_at "g2")
theorem sort_asc {xs ys : List Int} (h : xs.Pairwise (· < ·)) (h' : ys.Pairwise (· ≤ ·)) (p : ys.Perm xs) : ys = xs :=
  p.eq_of_pairwise (le := (· ≤ ·)) (fun _ _ _ _ => Int.le_antisymm) h' (h.imp fun h => Int.le_of_lt h)
end G

namespace G
open PySem L2
local macro_rules | `(tactic| walk_at "g1") => `(tactic| first
  | (with_reducible show WE _ _ _; with_reducible first | refine we_var (by with_unfolding_all exact rfl) ?_ | (show WE (tOp _ _ _) _ _; first | refine we_ixS (by with_unfolding_all exact rfl) ?_ | refine we_ixScr (by with_unfolding_all exact rfl) ?_ | refine we_inS (by with_unfolding_all exact rfl) ?_ | refine we_notInS (by with_unfolding_all exact rfl) ?_ | refine we_eqS (by with_unfolding_all exact rfl) ?_ | refine we_neS (by with_unfolding_all exact rfl) ?_ | refine we_opK ?_) | (show WE (tCB _ _) _ _; first | refine we_lenS' (by with_unfolding_all exact rfl) ?_ | refine we_lenScr (by with_unfolding_all exact rfl) ?_ | refine we_cbK ?_) | refine we_int ?_ | refine we_bl ?_ | refine we_non ?_ | refine we_str ?_ | refine we_neg ?_ | refine we_not ?_ | refine we_and ?_ | refine we_or ?_ | refine we_if ?_ | refine we_tup ?_ | refine we_lst ?_ | refine we_call ?_ | refine we_mt (by with_unfolding_all exact rfl) ?_)
  | (with_reducible show WS _ _ _ _; with_reducible first | refine ws_seqA ?_ | refine ws_seqD ?_ | refine ws_asg (by with_unfolding_all exact rfl) ?_ | refine ws_asgG ?_ | refine ws_if ?_ | refine ws_ret ?_ | refine ws_drop ?_ | refine ws_next ?_ | refine ws_retN ?_)
  | (with_reducible show WT _ _ _; with_reducible first | refine wt_test ?_ | refine wt_B ?_ | refine wt_not ?_ | refine wt_and ?_ | refine wt_or ?_ | refine wt_yes ?_)
  | (with_reducible show WA _ _ _; with_reducible first | refine wa_nil ?_ | refine wa_cons (wq_of (we_var (by with_unfolding_all exact rfl) ?_)) | refine wa_slotU (by with_unfolding_all exact rfl) ?_ | refine wa_cons ?_)
  | (with_reducible show OpK _ _ _ _ _; with_reducible first | refine ok_plusI ?_ | refine ok_sub ?_ | refine ok_lt ?_ | refine ok_le ?_ | refine ok_gt ?_ | refine ok_ge ?_ | refine ok_eqI ?_ | refine ok_neI ?_ | refine ok_mod (by first | assumption | decide | omega) ?_ | refine ok_ixL (by with_unfolding_all exact rfl) ?_)
  | (with_reducible show CbK _ _ _ _; with_reducible first | refine ck_lenL ?_ | refine ck_lenT ?_ | refine ck_int ?_ | refine ck_intB ?_ | refine ck_max ?_ | refine ck_min ?_ | refine ck_list ?_)
  | with_reducible refine wq_of ?_
  | (with_reducible show WG _ _ _ _ _; with_reducible first | refine wg_name (by with_unfolding_all exact rfl) ?_ | refine wg_tup (by with_unfolding_all exact rfl) ?_ | refine wg_set (by with_unfolding_all exact rfl) ?_)
  | (with_reducible show WGs _ _ _ _ _; with_reducible first | refine wgs_cons ?_ | refine wgs_nil ?_)
  | with_reducible refine iteT ?_
  | with_reducible refine iteF ?_
  | with_reducible refine ⟨_, frz_per, ?_⟩
  | with_reducible refine ⟨_, frz_own, ?_⟩
  | refine ⟨_, rfl, ?_⟩
  | refine ⟨_, argD1, ?_⟩
  | refine ⟨_, argD2, ?_⟩
  | refine ⟨_, argD0, ?_⟩
  | refine ⟨_, argD3, ?_⟩
  | refine ⟨_, argD4, ?_⟩
  | refine ⟨_, _, rfl, rfl, rfl, ?_⟩
  | refine ⟨_, _, _, rfl, rfl, rfl, ?_⟩
  | refine ⟨(by simp only [List.length_cons, List.length_nil]; decide), ?_⟩
  | refine ⟨rfl, nd1, ?_⟩
  | refine ⟨rfl, nd0, ?_⟩)
local macro_rules | `(tactic| walk_at "go") => `(tactic| repeat walk_at "g1")
local macro_rules | `(tactic| walk_at "g2") => `(tactic| first
  | (with_reducible show WE _ _ _; with_reducible first | refine we_var (by with_unfolding_all exact rfl) ?_ | (show WE (tOp _ _ _) _ _; first | refine we_notN ?_ | refine we_ixS (by with_unfolding_all exact rfl) ?_ | refine we_ixScr (by with_unfolding_all exact rfl) ?_ | refine we_inS (by with_unfolding_all exact rfl) ?_ | refine we_notInS (by with_unfolding_all exact rfl) ?_ | refine we_eqS (by with_unfolding_all exact rfl) ?_ | refine we_neS (by with_unfolding_all exact rfl) ?_ | refine we_opK ?_) | (show WE (tCB _ _) _ _; first | refine we_isInt ?_ | refine we_isBl ?_ | refine we_isLst ?_ | refine we_isTup ?_ | refine we_lenO (by with_unfolding_all exact rfl) ?_ | refine we_lenS' (by with_unfolding_all exact rfl) ?_ | refine we_lenScr (by with_unfolding_all exact rfl) ?_ | refine we_cbK ?_) | refine we_chain ?_ | refine we_slice ?_ | refine we_int ?_ | refine we_bl ?_ | refine we_non ?_ | refine we_str ?_ | refine we_neg ?_ | refine we_not ?_ | refine we_and ?_ | refine we_or ?_ | refine we_if ?_ | refine we_tup ?_ | refine we_lst ?_ | refine we_call ?_ | refine we_mt (by with_unfolding_all exact rfl) ?_)
  | (with_reducible show WS _ _ _ _; with_reducible first | refine ws_seqA ?_ | refine ws_seqD ?_ | refine ws_asg (by with_unfolding_all exact rfl) ?_ | refine ws_asgG ?_ | refine ws_if ?_ | refine ws_ret ?_ | refine ws_drop ?_ | refine ws_next ?_ | refine ws_retN ?_)
  | (with_reducible show WT _ _ _; with_reducible first | refine wt_test ?_ | refine wt_B ?_ | refine wt_not ?_ | refine wt_and ?_ | refine wt_or ?_ | refine wt_yes ?_)
  | (with_reducible show WA _ _ _; with_reducible first | refine wa_nil ?_ | refine wa_cons (wq_of (we_var (by with_unfolding_all exact rfl) ?_)) | refine wa_slotU (by with_unfolding_all exact rfl) ?_ | refine wa_cons ?_)
  | (with_reducible show OpK _ _ _ _ _; with_reducible first | refine ok_isB ?_ | refine ok_notB ?_ | refine ok_plusI ?_ | refine ok_sub ?_ | refine ok_lt ?_ | refine ok_le ?_ | refine ok_gt ?_ | refine ok_ge ?_ | refine ok_eqI ?_ | refine ok_neI ?_ | refine ok_mod (by first | assumption | decide | omega) ?_ | refine ok_ixL (by with_unfolding_all exact rfl) ?_)
  | (with_reducible show CbK _ _ _ _; with_reducible first | refine ck_lenL ?_ | refine ck_lenT ?_ | refine ck_int ?_ | refine ck_intB ?_ | refine ck_max ?_ | refine ck_min ?_ | refine ck_list ?_)
  | with_reducible refine wq_of ?_
  | (with_reducible show WG _ _ _ _ _; with_reducible first | refine wg_name (by with_unfolding_all exact rfl) ?_ | refine wg_tup (by with_unfolding_all exact rfl) ?_ | refine wg_set (by with_unfolding_all exact rfl) ?_)
  | (with_reducible show WGs _ _ _ _ _; with_reducible first | refine wgs_cons ?_ | refine wgs_nil ?_)
  | (with_reducible show WO _ _ _; with_reducible first | refine wo_some ?_ | refine wo_none ?_)
  | refine ⟨_, argD5, ?_⟩
  | refine ⟨_, argD6, ?_⟩
  | refine ⟨_, argD7, ?_⟩
  | refine ⟨_, argD9, ?_⟩
  | with_reducible refine iteT ?_
  | with_reducible refine iteF ?_
  | with_reducible refine ⟨_, frz_per, ?_⟩
  | with_reducible refine ⟨_, frz_own, ?_⟩
  | refine ⟨_, rfl, ?_⟩
  | refine ⟨_, argD1, ?_⟩
  | refine ⟨_, argD2, ?_⟩
  | refine ⟨_, argD0, ?_⟩
  | refine ⟨_, argD3, ?_⟩
  | refine ⟨_, argD4, ?_⟩
  | refine ⟨_, _, rfl, rfl, rfl, ?_⟩
  | refine ⟨_, _, _, rfl, rfl, rfl, ?_⟩
  | refine ⟨(by simp only [List.length_cons, List.length_nil]; decide), ?_⟩
  | refine ⟨rfl, nd1, ?_⟩
  | refine ⟨rfl, nd0, ?_⟩)
local macro_rules | `(tactic| walk_at "g3") => `(tactic| first | with_reducible refine we_dnew ?_ | with_reducible refine ck_tuple ?_ | with_reducible refine we_repr ?_ | walk_at "g2")
end G

namespace G
open PySem L2
local macro_rules | `(tactic| walk_at "g1") => `(tactic| first
  | (with_reducible show WE _ _ _; with_reducible first | refine we_var (by with_unfolding_all exact rfl) ?_ | (show WE (tOp _ _ _) _ _; first | refine we_ixS (by with_unfolding_all exact rfl) ?_ | refine we_ixScr (by with_unfolding_all exact rfl) ?_ | refine we_inS (by with_unfolding_all exact rfl) ?_ | refine we_notInS (by with_unfolding_all exact rfl) ?_ | refine we_eqS (by with_unfolding_all exact rfl) ?_ | refine we_neS (by with_unfolding_all exact rfl) ?_ | refine we_opK ?_) | (show WE (tCB _ _) _ _; first | refine we_lenS' (by with_unfolding_all exact rfl) ?_ | refine we_lenScr (by with_unfolding_all exact rfl) ?_ | refine we_cbK ?_) | refine we_int ?_ | refine we_bl ?_ | refine we_non ?_ | refine we_str ?_ | refine we_neg ?_ | refine we_not ?_ | refine we_and ?_ | refine we_or ?_ | refine we_if ?_ | refine we_tup ?_ | refine we_lst ?_ | refine we_call ?_ | refine we_mt (by with_unfolding_all exact rfl) ?_)
  | (with_reducible show WS _ _ _ _; with_reducible first | refine ws_seqA ?_ | refine ws_seqD ?_ | refine ws_asg (by with_unfolding_all exact rfl) ?_ | refine ws_asgG ?_ | refine ws_if ?_ | refine ws_ret ?_ | refine ws_drop ?_ | refine ws_next ?_ | refine ws_retN ?_)
  | (with_reducible show WT _ _ _; with_reducible first | refine wt_test ?_ | refine wt_B ?_ | refine wt_not ?_ | refine wt_and ?_ | refine wt_or ?_ | refine wt_yes ?_)
  | (with_reducible show WA _ _ _; with_reducible first | refine wa_nil ?_ | refine wa_cons (wq_of (we_var (by with_unfolding_all exact rfl) ?_)) | refine wa_slotU (by with_unfolding_all exact rfl) ?_ | refine wa_cons ?_)
  | (with_reducible show OpK _ _ _ _ _; with_reducible first | refine ok_plusI ?_ | refine ok_sub ?_ | refine ok_lt ?_ | refine ok_le ?_ | refine ok_gt ?_ | refine ok_ge ?_ | refine ok_eqI ?_ | refine ok_neI ?_ | refine ok_mod (by first | assumption | decide | omega) ?_ | refine ok_ixL (by with_unfolding_all exact rfl) ?_)
  | (with_reducible show CbK _ _ _ _; with_reducible first | refine ck_lenL ?_ | refine ck_lenT ?_ | refine ck_int ?_ | refine ck_intB ?_ | refine ck_max ?_ | refine ck_min ?_ | refine ck_list ?_)
  | with_reducible refine wq_of ?_
  | (with_reducible show WG _ _ _ _ _; with_reducible first | refine wg_name (by with_unfolding_all exact rfl) ?_ | refine wg_tup (by with_unfolding_all exact rfl) ?_ | refine wg_set (by with_unfolding_all exact rfl) ?_)
  | (with_reducible show WGs _ _ _ _ _; with_reducible first | refine wgs_cons ?_ | refine wgs_nil ?_)
  | with_reducible refine iteT ?_
  | with_reducible refine iteF ?_
  | with_reducible refine ⟨_, frz_per, ?_⟩
  | with_reducible refine ⟨_, frz_own, ?_⟩
  | refine ⟨_, rfl, ?_⟩
  | refine ⟨_, argD1, ?_⟩
  | refine ⟨_, argD2, ?_⟩
  | refine ⟨_, argD0, ?_⟩
  | refine ⟨_, argD3, ?_⟩
  | refine ⟨_, argD4, ?_⟩
  | refine ⟨_, _, rfl, rfl, rfl, ?_⟩
  | refine ⟨_, _, _, rfl, rfl, rfl, ?_⟩
  | refine ⟨(by simp only [List.length_cons, List.length_nil]; decide), ?_⟩
  | refine ⟨rfl, nd1, ?_⟩
  | refine ⟨rfl, nd0, ?_⟩)
local macro_rules | `(tactic| walk_at "go") => `(tactic| repeat walk_at "g1")
local macro_rules | `(tactic| walk_at "g2") => `(tactic| first
  | (with_reducible show WE _ _ _; with_reducible first | refine we_var (by with_unfolding_all exact rfl) ?_ | (show WE (tOp _ _ _) _ _; first | refine we_notN ?_ | refine we_ixS (by with_unfolding_all exact rfl) ?_ | refine we_ixScr (by with_unfolding_all exact rfl) ?_ | refine we_inS (by with_unfolding_all exact rfl) ?_ | refine we_notInS (by with_unfolding_all exact rfl) ?_ | refine we_eqS (by with_unfolding_all exact rfl) ?_ | refine we_neS (by with_unfolding_all exact rfl) ?_ | refine we_opK ?_) | (show WE (tCB _ _) _ _; first | refine we_isInt ?_ | refine we_isBl ?_ | refine we_isLst ?_ | refine we_isTup ?_ | refine we_lenO (by with_unfolding_all exact rfl) ?_ | refine we_lenS' (by with_unfolding_all exact rfl) ?_ | refine we_lenScr (by with_unfolding_all exact rfl) ?_ | refine we_cbK ?_) | refine we_chain ?_ | refine we_slice ?_ | refine we_int ?_ | refine we_bl ?_ | refine we_non ?_ | refine we_str ?_ | refine we_neg ?_ | refine we_not ?_ | refine we_and ?_ | refine we_or ?_ | refine we_if ?_ | refine we_tup ?_ | refine we_lst ?_ | refine we_call ?_ | refine we_mt (by with_unfolding_all exact rfl) ?_)
  | (with_reducible show WS _ _ _ _; with_reducible first | refine ws_seqA ?_ | refine ws_seqD ?_ | refine ws_asg (by with_unfolding_all exact rfl) ?_ | refine ws_asgG ?_ | refine ws_if ?_ | refine ws_ret ?_ | refine ws_drop ?_ | refine ws_next ?_ | refine ws_retN ?_)
  | (with_reducible show WT _ _ _; with_reducible first | refine wt_test ?_ | refine wt_B ?_ | refine wt_not ?_ | refine wt_and ?_ | refine wt_or ?_ | refine wt_yes ?_)
  | (with_reducible show WA _ _ _; with_reducible first | refine wa_nil ?_ | refine wa_cons (wq_of (we_var (by with_unfolding_all exact rfl) ?_)) | refine wa_slotU (by with_unfolding_all exact rfl) ?_ | refine wa_cons ?_)
  | (with_reducible show OpK _ _ _ _ _; with_reducible first | refine ok_isB ?_ | refine ok_notB ?_ | refine ok_plusI ?_ | refine ok_sub ?_ | refine ok_lt ?_ | refine ok_le ?_ | refine ok_gt ?_ | refine ok_ge ?_ | refine ok_eqI ?_ | refine ok_neI ?_ | refine ok_mod (by first | assumption | decide | omega) ?_ | refine ok_ixL (by with_unfolding_all exact rfl) ?_)
  | (with_reducible show CbK _ _ _ _; with_reducible first | refine ck_lenL ?_ | refine ck_lenT ?_ | refine ck_int ?_ | refine ck_intB ?_ | refine ck_max ?_ | refine ck_min ?_ | refine ck_list ?_)
  | with_reducible refine wq_of ?_
  | (with_reducible show WG _ _ _ _ _; with_reducible first | refine wg_name (by with_unfolding_all exact rfl) ?_ | refine wg_tup (by with_unfolding_all exact rfl) ?_ | refine wg_set (by with_unfolding_all exact rfl) ?_)
  | (with_reducible show WGs _ _ _ _ _; with_reducible first | refine wgs_cons ?_ | refine wgs_nil ?_)
  | (with_reducible show WO _ _ _; with_reducible first | refine wo_some ?_ | refine wo_none ?_)
  | refine ⟨_, argD5, ?_⟩
  | refine ⟨_, argD6, ?_⟩
  | refine ⟨_, argD7, ?_⟩
  | refine ⟨_, argD9, ?_⟩
  | with_reducible refine iteT ?_
  | with_reducible refine iteF ?_
  | with_reducible refine ⟨_, frz_per, ?_⟩
  | with_reducible refine ⟨_, frz_own, ?_⟩
  | refine ⟨_, rfl, ?_⟩
  | refine ⟨_, argD1, ?_⟩
  | refine ⟨_, argD2, ?_⟩
  | refine ⟨_, argD0, ?_⟩
  | refine ⟨_, argD3, ?_⟩
  | refine ⟨_, argD4, ?_⟩
  | refine ⟨_, _, rfl, rfl, rfl, ?_⟩
  | refine ⟨_, _, _, rfl, rfl, rfl, ?_⟩
  | refine ⟨(by simp only [List.length_cons, List.length_nil]; decide), ?_⟩
  | refine ⟨rfl, nd1, ?_⟩
  | refine ⟨rfl, nd0, ?_⟩)
local macro_rules | `(tactic| walk_at "g3") => `(tactic| first | with_reducible refine we_dnew ?_ | with_reducible refine ck_tuple ?_ | with_reducible refine we_repr ?_ | with_reducible refine we_lenSetI ?_ | with_reducible refine we_revL ?_ | with_reducible refine wt_truL ?_ | walk_at "g2")
theorem webF_no {n : Nat} {ts : List (Int × Int)} {m : Str} (h1 : ("_ties" : Str) ≠ m) (h2 : ("_near" : Str) ≠ m) : lookD m (webF n ts) = none := by
  show (if ("_ties" : Str) = m then _ else if ("_near" : Str) = m then _ else none) = none
  rw [if_neg h1, if_neg h2]
end G

namespace G
open PySem L2
local macro_rules | `(tactic| walk_at "g1") => `(tactic| first
  | (with_reducible show WE _ _ _; with_reducible first | refine we_var (by with_unfolding_all exact rfl) ?_ | (show WE (tOp _ _ _) _ _; first | refine we_ixS (by with_unfolding_all exact rfl) ?_ | refine we_ixScr (by with_unfolding_all exact rfl) ?_ | refine we_inS (by with_unfolding_all exact rfl) ?_ | refine we_notInS (by with_unfolding_all exact rfl) ?_ | refine we_eqS (by with_unfolding_all exact rfl) ?_ | refine we_neS (by with_unfolding_all exact rfl) ?_ | refine we_opK ?_) | (show WE (tCB _ _) _ _; first | refine we_lenS' (by with_unfolding_all exact rfl) ?_ | refine we_lenScr (by with_unfolding_all exact rfl) ?_ | refine we_cbK ?_) | refine we_int ?_ | refine we_bl ?_ | refine we_non ?_ | refine we_str ?_ | refine we_neg ?_ | refine we_not ?_ | refine we_and ?_ | refine we_or ?_ | refine we_if ?_ | refine we_tup ?_ | refine we_lst ?_ | refine we_call ?_ | refine we_mt (by with_unfolding_all exact rfl) ?_)
  | (with_reducible show WS _ _ _ _; with_reducible first | refine ws_seqA ?_ | refine ws_seqD ?_ | refine ws_asg (by with_unfolding_all exact rfl) ?_ | refine ws_asgG ?_ | refine ws_if ?_ | refine ws_ret ?_ | refine ws_drop ?_ | refine ws_next ?_ | refine ws_retN ?_)
  | (with_reducible show WT _ _ _; with_reducible first | refine wt_test ?_ | refine wt_B ?_ | refine wt_not ?_ | refine wt_and ?_ | refine wt_or ?_ | refine wt_yes ?_)
  | (with_reducible show WA _ _ _; with_reducible first | refine wa_nil ?_ | refine wa_cons (wq_of (we_var (by with_unfolding_all exact rfl) ?_)) | refine wa_slotU (by with_unfolding_all exact rfl) ?_ | refine wa_cons ?_)
  | (with_reducible show OpK _ _ _ _ _; with_reducible first | refine ok_plusI ?_ | refine ok_sub ?_ | refine ok_lt ?_ | refine ok_le ?_ | refine ok_gt ?_ | refine ok_ge ?_ | refine ok_eqI ?_ | refine ok_neI ?_ | refine ok_mod (by first | assumption | decide | omega) ?_ | refine ok_ixL (by with_unfolding_all exact rfl) ?_)
  | (with_reducible show CbK _ _ _ _; with_reducible first | refine ck_lenL ?_ | refine ck_lenT ?_ | refine ck_int ?_ | refine ck_intB ?_ | refine ck_max ?_ | refine ck_min ?_ | refine ck_list ?_)
  | with_reducible refine wq_of ?_
  | (with_reducible show WG _ _ _ _ _; with_reducible first | refine wg_name (by with_unfolding_all exact rfl) ?_ | refine wg_tup (by with_unfolding_all exact rfl) ?_ | refine wg_set (by with_unfolding_all exact rfl) ?_)
  | (with_reducible show WGs _ _ _ _ _; with_reducible first | refine wgs_cons ?_ | refine wgs_nil ?_)
  | with_reducible refine iteT ?_
  | with_reducible refine iteF ?_
  | with_reducible refine ⟨_, frz_per, ?_⟩
  | with_reducible refine ⟨_, frz_own, ?_⟩
  | refine ⟨_, rfl, ?_⟩
  | refine ⟨_, argD1, ?_⟩
  | refine ⟨_, argD2, ?_⟩
  | refine ⟨_, argD0, ?_⟩
  | refine ⟨_, argD3, ?_⟩
  | refine ⟨_, argD4, ?_⟩
  | refine ⟨_, _, rfl, rfl, rfl, ?_⟩
  | refine ⟨_, _, _, rfl, rfl, rfl, ?_⟩
  | refine ⟨(by simp only [List.length_cons, List.length_nil]; decide), ?_⟩
  | refine ⟨rfl, nd1, ?_⟩
  | refine ⟨rfl, nd0, ?_⟩)
local macro_rules | `(tactic| walk_at "go") => `(tactic| repeat walk_at "g1")
local macro_rules | `(tactic| walk_at "g2") => `(tactic| first
  | (with_reducible show WE _ _ _; with_reducible first | refine we_var (by with_unfolding_all exact rfl) ?_ | (show WE (tOp _ _ _) _ _; first | refine we_notN ?_ | refine we_ixS (by with_unfolding_all exact rfl) ?_ | refine we_ixScr (by with_unfolding_all exact rfl) ?_ | refine we_inS (by with_unfolding_all exact rfl) ?_ | refine we_notInS (by with_unfolding_all exact rfl) ?_ | refine we_eqS (by with_unfolding_all exact rfl) ?_ | refine we_neS (by with_unfolding_all exact rfl) ?_ | refine we_opK ?_) | (show WE (tCB _ _) _ _; first | refine we_isInt ?_ | refine we_isBl ?_ | refine we_isLst ?_ | refine we_isTup ?_ | refine we_lenO (by with_unfolding_all exact rfl) ?_ | refine we_lenS' (by with_unfolding_all exact rfl) ?_ | refine we_lenScr (by with_unfolding_all exact rfl) ?_ | refine we_cbK ?_) | refine we_chain ?_ | refine we_slice ?_ | refine we_int ?_ | refine we_bl ?_ | refine we_non ?_ | refine we_str ?_ | refine we_neg ?_ | refine we_not ?_ | refine we_and ?_ | refine we_or ?_ | refine we_if ?_ | refine we_tup ?_ | refine we_lst ?_ | refine we_call ?_ | refine we_mt (by with_unfolding_all exact rfl) ?_)
  | (with_reducible show WS _ _ _ _; with_reducible first | refine ws_seqA ?_ | refine ws_seqD ?_ | refine ws_asg (by with_unfolding_all exact rfl) ?_ | refine ws_asgG ?_ | refine ws_if ?_ | refine ws_ret ?_ | refine ws_drop ?_ | refine ws_next ?_ | refine ws_retN ?_)
  | (with_reducible show WT _ _ _; with_reducible first | refine wt_test ?_ | refine wt_B ?_ | refine wt_not ?_ | refine wt_and ?_ | refine wt_or ?_ | refine wt_yes ?_)
  | (with_reducible show WA _ _ _; with_reducible first | refine wa_nil ?_ | refine wa_cons (wq_of (we_var (by with_unfolding_all exact rfl) ?_)) | refine wa_slotU (by with_unfolding_all exact rfl) ?_ | refine wa_cons ?_)
  | (with_reducible show OpK _ _ _ _ _; with_reducible first | refine ok_isB ?_ | refine ok_notB ?_ | refine ok_plusI ?_ | refine ok_sub ?_ | refine ok_lt ?_ | refine ok_le ?_ | refine ok_gt ?_ | refine ok_ge ?_ | refine ok_eqI ?_ | refine ok_neI ?_ | refine ok_mod (by first | assumption | decide | omega) ?_ | refine ok_ixL (by with_unfolding_all exact rfl) ?_)
  | (with_reducible show CbK _ _ _ _; with_reducible first | refine ck_lenL ?_ | refine ck_lenT ?_ | refine ck_int ?_ | refine ck_intB ?_ | refine ck_max ?_ | refine ck_min ?_ | refine ck_list ?_)
  | with_reducible refine wq_of ?_
  | (with_reducible show WG _ _ _ _ _; with_reducible first | refine wg_name (by with_unfolding_all exact rfl) ?_ | refine wg_tup (by with_unfolding_all exact rfl) ?_ | refine wg_set (by with_unfolding_all exact rfl) ?_)
  | (with_reducible show WGs _ _ _ _ _; with_reducible first | refine wgs_cons ?_ | refine wgs_nil ?_)
  | (with_reducible show WO _ _ _; with_reducible first | refine wo_some ?_ | refine wo_none ?_)
  | refine ⟨_, argD5, ?_⟩
  | refine ⟨_, argD6, ?_⟩
  | refine ⟨_, argD7, ?_⟩
  | refine ⟨_, argD9, ?_⟩
  | with_reducible refine iteT ?_
  | with_reducible refine iteF ?_
  | with_reducible refine ⟨_, frz_per, ?_⟩
  | with_reducible refine ⟨_, frz_own, ?_⟩
  | refine ⟨_, rfl, ?_⟩
  | refine ⟨_, argD1, ?_⟩
  | refine ⟨_, argD2, ?_⟩
  | refine ⟨_, argD0, ?_⟩
  | refine ⟨_, argD3, ?_⟩
  | refine ⟨_, argD4, ?_⟩
  | refine ⟨_, _, rfl, rfl, rfl, ?_⟩
  | refine ⟨_, _, _, rfl, rfl, rfl, ?_⟩
  | refine ⟨(by simp only [List.length_cons, List.length_nil]; decide), ?_⟩
  | refine ⟨rfl, nd1, ?_⟩
  | refine ⟨rfl, nd0, ?_⟩)
local macro_rules | `(tactic| walk_at "g3") => `(tactic| first | with_reducible refine we_dnew ?_ | with_reducible refine ck_tuple ?_ | with_reducible refine we_repr ?_ | with_reducible refine we_lenSetI ?_ | with_reducible refine we_revL ?_ | with_reducible refine wt_truL ?_ | walk_at "g2")
abbrev t_Web_neighbours_0 (K : PySem.W.Frag) (a : Ad) (E : XK) : TS :=
  (tSeq (tIfS (tOr (tNot (tB (tCall (sp_is_count K) [] E0 (tCons (tVar 1) tNil)))) (tTest (tOp (rGeI) (tVar 1) (tCB (rLenA K) (tCons (tFld K (tVar 0) "_near") tNil))))) (tRaise E (.ref a.C_InvalidPlace)) tNext)
    (tRet (tCB (rListOf K) (tCons (tOp (rIx K) (tFld K (tVar 0) "_near") (tVar 1)) tNil))))
def t_Web_neighbours (K : PySem.W.Frag) (a : Ad) (E : XK) : TS :=
  (t_Web_neighbours_0 K a E)
abbrev N_Web_neighbours : List Str := ["self", "place"]
def placeB (n : Nat) : PyData → Bool
  | .int i => decide (0 ≤ i) && decide (i < n)
  | _ => false
abbrev F_Web_neighbours (a : Ad) : Fw := fun gs kk xx => ∃ (n : Nat) (ts : List (Int × Int)) (d : PyData), gs = [per (objP a.C_Web (webF n ts)), dat d] ∧ n < 100000 ∧ Valid n ts ∧
  (∀ w : Nat, d = .int w → w < n → kk (own ((nb ts w).map .int)) [none, none]) ∧ (placeB n d = false → xx (.ref a.C_InvalidPlace) [none, none])
abbrev sp_Web_neighbours (K : PySem.W.Frag) (a : Ad) : Sp := SpG 2 (F_Web_neighbours a)
theorem pure_Web_neighbours {K : PySem.W.Frag} {a : Ad} (c : Clf K a) {vs : List V} {H : Hp} {Q : VK} {E : XK} (h : sp_Web_neighbours K a vs H Q E) : t_Web_neighbours K a E { nx := fun _ H' => Q .non H', rt := Q } (start N_Web_neighbours vs) H := by
  refine body_okX (fun _ => false) ?_ h
  rintro gs kk xx ⟨n, ts, d, rfl, hn, hv, hk, hx⟩ -
  unfold t_Web_neighbours
  have hnl : ((nearL n ts).map PyData.list).length = n := by rw [List.length_map, nearL_len]
  have hnr : (nearL n ts).map PyData.list = (nearC n ts).map rowI := by
    rw [nearL_eq ts hv]
    unfold rowsD rowI
    rw [List.map_map]
    rfl
  refine wsx_seq (wsx_if ?_)
  repeat walk_at "g3"
  cases hc : cntD d with
  | false =>
    refine iteT (iteT (wsx_raise ⟨[none, none], les_none (les_none les_nil), hx ?_⟩))
    cases d with
    | int i =>
      have : ¬ 0 ≤ i := of_decide_eq_false hc
      show (decide (0 ≤ i) && decide (i < n)) = false
      rw [decide_eq_false this, Bool.false_and]
    | _ => rfl
  | true =>
    obtain ⟨w, rfl⟩ : ∃ w : Nat, d = .int w := by
      cases d <;> first | exact Bool.noConfusion hc | skip
      rename_i i
      exact ⟨i.toNat, by rw [Int.toNat_of_nonneg (of_decide_eq_true hc)]⟩
    refine iteF ?_
    repeat walk_at "g3"
    refine we_fldP c.cl_Web c.nN rfl webF_near ?_
    repeat walk_at "g3"
    rw [hnl]
    refine ite_dec (fun h => ?_) fun h => ?_
    · refine wsx_raise ⟨[none, none], les_none (les_none les_nil), hx ?_⟩
      show (decide (0 ≤ (w : Int)) && decide ((w : Int) < n)) = false
      rw [decide_eq_false (by omega : ¬ (w : Int) < n), Bool.and_false]
    · refine wsx_of (ws_next (wsx_of ?_))
      repeat walk_at "g3"
      refine we_fldP c.cl_Web c.nN rfl webF_near ?_
      repeat walk_at "g3"
      rw [hnr]
      refine ok_ixL (atI_in (by omega) (d := .list ((nb ts w).map .int)) (by rw [List.getElem?_map, Int.toNat_natCast, nearC_at (by omega)]; rfl)) ?_
      repeat walk_at "g3"
      exact ⟨_, [none, none], Ent.refl, les_none (les_none les_nil), hk w rfl (by omega)⟩
end G

namespace G
open PySem L2
local macro_rules | `(tactic| walk_at "g1") => `(tactic| first
  | (with_reducible show WE _ _ _; with_reducible first | refine we_var (by with_unfolding_all exact rfl) ?_ | (show WE (tOp _ _ _) _ _; first | refine we_ixS (by with_unfolding_all exact rfl) ?_ | refine we_ixScr (by with_unfolding_all exact rfl) ?_ | refine we_inS (by with_unfolding_all exact rfl) ?_ | refine we_notInS (by with_unfolding_all exact rfl) ?_ | refine we_eqS (by with_unfolding_all exact rfl) ?_ | refine we_neS (by with_unfolding_all exact rfl) ?_ | refine we_opK ?_) | (show WE (tCB _ _) _ _; first | refine we_lenS' (by with_unfolding_all exact rfl) ?_ | refine we_lenScr (by with_unfolding_all exact rfl) ?_ | refine we_cbK ?_) | refine we_int ?_ | refine we_bl ?_ | refine we_non ?_ | refine we_str ?_ | refine we_neg ?_ | refine we_not ?_ | refine we_and ?_ | refine we_or ?_ | refine we_if ?_ | refine we_tup ?_ | refine we_lst ?_ | refine we_call ?_ | refine we_mt (by with_unfolding_all exact rfl) ?_)
  | (with_reducible show WS _ _ _ _; with_reducible first | refine ws_seqA ?_ | refine ws_seqD ?_ | refine ws_asg (by with_unfolding_all exact rfl) ?_ | refine ws_asgG ?_ | refine ws_if ?_ | refine ws_ret ?_ | refine ws_drop ?_ | refine ws_next ?_ | refine ws_retN ?_)
  | (with_reducible show WT _ _ _; with_reducible first | refine wt_test ?_ | refine wt_B ?_ | refine wt_not ?_ | refine wt_and ?_ | refine wt_or ?_ | refine wt_yes ?_)
  | (with_reducible show WA _ _ _; with_reducible first | refine wa_nil ?_ | refine wa_cons (wq_of (we_var (by with_unfolding_all exact rfl) ?_)) | refine wa_slotU (by with_unfolding_all exact rfl) ?_ | refine wa_cons ?_)
  | (with_reducible show OpK _ _ _ _ _; with_reducible first | refine ok_plusI ?_ | refine ok_sub ?_ | refine ok_lt ?_ | refine ok_le ?_ | refine ok_gt ?_ | refine ok_ge ?_ | refine ok_eqI ?_ | refine ok_neI ?_ | refine ok_mod (by first | assumption | decide | omega) ?_ | refine ok_ixL (by with_unfolding_all exact rfl) ?_)
  | (with_reducible show CbK _ _ _ _; with_reducible first | refine ck_lenL ?_ | refine ck_lenT ?_ | refine ck_int ?_ | refine ck_intB ?_ | refine ck_max ?_ | refine ck_min ?_ | refine ck_list ?_)
  | with_reducible refine wq_of ?_
  | (with_reducible show WG _ _ _ _ _; with_reducible first | refine wg_name (by with_unfolding_all exact rfl) ?_ | refine wg_tup (by with_unfolding_all exact rfl) ?_ | refine wg_set (by with_unfolding_all exact rfl) ?_)
  | (with_reducible show WGs _ _ _ _ _; with_reducible first | refine wgs_cons ?_ | refine wgs_nil ?_)
  | with_reducible refine iteT ?_
  | with_reducible refine iteF ?_
  | with_reducible refine ⟨_, frz_per, ?_⟩
  | with_reducible refine ⟨_, frz_own, ?_⟩
  | refine ⟨_, rfl, ?_⟩
  | refine ⟨_, argD1, ?_⟩
  | refine ⟨_, argD2, ?_⟩
  | refine ⟨_, argD0, ?_⟩
  | refine ⟨_, argD3, ?_⟩
  | refine ⟨_, argD4, ?_⟩
  | refine ⟨_, _, rfl, rfl, rfl, ?_⟩
  | refine ⟨_, _, _, rfl, rfl, rfl, ?_⟩
  | refine ⟨(by simp only [List.length_cons, List.length_nil]; decide), ?_⟩
  | refine ⟨rfl, nd1, ?_⟩
  | refine ⟨rfl, nd0, ?_⟩)
local macro_rules | `(tactic| walk_at "go") => `(tactic| repeat walk_at "g1")
local macro_rules | `(tactic| walk_at "g2") => `(tactic| first
  | (with_reducible show WE _ _ _; with_reducible first | refine we_var (by with_unfolding_all exact rfl) ?_ | (show WE (tOp _ _ _) _ _; first | refine we_notN ?_ | refine we_ixS (by with_unfolding_all exact rfl) ?_ | refine we_ixScr (by with_unfolding_all exact rfl) ?_ | refine we_inS (by with_unfolding_all exact rfl) ?_ | refine we_notInS (by with_unfolding_all exact rfl) ?_ | refine we_eqS (by with_unfolding_all exact rfl) ?_ | refine we_neS (by with_unfolding_all exact rfl) ?_ | refine we_opK ?_) | (show WE (tCB _ _) _ _; first | refine we_isInt ?_ | refine we_isBl ?_ | refine we_isLst ?_ | refine we_isTup ?_ | refine we_lenO (by with_unfolding_all exact rfl) ?_ | refine we_lenS' (by with_unfolding_all exact rfl) ?_ | refine we_lenScr (by with_unfolding_all exact rfl) ?_ | refine we_cbK ?_) | refine we_chain ?_ | refine we_slice ?_ | refine we_int ?_ | refine we_bl ?_ | refine we_non ?_ | refine we_str ?_ | refine we_neg ?_ | refine we_not ?_ | refine we_and ?_ | refine we_or ?_ | refine we_if ?_ | refine we_tup ?_ | refine we_lst ?_ | refine we_call ?_ | refine we_mt (by with_unfolding_all exact rfl) ?_)
  | (with_reducible show WS _ _ _ _; with_reducible first | refine ws_seqA ?_ | refine ws_seqD ?_ | refine ws_asg (by with_unfolding_all exact rfl) ?_ | refine ws_asgG ?_ | refine ws_if ?_ | refine ws_ret ?_ | refine ws_drop ?_ | refine ws_next ?_ | refine ws_retN ?_)
  | (with_reducible show WT _ _ _; with_reducible first | refine wt_test ?_ | refine wt_B ?_ | refine wt_not ?_ | refine wt_and ?_ | refine wt_or ?_ | refine wt_yes ?_)
  | (with_reducible show WA _ _ _; with_reducible first | refine wa_nil ?_ | refine wa_cons (wq_of (we_var (by with_unfolding_all exact rfl) ?_)) | refine wa_slotU (by with_unfolding_all exact rfl) ?_ | refine wa_cons ?_)
  | (with_reducible show OpK _ _ _ _ _; with_reducible first | refine ok_isB ?_ | refine ok_notB ?_ | refine ok_plusI ?_ | refine ok_sub ?_ | refine ok_lt ?_ | refine ok_le ?_ | refine ok_gt ?_ | refine ok_ge ?_ | refine ok_eqI ?_ | refine ok_neI ?_ | refine ok_mod (by first | assumption | decide | omega) ?_ | refine ok_ixL (by with_unfolding_all exact rfl) ?_)
  | (with_reducible show CbK _ _ _ _; with_reducible first | refine ck_lenL ?_ | refine ck_lenT ?_ | refine ck_int ?_ | refine ck_intB ?_ | refine ck_max ?_ | refine ck_min ?_ | refine ck_list ?_)
  | with_reducible refine wq_of ?_
  | (with_reducible show WG _ _ _ _ _; with_reducible first | refine wg_name (by with_unfolding_all exact rfl) ?_ | refine wg_tup (by with_unfolding_all exact rfl) ?_ | refine wg_set (by with_unfolding_all exact rfl) ?_)
  | (with_reducible show WGs _ _ _ _ _; with_reducible first | refine wgs_cons ?_ | refine wgs_nil ?_)
  | (with_reducible show WO _ _ _; with_reducible first | refine wo_some ?_ | refine wo_none ?_)
  | refine ⟨_, argD5, ?_⟩
  | refine ⟨_, argD6, ?_⟩
  | refine ⟨_, argD7, ?_⟩
  | refine ⟨_, argD9, ?_⟩
  | with_reducible refine iteT ?_
  | with_reducible refine iteF ?_
  | with_reducible refine ⟨_, frz_per, ?_⟩
  | with_reducible refine ⟨_, frz_own, ?_⟩
  | refine ⟨_, rfl, ?_⟩
  | refine ⟨_, argD1, ?_⟩
  | refine ⟨_, argD2, ?_⟩
  | refine ⟨_, argD0, ?_⟩
  | refine ⟨_, argD3, ?_⟩
  | refine ⟨_, argD4, ?_⟩
  | refine ⟨_, _, rfl, rfl, rfl, ?_⟩
  | refine ⟨_, _, _, rfl, rfl, rfl, ?_⟩
  | refine ⟨(by simp only [List.length_cons, List.length_nil]; decide), ?_⟩
  | refine ⟨rfl, nd1, ?_⟩
  | refine ⟨rfl, nd0, ?_⟩)
local macro_rules | `(tactic| walk_at "w") => `(tactic| first
  | (with_reducible show WE _ _ _; with_reducible first | refine we_var (by with_unfolding_all exact rfl) ?_ | refine we_varF (by with_unfolding_all exact rfl) frz_own ?_ | (show WE (tOp _ _ _) _ _; first | refine we_isNd ?_ | refine we_notNd ?_ | refine we_notN ?_ | refine we_ixS (by with_unfolding_all exact rfl) ?_ | refine we_ixScr (by with_unfolding_all exact rfl) ?_ | refine we_inS (by with_unfolding_all exact rfl) ?_ | refine we_notInS (by with_unfolding_all exact rfl) ?_ | refine we_eqS (by with_unfolding_all exact rfl) ?_ | refine we_neS (by with_unfolding_all exact rfl) ?_ | refine we_opK ?_) | (show WE (tCB _ _) _ _; first | refine we_repr ?_ | refine we_isInt ?_ | refine we_isBl ?_ | refine we_isLst ?_ | refine we_isTup ?_ | refine we_lenO (by with_unfolding_all exact rfl) ?_ | refine we_lenS' (by with_unfolding_all exact rfl) ?_ | refine we_lenScr (by with_unfolding_all exact rfl) ?_ | refine we_cbK ?_) | refine we_dnew ?_ | refine we_lenSetI ?_ | refine we_revL ?_ | refine we_chain ?_ | refine we_slice ?_ | refine we_int ?_ | refine we_bl ?_ | refine we_non ?_ | refine we_str ?_ | refine we_neg ?_ | refine we_not ?_ | refine we_and ?_ | refine we_or ?_ | refine we_if ?_ | refine we_tup ?_ | refine we_lst ?_ | refine we_call ?_ | refine we_mt (by with_unfolding_all exact rfl) ?_)
  | (with_reducible show WS _ _ _ _; with_reducible first | refine ws_seqI ?_ | refine ws_seqA ?_ | refine ws_seqD ?_ | refine ws_asg (by with_unfolding_all exact rfl) ?_ | refine ws_asgG ?_ | refine ws_if ?_ | refine ws_ret ?_ | refine ws_drop ?_ | refine ws_next ?_ | refine ws_retN ?_)
  | (with_reducible show WT _ _ _; with_reducible first | refine wt_truL ?_ | refine wt_test ?_ | refine wt_B ?_ | refine wt_not ?_ | refine wt_and ?_ | refine wt_or ?_ | refine wt_yes ?_)
  | (with_reducible show WA _ _ _; with_reducible first | refine wa_nil ?_ | refine wa_cons (wq_of (we_var (by with_unfolding_all exact rfl) ?_)) | refine wa_slotU (by with_unfolding_all exact rfl) ?_ | refine wa_cons ?_)
  | (with_reducible show OpK _ _ _ _ _; with_reducible first | refine ok_neR ?_ | refine ok_eqR ?_ | refine ok_isB ?_ | refine ok_notB ?_ | refine ok_plusI ?_ | refine ok_sub ?_ | refine ok_lt ?_ | refine ok_le ?_ | refine ok_gt ?_ | refine ok_ge ?_ | refine ok_eqI ?_ | refine ok_neI ?_ | refine ok_mod (by first | assumption | decide | omega) ?_ | refine ok_ixL (by with_unfolding_all exact rfl) ?_)
  | (with_reducible show CbK _ _ _ _; with_reducible first | refine ck_tuple ?_ | refine ck_allF ?_ | refine ck_anyF ?_ | refine ck_abs ?_ | refine ck_sumI ?_ | refine ck_lenL ?_ | refine ck_lenT ?_ | refine ck_int ?_ | refine ck_intB ?_ | refine ck_max ?_ | refine ck_min ?_ | refine ck_list ?_)
  | with_reducible refine wq_of ?_
  | (with_reducible show WG _ _ _ _ _; with_reducible first | refine wg_name (by with_unfolding_all exact rfl) ?_ | refine wg_tup (by with_unfolding_all exact rfl) ?_ | refine wg_set (by with_unfolding_all exact rfl) ?_)
  | (with_reducible show WGs _ _ _ _ _; with_reducible first | refine wgs_cons ?_ | refine wgs_nil ?_)
  | (with_reducible show WO _ _ _; with_reducible first | refine wo_some ?_ | refine wo_none ?_)
  | refine ⟨_, argD5, ?_⟩
  | refine ⟨_, argD6, ?_⟩
  | refine ⟨_, argD7, ?_⟩
  | refine ⟨_, argD9, ?_⟩
  | with_reducible refine iteT ?_
  | with_reducible refine iteF ?_
  | with_reducible refine ⟨_, frz_per, ?_⟩
  | with_reducible refine ⟨_, frz_own, ?_⟩
  | refine ⟨_, rfl, ?_⟩
  | refine ⟨_, argD1, ?_⟩
  | refine ⟨_, argD2, ?_⟩
  | refine ⟨_, argD0, ?_⟩
  | refine ⟨_, argD3, ?_⟩
  | refine ⟨_, argD4, ?_⟩
  | refine ⟨_, _, rfl, rfl, rfl, ?_⟩
  | refine ⟨_, _, _, rfl, rfl, rfl, ?_⟩
  | refine ⟨(by simp only [List.length_cons, List.length_nil]; decide), ?_⟩
  | refine ⟨rfl, nd1, ?_⟩
  | refine ⟨rfl, nd0, ?_⟩
  | refine ⟨_, argD8, ?_⟩
  | refine ⟨_, argD10, ?_⟩)
/-! ### what is asked of a web, as rules -/
section
variable {K : PySem.W.Frag} {a : Ad} {Γ : Ga} {k : Gp → Ga → Prop} {tr : TA} {E : XK} {n : Nat} {ts : List (Int × Int)}
theorem we_lenWeb {i : Nat} (h : Γ[i]? = some (some (per (objP a.C_Web (webF n ts))))) (hn : n < 100000) (hk : k (dat (.int n)) Γ) : WE (tCB (rLenOwn a.C_Web (sp_Web_len_ K a) E) (tCons (tVar i) tNil)) Γ k := by
  have hnl : ((nearL n ts).map PyData.list).length = n := by rw [List.length_map, nearL_len]
  refine we_lenO h ⟨webF n ts, _, rfl, webF_near, _, rfl, by omega, by rw [hnl]; omega, ?_⟩
  rw [hnl]
  exact hk
theorem we_nbWeb {i : Nat} (h : Γ[i]? = some (some (per (objP a.C_Web (webF n ts))))) (hn : n < 100000) (hv : Valid n ts) (ha : WA tr Γ fun as Γ1 => ∃ w : Int, as = [.q (dP (.int w))] ∧ Γ1[i]? = some (some (per (objP a.C_Web (webF n ts)))) ∧ (0 ≤ w ∧ w < n) ∧ k (own ((nb ts w).map .int)) Γ1) :
    WE (tMeth a.C_Web "neighbours" (sp_Web_neighbours K a) [] E (tVar i) tr) Γ k := by
  refine we_meth h (webF_no (by decide +kernel) (by decide +kernel)) (ha.imp fun as Γ1 ⟨w, e, hi, ⟨h0, h1⟩, hk⟩ => ?_)
  subst e
  refine ⟨hi, rfl, rfl, n, ts, .int w, rfl, hn, hv, fun w' e hw => ?_, fun hb => ?_⟩
  · cases e
    exact hk
  · have : (decide (0 ≤ w) && decide (w < (n : Int))) = false := hb
    rw [decide_eq_true h0, decide_eq_true h1] at this
    cases this
theorem we_tiesWeb {i : Nat} (h : Γ[i]? = some (some (per (objP a.C_Web (webF n ts))))) (hk : k (own (ts.map tieD)) Γ) : WE (tProp a.C_Web (sp_Web_ties K a) [] E (tVar i)) Γ k :=
  we_prop h ⟨_, _, rfl, webF_ties, hk⟩
end
end G

namespace G
open PySem L2
local macro_rules | `(tactic| walk_at "g1") => `(tactic| first
  | (with_reducible show WE _ _ _; with_reducible first | refine we_var (by with_unfolding_all exact rfl) ?_ | (show WE (tOp _ _ _) _ _; first | refine we_ixS (by with_unfolding_all exact rfl) ?_ | refine we_ixScr (by with_unfolding_all exact rfl) ?_ | refine we_inS (by with_unfolding_all exact rfl) ?_ | refine we_notInS (by with_unfolding_all exact rfl) ?_ | refine we_eqS (by with_unfolding_all exact rfl) ?_ | refine we_neS (by with_unfolding_all exact rfl) ?_ | refine we_opK ?_) | (show WE (tCB _ _) _ _; first | refine we_lenS' (by with_unfolding_all exact rfl) ?_ | refine we_lenScr (by with_unfolding_all exact rfl) ?_ | refine we_cbK ?_) | refine we_int ?_ | refine we_bl ?_ | refine we_non ?_ | refine we_str ?_ | refine we_neg ?_ | refine we_not ?_ | refine we_and ?_ | refine we_or ?_ | refine we_if ?_ | refine we_tup ?_ | refine we_lst ?_ | refine we_call ?_ | refine we_mt (by with_unfolding_all exact rfl) ?_)
  | (with_reducible show WS _ _ _ _; with_reducible first | refine ws_seqA ?_ | refine ws_seqD ?_ | refine ws_asg (by with_unfolding_all exact rfl) ?_ | refine ws_asgG ?_ | refine ws_if ?_ | refine ws_ret ?_ | refine ws_drop ?_ | refine ws_next ?_ | refine ws_retN ?_)
  | (with_reducible show WT _ _ _; with_reducible first | refine wt_test ?_ | refine wt_B ?_ | refine wt_not ?_ | refine wt_and ?_ | refine wt_or ?_ | refine wt_yes ?_)
  | (with_reducible show WA _ _ _; with_reducible first | refine wa_nil ?_ | refine wa_cons (wq_of (we_var (by with_unfolding_all exact rfl) ?_)) | refine wa_slotU (by with_unfolding_all exact rfl) ?_ | refine wa_cons ?_)
  | (with_reducible show OpK _ _ _ _ _; with_reducible first | refine ok_plusI ?_ | refine ok_sub ?_ | refine ok_lt ?_ | refine ok_le ?_ | refine ok_gt ?_ | refine ok_ge ?_ | refine ok_eqI ?_ | refine ok_neI ?_ | refine ok_mod (by first | assumption | decide | omega) ?_ | refine ok_ixL (by with_unfolding_all exact rfl) ?_)
  | (with_reducible show CbK _ _ _ _; with_reducible first | refine ck_lenL ?_ | refine ck_lenT ?_ | refine ck_int ?_ | refine ck_intB ?_ | refine ck_max ?_ | refine ck_min ?_ | refine ck_list ?_)
  | with_reducible refine wq_of ?_
  | (with_reducible show WG _ _ _ _ _; with_reducible first | refine wg_name (by with_unfolding_all exact rfl) ?_ | refine wg_tup (by with_unfolding_all exact rfl) ?_ | refine wg_set (by with_unfolding_all exact rfl) ?_)
  | (with_reducible show WGs _ _ _ _ _; with_reducible first | refine wgs_cons ?_ | refine wgs_nil ?_)
  | with_reducible refine iteT ?_
  | with_reducible refine iteF ?_
  | with_reducible refine ⟨_, frz_per, ?_⟩
  | with_reducible refine ⟨_, frz_own, ?_⟩
  | refine ⟨_, rfl, ?_⟩
  | refine ⟨_, argD1, ?_⟩
  | refine ⟨_, argD2, ?_⟩
  | refine ⟨_, argD0, ?_⟩
  | refine ⟨_, argD3, ?_⟩
  | refine ⟨_, argD4, ?_⟩
  | refine ⟨_, _, rfl, rfl, rfl, ?_⟩
  | refine ⟨_, _, _, rfl, rfl, rfl, ?_⟩
  | refine ⟨(by simp only [List.length_cons, List.length_nil]; decide), ?_⟩
  | refine ⟨rfl, nd1, ?_⟩
  | refine ⟨rfl, nd0, ?_⟩)
local macro_rules | `(tactic| walk_at "go") => `(tactic| repeat walk_at "g1")
local macro_rules | `(tactic| walk_at "g2") => `(tactic| first
  | (with_reducible show WE _ _ _; with_reducible first | refine we_var (by with_unfolding_all exact rfl) ?_ | (show WE (tOp _ _ _) _ _; first | refine we_notN ?_ | refine we_ixS (by with_unfolding_all exact rfl) ?_ | refine we_ixScr (by with_unfolding_all exact rfl) ?_ | refine we_inS (by with_unfolding_all exact rfl) ?_ | refine we_notInS (by with_unfolding_all exact rfl) ?_ | refine we_eqS (by with_unfolding_all exact rfl) ?_ | refine we_neS (by with_unfolding_all exact rfl) ?_ | refine we_opK ?_) | (show WE (tCB _ _) _ _; first | refine we_isInt ?_ | refine we_isBl ?_ | refine we_isLst ?_ | refine we_isTup ?_ | refine we_lenO (by with_unfolding_all exact rfl) ?_ | refine we_lenS' (by with_unfolding_all exact rfl) ?_ | refine we_lenScr (by with_unfolding_all exact rfl) ?_ | refine we_cbK ?_) | refine we_chain ?_ | refine we_slice ?_ | refine we_int ?_ | refine we_bl ?_ | refine we_non ?_ | refine we_str ?_ | refine we_neg ?_ | refine we_not ?_ | refine we_and ?_ | refine we_or ?_ | refine we_if ?_ | refine we_tup ?_ | refine we_lst ?_ | refine we_call ?_ | refine we_mt (by with_unfolding_all exact rfl) ?_)
  | (with_reducible show WS _ _ _ _; with_reducible first | refine ws_seqA ?_ | refine ws_seqD ?_ | refine ws_asg (by with_unfolding_all exact rfl) ?_ | refine ws_asgG ?_ | refine ws_if ?_ | refine ws_ret ?_ | refine ws_drop ?_ | refine ws_next ?_ | refine ws_retN ?_)
  | (with_reducible show WT _ _ _; with_reducible first | refine wt_test ?_ | refine wt_B ?_ | refine wt_not ?_ | refine wt_and ?_ | refine wt_or ?_ | refine wt_yes ?_)
  | (with_reducible show WA _ _ _; with_reducible first | refine wa_nil ?_ | refine wa_cons (wq_of (we_var (by with_unfolding_all exact rfl) ?_)) | refine wa_slotU (by with_unfolding_all exact rfl) ?_ | refine wa_cons ?_)
  | (with_reducible show OpK _ _ _ _ _; with_reducible first | refine ok_isB ?_ | refine ok_notB ?_ | refine ok_plusI ?_ | refine ok_sub ?_ | refine ok_lt ?_ | refine ok_le ?_ | refine ok_gt ?_ | refine ok_ge ?_ | refine ok_eqI ?_ | refine ok_neI ?_ | refine ok_mod (by first | assumption | decide | omega) ?_ | refine ok_ixL (by with_unfolding_all exact rfl) ?_)
  | (with_reducible show CbK _ _ _ _; with_reducible first | refine ck_lenL ?_ | refine ck_lenT ?_ | refine ck_int ?_ | refine ck_intB ?_ | refine ck_max ?_ | refine ck_min ?_ | refine ck_list ?_)
  | with_reducible refine wq_of ?_
  | (with_reducible show WG _ _ _ _ _; with_reducible first | refine wg_name (by with_unfolding_all exact rfl) ?_ | refine wg_tup (by with_unfolding_all exact rfl) ?_ | refine wg_set (by with_unfolding_all exact rfl) ?_)
  | (with_reducible show WGs _ _ _ _ _; with_reducible first | refine wgs_cons ?_ | refine wgs_nil ?_)
  | (with_reducible show WO _ _ _; with_reducible first | refine wo_some ?_ | refine wo_none ?_)
  | refine ⟨_, argD5, ?_⟩
  | refine ⟨_, argD6, ?_⟩
  | refine ⟨_, argD7, ?_⟩
  | refine ⟨_, argD9, ?_⟩
  | with_reducible refine iteT ?_
  | with_reducible refine iteF ?_
  | with_reducible refine ⟨_, frz_per, ?_⟩
  | with_reducible refine ⟨_, frz_own, ?_⟩
  | refine ⟨_, rfl, ?_⟩
  | refine ⟨_, argD1, ?_⟩
  | refine ⟨_, argD2, ?_⟩
  | refine ⟨_, argD0, ?_⟩
  | refine ⟨_, argD3, ?_⟩
  | refine ⟨_, argD4, ?_⟩
  | refine ⟨_, _, rfl, rfl, rfl, ?_⟩
  | refine ⟨_, _, _, rfl, rfl, rfl, ?_⟩
  | refine ⟨(by simp only [List.length_cons, List.length_nil]; decide), ?_⟩
  | refine ⟨rfl, nd1, ?_⟩
  | refine ⟨rfl, nd0, ?_⟩)
local macro_rules | `(tactic| walk_at "w") => `(tactic| first
  | (with_reducible show WE _ _ _; with_reducible first | refine we_var (by with_unfolding_all exact rfl) ?_ | refine we_varF (by with_unfolding_all exact rfl) frz_own ?_ | (show WE (tOp _ _ _) _ _; first | refine we_isNd ?_ | refine we_notNd ?_ | refine we_notN ?_ | refine we_ixS (by with_unfolding_all exact rfl) ?_ | refine we_ixScr (by with_unfolding_all exact rfl) ?_ | refine we_inS (by with_unfolding_all exact rfl) ?_ | refine we_notInS (by with_unfolding_all exact rfl) ?_ | refine we_eqS (by with_unfolding_all exact rfl) ?_ | refine we_neS (by with_unfolding_all exact rfl) ?_ | refine we_opK ?_) | (show WE (tCB _ _) _ _; first | refine we_repr ?_ | refine we_isInt ?_ | refine we_isBl ?_ | refine we_isLst ?_ | refine we_isTup ?_ | refine we_lenO (by with_unfolding_all exact rfl) ?_ | refine we_lenS' (by with_unfolding_all exact rfl) ?_ | refine we_lenScr (by with_unfolding_all exact rfl) ?_ | refine we_cbK ?_) | refine we_dnew ?_ | refine we_lenSetI ?_ | refine we_revL ?_ | refine we_chain ?_ | refine we_slice ?_ | refine we_int ?_ | refine we_bl ?_ | refine we_non ?_ | refine we_str ?_ | refine we_neg ?_ | refine we_not ?_ | refine we_and ?_ | refine we_or ?_ | refine we_if ?_ | refine we_tup ?_ | refine we_lst ?_ | refine we_call ?_ | refine we_mt (by with_unfolding_all exact rfl) ?_)
  | (with_reducible show WS _ _ _ _; with_reducible first | refine ws_seqI ?_ | refine ws_seqA ?_ | refine ws_seqD ?_ | refine ws_asg (by with_unfolding_all exact rfl) ?_ | refine ws_asgG ?_ | refine ws_if ?_ | refine ws_ret ?_ | refine ws_drop ?_ | refine ws_next ?_ | refine ws_retN ?_)
  | (with_reducible show WT _ _ _; with_reducible first | refine wt_truL ?_ | refine wt_test ?_ | refine wt_B ?_ | refine wt_not ?_ | refine wt_and ?_ | refine wt_or ?_ | refine wt_yes ?_)
  | (with_reducible show WA _ _ _; with_reducible first | refine wa_nil ?_ | refine wa_cons (wq_of (we_var (by with_unfolding_all exact rfl) ?_)) | refine wa_slotU (by with_unfolding_all exact rfl) ?_ | refine wa_cons ?_)
  | (with_reducible show OpK _ _ _ _ _; with_reducible first | refine ok_neR ?_ | refine ok_eqR ?_ | refine ok_isB ?_ | refine ok_notB ?_ | refine ok_plusI ?_ | refine ok_sub ?_ | refine ok_lt ?_ | refine ok_le ?_ | refine ok_gt ?_ | refine ok_ge ?_ | refine ok_eqI ?_ | refine ok_neI ?_ | refine ok_mod (by first | assumption | decide | omega) ?_ | refine ok_ixL (by with_unfolding_all exact rfl) ?_)
  | (with_reducible show CbK _ _ _ _; with_reducible first | refine ck_tuple ?_ | refine ck_allF ?_ | refine ck_anyF ?_ | refine ck_abs ?_ | refine ck_sumI ?_ | refine ck_lenL ?_ | refine ck_lenT ?_ | refine ck_int ?_ | refine ck_intB ?_ | refine ck_max ?_ | refine ck_min ?_ | refine ck_list ?_)
  | with_reducible refine wq_of ?_
  | (with_reducible show WG _ _ _ _ _; with_reducible first | refine wg_name (by with_unfolding_all exact rfl) ?_ | refine wg_tup (by with_unfolding_all exact rfl) ?_ | refine wg_set (by with_unfolding_all exact rfl) ?_)
  | (with_reducible show WGs _ _ _ _ _; with_reducible first | refine wgs_cons ?_ | refine wgs_nil ?_)
  | (with_reducible show WO _ _ _; with_reducible first | refine wo_some ?_ | refine wo_none ?_)
  | refine ⟨_, argD5, ?_⟩
  | refine ⟨_, argD6, ?_⟩
  | refine ⟨_, argD7, ?_⟩
  | refine ⟨_, argD9, ?_⟩
  | with_reducible refine iteT ?_
  | with_reducible refine iteF ?_
  | with_reducible refine ⟨_, frz_per, ?_⟩
  | with_reducible refine ⟨_, frz_own, ?_⟩
  | refine ⟨_, rfl, ?_⟩
  | refine ⟨_, argD1, ?_⟩
  | refine ⟨_, argD2, ?_⟩
  | refine ⟨_, argD0, ?_⟩
  | refine ⟨_, argD3, ?_⟩
  | refine ⟨_, argD4, ?_⟩
  | refine ⟨_, _, rfl, rfl, rfl, ?_⟩
  | refine ⟨_, _, _, rfl, rfl, rfl, ?_⟩
  | refine ⟨(by simp only [List.length_cons, List.length_nil]; decide), ?_⟩
  | refine ⟨rfl, nd1, ?_⟩
  | refine ⟨rfl, nd0, ?_⟩
  | refine ⟨_, argD8, ?_⟩
  | refine ⟨_, argD10, ?_⟩)
local macro_rules | `(tactic| walk_at "v") => `(tactic| first
  | (with_reducible show WE _ _ _; with_reducible first | refine we_var (by with_unfolding_all exact rfl) ?_ | refine we_varF (by with_unfolding_all exact rfl) frz_own ?_ | (show WE (tOp _ _ _) _ _; first | refine we_isNd ?_ | refine we_notNd ?_ | refine we_notN ?_ | refine we_ixS (by with_unfolding_all exact rfl) ?_ | refine we_ixScr (by with_unfolding_all exact rfl) ?_ | refine we_inS (by with_unfolding_all exact rfl) ?_ | refine we_notInS (by with_unfolding_all exact rfl) ?_ | refine we_eqS (by with_unfolding_all exact rfl) ?_ | refine we_neS (by with_unfolding_all exact rfl) ?_ | refine we_opK ?_) | (show WE (tCB _ _) _ _; first | refine we_repr ?_ | refine we_lenWeb (by with_unfolding_all exact rfl) (by assumption) ?_ | refine we_isInt ?_ | refine we_isBl ?_ | refine we_isLst ?_ | refine we_isTup ?_ | refine we_lenO (by with_unfolding_all exact rfl) ?_ | refine we_lenS' (by with_unfolding_all exact rfl) ?_ | refine we_lenScr (by with_unfolding_all exact rfl) ?_ | refine we_cbK ?_) | refine we_dnew ?_ | refine we_lenSetI ?_ | refine we_revL ?_ | refine we_nbWeb (by with_unfolding_all exact rfl) (by assumption) (by assumption) ?_ | refine we_tiesWeb (by with_unfolding_all exact rfl) ?_ | refine we_chain ?_ | refine we_slice ?_ | refine we_int ?_ | refine we_bl ?_ | refine we_non ?_ | refine we_str ?_ | refine we_neg ?_ | refine we_not ?_ | refine we_and ?_ | refine we_or ?_ | refine we_if ?_ | refine we_tup ?_ | refine we_lst ?_ | refine we_call ?_ | refine we_mt (by with_unfolding_all exact rfl) ?_)
  | (with_reducible show WS _ _ _ _; with_reducible first | refine ws_seqI ?_ | refine ws_seqA ?_ | refine ws_seqD ?_ | refine ws_asg (by with_unfolding_all exact rfl) ?_ | refine ws_asgG ?_ | refine ws_if ?_ | refine ws_ret ?_ | refine ws_drop ?_ | refine ws_next ?_ | refine ws_retN ?_)
  | (with_reducible show WT _ _ _; with_reducible first | refine wt_truL ?_ | refine wt_test ?_ | refine wt_B ?_ | refine wt_not ?_ | refine wt_and ?_ | refine wt_or ?_ | refine wt_yes ?_)
  | (with_reducible show WA _ _ _; with_reducible first | refine wa_nil ?_ | refine wa_cons (wq_of (we_var (by with_unfolding_all exact rfl) ?_)) | refine wa_slotU (by with_unfolding_all exact rfl) ?_ | refine wa_cons ?_)
  | (with_reducible show OpK _ _ _ _ _; with_reducible first | refine ok_neR ?_ | refine ok_eqR ?_ | refine ok_isB ?_ | refine ok_notB ?_ | refine ok_plusI ?_ | refine ok_sub ?_ | refine ok_lt ?_ | refine ok_le ?_ | refine ok_gt ?_ | refine ok_ge ?_ | refine ok_eqI ?_ | refine ok_neI ?_ | refine ok_mod (by first | assumption | decide | omega) ?_ | refine ok_ixL (by with_unfolding_all exact rfl) ?_)
  | (with_reducible show CbK _ _ _ _; with_reducible first | refine ck_tuple ?_ | refine ck_allF ?_ | refine ck_anyF ?_ | refine ck_abs ?_ | refine ck_sumI ?_ | refine ck_lenL ?_ | refine ck_lenT ?_ | refine ck_int ?_ | refine ck_intB ?_ | refine ck_max ?_ | refine ck_min ?_ | refine ck_list ?_)
  | with_reducible refine wq_of ?_
  | (with_reducible show WG _ _ _ _ _; with_reducible first | refine wg_name (by with_unfolding_all exact rfl) ?_ | refine wg_tup (by with_unfolding_all exact rfl) ?_ | refine wg_set (by with_unfolding_all exact rfl) ?_)
  | (with_reducible show WGs _ _ _ _ _; with_reducible first | refine wgs_cons ?_ | refine wgs_nil ?_)
  | (with_reducible show WO _ _ _; with_reducible first | refine wo_some ?_ | refine wo_none ?_)
  | refine ⟨_, argD5, ?_⟩
  | refine ⟨_, argD6, ?_⟩
  | refine ⟨_, argD7, ?_⟩
  | refine ⟨_, argD9, ?_⟩
  | with_reducible refine iteT ?_
  | with_reducible refine iteF ?_
  | with_reducible refine ⟨_, frz_per, ?_⟩
  | with_reducible refine ⟨_, frz_own, ?_⟩
  | refine ⟨_, rfl, ?_⟩
  | refine ⟨_, argD1, ?_⟩
  | refine ⟨_, argD2, ?_⟩
  | refine ⟨_, argD0, ?_⟩
  | refine ⟨_, argD3, ?_⟩
  | refine ⟨_, argD4, ?_⟩
  | refine ⟨_, _, rfl, rfl, rfl, ?_⟩
  | refine ⟨_, _, _, rfl, rfl, rfl, ?_⟩
  | refine ⟨(by simp only [List.length_cons, List.length_nil]; decide), ?_⟩
  | refine ⟨rfl, nd1, ?_⟩
  | refine ⟨rfl, nd0, ?_⟩
  | refine ⟨_, argD8, ?_⟩
  | refine ⟨_, argD10, ?_⟩)
local macro_rules | `(tactic| walk_at "p") => `(tactic| refine ⟨_, _, rfl, (by omega), (by first | decide | omega), (by first | decide | omega), ?_⟩)
local macro_rules | `(tactic| walk_at "n") => `(tactic| try dsimp only [back, List.set_cons_zero, List.set_cons_succ, List.map_cons, List.map_nil, List.cons_append, List.nil_append])
local macro_rules | `(tactic| walk_at "q") => `(tactic| first | with_reducible refine ws_seqP (ws_par (by with_unfolding_all exact rfl) (by with_unfolding_all exact rfl) ?_) | refine ⟨_, _, rfl, ?_⟩ | walk_at "v")
section
variable {K : PySem.W.Frag} {a : Ad} {Γ : Ga} {k : Gp → Ga → Prop} {tr : TA} {E : XK}
end
/-- data told apart: the lists are the same -/
theorem EncOk.inj {α : Type} [DecidableEq α] {n : Nat} {enc : α → PyData} (h : EncOk n enc) {x y : α} (e : enc x = enc y) : x = y := by
  have h1 := h.eqv x y
  rw [e, h.eqv y y, decide_eq_true rfl] at h1
  exact of_decide_eq_true h1.symm
end G

namespace G
open PySem L2
local macro_rules | `(tactic| walk_at "g1") => `(tactic| first
  | (with_reducible show WE _ _ _; with_reducible first | refine we_var (by with_unfolding_all exact rfl) ?_ | (show WE (tOp _ _ _) _ _; first | refine we_ixS (by with_unfolding_all exact rfl) ?_ | refine we_ixScr (by with_unfolding_all exact rfl) ?_ | refine we_inS (by with_unfolding_all exact rfl) ?_ | refine we_notInS (by with_unfolding_all exact rfl) ?_ | refine we_eqS (by with_unfolding_all exact rfl) ?_ | refine we_neS (by with_unfolding_all exact rfl) ?_ | refine we_opK ?_) | (show WE (tCB _ _) _ _; first | refine we_lenS' (by with_unfolding_all exact rfl) ?_ | refine we_lenScr (by with_unfolding_all exact rfl) ?_ | refine we_cbK ?_) | refine we_int ?_ | refine we_bl ?_ | refine we_non ?_ | refine we_str ?_ | refine we_neg ?_ | refine we_not ?_ | refine we_and ?_ | refine we_or ?_ | refine we_if ?_ | refine we_tup ?_ | refine we_lst ?_ | refine we_call ?_ | refine we_mt (by with_unfolding_all exact rfl) ?_)
  | (with_reducible show WS _ _ _ _; with_reducible first | refine ws_seqA ?_ | refine ws_seqD ?_ | refine ws_asg (by with_unfolding_all exact rfl) ?_ | refine ws_asgG ?_ | refine ws_if ?_ | refine ws_ret ?_ | refine ws_drop ?_ | refine ws_next ?_ | refine ws_retN ?_)
  | (with_reducible show WT _ _ _; with_reducible first | refine wt_test ?_ | refine wt_B ?_ | refine wt_not ?_ | refine wt_and ?_ | refine wt_or ?_ | refine wt_yes ?_)
  | (with_reducible show WA _ _ _; with_reducible first | refine wa_nil ?_ | refine wa_cons (wq_of (we_var (by with_unfolding_all exact rfl) ?_)) | refine wa_slotU (by with_unfolding_all exact rfl) ?_ | refine wa_cons ?_)
  | (with_reducible show OpK _ _ _ _ _; with_reducible first | refine ok_plusI ?_ | refine ok_sub ?_ | refine ok_lt ?_ | refine ok_le ?_ | refine ok_gt ?_ | refine ok_ge ?_ | refine ok_eqI ?_ | refine ok_neI ?_ | refine ok_mod (by first | assumption | decide | omega) ?_ | refine ok_ixL (by with_unfolding_all exact rfl) ?_)
  | (with_reducible show CbK _ _ _ _; with_reducible first | refine ck_lenL ?_ | refine ck_lenT ?_ | refine ck_int ?_ | refine ck_intB ?_ | refine ck_max ?_ | refine ck_min ?_ | refine ck_list ?_)
  | with_reducible refine wq_of ?_
  | (with_reducible show WG _ _ _ _ _; with_reducible first | refine wg_name (by with_unfolding_all exact rfl) ?_ | refine wg_tup (by with_unfolding_all exact rfl) ?_ | refine wg_set (by with_unfolding_all exact rfl) ?_)
  | (with_reducible show WGs _ _ _ _ _; with_reducible first | refine wgs_cons ?_ | refine wgs_nil ?_)
  | with_reducible refine iteT ?_
  | with_reducible refine iteF ?_
  | with_reducible refine ⟨_, frz_per, ?_⟩
  | with_reducible refine ⟨_, frz_own, ?_⟩
  | refine ⟨_, rfl, ?_⟩
  | refine ⟨_, argD1, ?_⟩
  | refine ⟨_, argD2, ?_⟩
  | refine ⟨_, argD0, ?_⟩
  | refine ⟨_, argD3, ?_⟩
  | refine ⟨_, argD4, ?_⟩
  | refine ⟨_, _, rfl, rfl, rfl, ?_⟩
  | refine ⟨_, _, _, rfl, rfl, rfl, ?_⟩
  | refine ⟨(by simp only [List.length_cons, List.length_nil]; decide), ?_⟩
  | refine ⟨rfl, nd1, ?_⟩
  | refine ⟨rfl, nd0, ?_⟩)
local macro_rules | `(tactic| walk_at "go") => `(tactic| repeat walk_at "g1")
local macro_rules | `(tactic| walk_at "g2") => `(tactic| first
  | (with_reducible show WE _ _ _; with_reducible first | refine we_var (by with_unfolding_all exact rfl) ?_ | (show WE (tOp _ _ _) _ _; first | refine we_notN ?_ | refine we_ixS (by with_unfolding_all exact rfl) ?_ | refine we_ixScr (by with_unfolding_all exact rfl) ?_ | refine we_inS (by with_unfolding_all exact rfl) ?_ | refine we_notInS (by with_unfolding_all exact rfl) ?_ | refine we_eqS (by with_unfolding_all exact rfl) ?_ | refine we_neS (by with_unfolding_all exact rfl) ?_ | refine we_opK ?_) | (show WE (tCB _ _) _ _; first | refine we_isInt ?_ | refine we_isBl ?_ | refine we_isLst ?_ | refine we_isTup ?_ | refine we_lenO (by with_unfolding_all exact rfl) ?_ | refine we_lenS' (by with_unfolding_all exact rfl) ?_ | refine we_lenScr (by with_unfolding_all exact rfl) ?_ | refine we_cbK ?_) | refine we_chain ?_ | refine we_slice ?_ | refine we_int ?_ | refine we_bl ?_ | refine we_non ?_ | refine we_str ?_ | refine we_neg ?_ | refine we_not ?_ | refine we_and ?_ | refine we_or ?_ | refine we_if ?_ | refine we_tup ?_ | refine we_lst ?_ | refine we_call ?_ | refine we_mt (by with_unfolding_all exact rfl) ?_)
  | (with_reducible show WS _ _ _ _; with_reducible first | refine ws_seqA ?_ | refine ws_seqD ?_ | refine ws_asg (by with_unfolding_all exact rfl) ?_ | refine ws_asgG ?_ | refine ws_if ?_ | refine ws_ret ?_ | refine ws_drop ?_ | refine ws_next ?_ | refine ws_retN ?_)
  | (with_reducible show WT _ _ _; with_reducible first | refine wt_test ?_ | refine wt_B ?_ | refine wt_not ?_ | refine wt_and ?_ | refine wt_or ?_ | refine wt_yes ?_)
  | (with_reducible show WA _ _ _; with_reducible first | refine wa_nil ?_ | refine wa_cons (wq_of (we_var (by with_unfolding_all exact rfl) ?_)) | refine wa_slotU (by with_unfolding_all exact rfl) ?_ | refine wa_cons ?_)
  | (with_reducible show OpK _ _ _ _ _; with_reducible first | refine ok_isB ?_ | refine ok_notB ?_ | refine ok_plusI ?_ | refine ok_sub ?_ | refine ok_lt ?_ | refine ok_le ?_ | refine ok_gt ?_ | refine ok_ge ?_ | refine ok_eqI ?_ | refine ok_neI ?_ | refine ok_mod (by first | assumption | decide | omega) ?_ | refine ok_ixL (by with_unfolding_all exact rfl) ?_)
  | (with_reducible show CbK _ _ _ _; with_reducible first | refine ck_lenL ?_ | refine ck_lenT ?_ | refine ck_int ?_ | refine ck_intB ?_ | refine ck_max ?_ | refine ck_min ?_ | refine ck_list ?_)
  | with_reducible refine wq_of ?_
  | (with_reducible show WG _ _ _ _ _; with_reducible first | refine wg_name (by with_unfolding_all exact rfl) ?_ | refine wg_tup (by with_unfolding_all exact rfl) ?_ | refine wg_set (by with_unfolding_all exact rfl) ?_)
  | (with_reducible show WGs _ _ _ _ _; with_reducible first | refine wgs_cons ?_ | refine wgs_nil ?_)
  | (with_reducible show WO _ _ _; with_reducible first | refine wo_some ?_ | refine wo_none ?_)
  | refine ⟨_, argD5, ?_⟩
  | refine ⟨_, argD6, ?_⟩
  | refine ⟨_, argD7, ?_⟩
  | refine ⟨_, argD9, ?_⟩
  | with_reducible refine iteT ?_
  | with_reducible refine iteF ?_
  | with_reducible refine ⟨_, frz_per, ?_⟩
  | with_reducible refine ⟨_, frz_own, ?_⟩
  | refine ⟨_, rfl, ?_⟩
  | refine ⟨_, argD1, ?_⟩
  | refine ⟨_, argD2, ?_⟩
  | refine ⟨_, argD0, ?_⟩
  | refine ⟨_, argD3, ?_⟩
  | refine ⟨_, argD4, ?_⟩
  | refine ⟨_, _, rfl, rfl, rfl, ?_⟩
  | refine ⟨_, _, _, rfl, rfl, rfl, ?_⟩
  | refine ⟨(by simp only [List.length_cons, List.length_nil]; decide), ?_⟩
  | refine ⟨rfl, nd1, ?_⟩
  | refine ⟨rfl, nd0, ?_⟩)
local macro_rules | `(tactic| walk_at "w") => `(tactic| first
  | (with_reducible show WE _ _ _; with_reducible first | refine we_var (by with_unfolding_all exact rfl) ?_ | refine we_varF (by with_unfolding_all exact rfl) frz_own ?_ | (show WE (tOp _ _ _) _ _; first | refine we_isNd ?_ | refine we_notNd ?_ | refine we_notN ?_ | refine we_ixS (by with_unfolding_all exact rfl) ?_ | refine we_ixScr (by with_unfolding_all exact rfl) ?_ | refine we_inS (by with_unfolding_all exact rfl) ?_ | refine we_notInS (by with_unfolding_all exact rfl) ?_ | refine we_eqS (by with_unfolding_all exact rfl) ?_ | refine we_neS (by with_unfolding_all exact rfl) ?_ | refine we_opK ?_) | (show WE (tCB _ _) _ _; first | refine we_repr ?_ | refine we_isInt ?_ | refine we_isBl ?_ | refine we_isLst ?_ | refine we_isTup ?_ | refine we_lenO (by with_unfolding_all exact rfl) ?_ | refine we_lenS' (by with_unfolding_all exact rfl) ?_ | refine we_lenScr (by with_unfolding_all exact rfl) ?_ | refine we_cbK ?_) | refine we_dnew ?_ | refine we_lenSetI ?_ | refine we_revL ?_ | refine we_chain ?_ | refine we_slice ?_ | refine we_int ?_ | refine we_bl ?_ | refine we_non ?_ | refine we_str ?_ | refine we_neg ?_ | refine we_not ?_ | refine we_and ?_ | refine we_or ?_ | refine we_if ?_ | refine we_tup ?_ | refine we_lst ?_ | refine we_call ?_ | refine we_mt (by with_unfolding_all exact rfl) ?_)
  | (with_reducible show WS _ _ _ _; with_reducible first | refine ws_seqI ?_ | refine ws_seqA ?_ | refine ws_seqD ?_ | refine ws_asg (by with_unfolding_all exact rfl) ?_ | refine ws_asgG ?_ | refine ws_if ?_ | refine ws_ret ?_ | refine ws_drop ?_ | refine ws_next ?_ | refine ws_retN ?_)
  | (with_reducible show WT _ _ _; with_reducible first | refine wt_truL ?_ | refine wt_test ?_ | refine wt_B ?_ | refine wt_not ?_ | refine wt_and ?_ | refine wt_or ?_ | refine wt_yes ?_)
  | (with_reducible show WA _ _ _; with_reducible first | refine wa_nil ?_ | refine wa_cons (wq_of (we_var (by with_unfolding_all exact rfl) ?_)) | refine wa_slotU (by with_unfolding_all exact rfl) ?_ | refine wa_cons ?_)
  | (with_reducible show OpK _ _ _ _ _; with_reducible first | refine ok_neR ?_ | refine ok_eqR ?_ | refine ok_isB ?_ | refine ok_notB ?_ | refine ok_plusI ?_ | refine ok_sub ?_ | refine ok_lt ?_ | refine ok_le ?_ | refine ok_gt ?_ | refine ok_ge ?_ | refine ok_eqI ?_ | refine ok_neI ?_ | refine ok_mod (by first | assumption | decide | omega) ?_ | refine ok_ixL (by with_unfolding_all exact rfl) ?_)
  | (with_reducible show CbK _ _ _ _; with_reducible first | refine ck_tuple ?_ | refine ck_allF ?_ | refine ck_anyF ?_ | refine ck_abs ?_ | refine ck_sumI ?_ | refine ck_lenL ?_ | refine ck_lenT ?_ | refine ck_int ?_ | refine ck_intB ?_ | refine ck_max ?_ | refine ck_min ?_ | refine ck_list ?_)
  | with_reducible refine wq_of ?_
  | (with_reducible show WG _ _ _ _ _; with_reducible first | refine wg_name (by with_unfolding_all exact rfl) ?_ | refine wg_tup (by with_unfolding_all exact rfl) ?_ | refine wg_set (by with_unfolding_all exact rfl) ?_)
  | (with_reducible show WGs _ _ _ _ _; with_reducible first | refine wgs_cons ?_ | refine wgs_nil ?_)
  | (with_reducible show WO _ _ _; with_reducible first | refine wo_some ?_ | refine wo_none ?_)
  | refine ⟨_, argD5, ?_⟩
  | refine ⟨_, argD6, ?_⟩
  | refine ⟨_, argD7, ?_⟩
  | refine ⟨_, argD9, ?_⟩
  | with_reducible refine iteT ?_
  | with_reducible refine iteF ?_
  | with_reducible refine ⟨_, frz_per, ?_⟩
  | with_reducible refine ⟨_, frz_own, ?_⟩
  | refine ⟨_, rfl, ?_⟩
  | refine ⟨_, argD1, ?_⟩
  | refine ⟨_, argD2, ?_⟩
  | refine ⟨_, argD0, ?_⟩
  | refine ⟨_, argD3, ?_⟩
  | refine ⟨_, argD4, ?_⟩
  | refine ⟨_, _, rfl, rfl, rfl, ?_⟩
  | refine ⟨_, _, _, rfl, rfl, rfl, ?_⟩
  | refine ⟨(by simp only [List.length_cons, List.length_nil]; decide), ?_⟩
  | refine ⟨rfl, nd1, ?_⟩
  | refine ⟨rfl, nd0, ?_⟩
  | refine ⟨_, argD8, ?_⟩
  | refine ⟨_, argD10, ?_⟩)
local macro_rules | `(tactic| walk_at "v") => `(tactic| first
  | (with_reducible show WE _ _ _; with_reducible first | refine we_var (by with_unfolding_all exact rfl) ?_ | refine we_varF (by with_unfolding_all exact rfl) frz_own ?_ | (show WE (tOp _ _ _) _ _; first | refine we_isNd ?_ | refine we_notNd ?_ | refine we_notN ?_ | refine we_ixS (by with_unfolding_all exact rfl) ?_ | refine we_ixScr (by with_unfolding_all exact rfl) ?_ | refine we_inS (by with_unfolding_all exact rfl) ?_ | refine we_notInS (by with_unfolding_all exact rfl) ?_ | refine we_eqS (by with_unfolding_all exact rfl) ?_ | refine we_neS (by with_unfolding_all exact rfl) ?_ | refine we_opK ?_) | (show WE (tCB _ _) _ _; first | refine we_repr ?_ | refine we_lenWeb (by with_unfolding_all exact rfl) (by assumption) ?_ | refine we_isInt ?_ | refine we_isBl ?_ | refine we_isLst ?_ | refine we_isTup ?_ | refine we_lenO (by with_unfolding_all exact rfl) ?_ | refine we_lenS' (by with_unfolding_all exact rfl) ?_ | refine we_lenScr (by with_unfolding_all exact rfl) ?_ | refine we_cbK ?_) | refine we_dnew ?_ | refine we_lenSetI ?_ | refine we_revL ?_ | refine we_nbWeb (by with_unfolding_all exact rfl) (by assumption) (by assumption) ?_ | refine we_tiesWeb (by with_unfolding_all exact rfl) ?_ | refine we_chain ?_ | refine we_slice ?_ | refine we_int ?_ | refine we_bl ?_ | refine we_non ?_ | refine we_str ?_ | refine we_neg ?_ | refine we_not ?_ | refine we_and ?_ | refine we_or ?_ | refine we_if ?_ | refine we_tup ?_ | refine we_lst ?_ | refine we_call ?_ | refine we_mt (by with_unfolding_all exact rfl) ?_)
  | (with_reducible show WS _ _ _ _; with_reducible first | refine ws_seqI ?_ | refine ws_seqA ?_ | refine ws_seqD ?_ | refine ws_asg (by with_unfolding_all exact rfl) ?_ | refine ws_asgG ?_ | refine ws_if ?_ | refine ws_ret ?_ | refine ws_drop ?_ | refine ws_next ?_ | refine ws_retN ?_)
  | (with_reducible show WT _ _ _; with_reducible first | refine wt_truL ?_ | refine wt_test ?_ | refine wt_B ?_ | refine wt_not ?_ | refine wt_and ?_ | refine wt_or ?_ | refine wt_yes ?_)
  | (with_reducible show WA _ _ _; with_reducible first | refine wa_nil ?_ | refine wa_cons (wq_of (we_var (by with_unfolding_all exact rfl) ?_)) | refine wa_slotU (by with_unfolding_all exact rfl) ?_ | refine wa_cons ?_)
  | (with_reducible show OpK _ _ _ _ _; with_reducible first | refine ok_neR ?_ | refine ok_eqR ?_ | refine ok_isB ?_ | refine ok_notB ?_ | refine ok_plusI ?_ | refine ok_sub ?_ | refine ok_lt ?_ | refine ok_le ?_ | refine ok_gt ?_ | refine ok_ge ?_ | refine ok_eqI ?_ | refine ok_neI ?_ | refine ok_mod (by first | assumption | decide | omega) ?_ | refine ok_ixL (by with_unfolding_all exact rfl) ?_)
  | (with_reducible show CbK _ _ _ _; with_reducible first | refine ck_tuple ?_ | refine ck_allF ?_ | refine ck_anyF ?_ | refine ck_abs ?_ | refine ck_sumI ?_ | refine ck_lenL ?_ | refine ck_lenT ?_ | refine ck_int ?_ | refine ck_intB ?_ | refine ck_max ?_ | refine ck_min ?_ | refine ck_list ?_)
  | with_reducible refine wq_of ?_
  | (with_reducible show WG _ _ _ _ _; with_reducible first | refine wg_name (by with_unfolding_all exact rfl) ?_ | refine wg_tup (by with_unfolding_all exact rfl) ?_ | refine wg_set (by with_unfolding_all exact rfl) ?_)
  | (with_reducible show WGs _ _ _ _ _; with_reducible first | refine wgs_cons ?_ | refine wgs_nil ?_)
  | (with_reducible show WO _ _ _; with_reducible first | refine wo_some ?_ | refine wo_none ?_)
  | refine ⟨_, argD5, ?_⟩
  | refine ⟨_, argD6, ?_⟩
  | refine ⟨_, argD7, ?_⟩
  | refine ⟨_, argD9, ?_⟩
  | with_reducible refine iteT ?_
  | with_reducible refine iteF ?_
  | with_reducible refine ⟨_, frz_per, ?_⟩
  | with_reducible refine ⟨_, frz_own, ?_⟩
  | refine ⟨_, rfl, ?_⟩
  | refine ⟨_, argD1, ?_⟩
  | refine ⟨_, argD2, ?_⟩
  | refine ⟨_, argD0, ?_⟩
  | refine ⟨_, argD3, ?_⟩
  | refine ⟨_, argD4, ?_⟩
  | refine ⟨_, _, rfl, rfl, rfl, ?_⟩
  | refine ⟨_, _, _, rfl, rfl, rfl, ?_⟩
  | refine ⟨(by simp only [List.length_cons, List.length_nil]; decide), ?_⟩
  | refine ⟨rfl, nd1, ?_⟩
  | refine ⟨rfl, nd0, ?_⟩
  | refine ⟨_, argD8, ?_⟩
  | refine ⟨_, argD10, ?_⟩)
local macro_rules | `(tactic| walk_at "p") => `(tactic| refine ⟨_, _, rfl, (by omega), (by first | decide | omega), (by first | decide | omega), ?_⟩)
local macro_rules | `(tactic| walk_at "n") => `(tactic| try dsimp only [back, List.set_cons_zero, List.set_cons_succ, List.map_cons, List.map_nil, List.cons_append, List.nil_append])
local macro_rules | `(tactic| walk_at "q") => `(tactic| first | with_reducible refine ws_seqP (ws_par (by with_unfolding_all exact rfl) (by with_unfolding_all exact rfl) ?_) | refine ⟨_, _, rfl, ?_⟩ | walk_at "v")
local macro_rules | `(tactic| walk_at "j") => `(tactic| first
  | (with_reducible show WA _ _ _; with_reducible refine wa_slotJ (by with_unfolding_all exact rfl) ?_)
  | walk_at "v")
namespace J
abbrev t_law_order_0 (K : PySem.W.Frag) : TS :=
  (tDrop (tBM K "list" (rAppend) (tVar 3) (tCons (tBM K "list" (rPopAt) (tVar 2) (tCons (tCall (sp_law_draw K) [] E0 (tCons (tVar 0) (tCons (tCB (rLenA K) (tCons (tVar 2) tNil)) tNil))) tNil)) tNil)))
abbrev t_law_order_1 (K : PySem.W.Frag) : TS :=
  (tSeq (tAsg (tLstRg (tRg1 (tVar 1))) (gName 2))
    (tSeq (tAsg (tLst tNil) (gName 3))
    (tSeq (tFor (iRng1 (tCons (tVar 1) tNil)) (gName 4) (t_law_order_0 K))
    (tRet (tVar 3)))))
def t_law_order (K : PySem.W.Frag) : TS :=
  (t_law_order_1 K)
abbrev N_law_order : List Str := ["jar", "many", "rest", "order", "turn"]
abbrev F_law_order : Fw := fun gs kk xx => ∃ (m n : Nat), gs = [jar m, dat (.int n)] ∧ n ≤ m ∧ n ≤ 1000 ∧ ∀ os : List Int, os.Perm ((List.range n).map fun i : Nat => (i : Int)) → kk (own (os.map .int)) [some (jar (m - n)), none]
abbrev sp_law_order (K : PySem.W.Frag) : Sp := SpG 2 F_law_order
theorem pure_law_order {K : PySem.W.Frag} {vs : List V} {H : Hp} {Q : VK} {E : XK} (h : sp_law_order K vs H Q E) : t_law_order K { nx := fun _ H' => Q .non H', rt := Q } (L2.start N_law_order vs) H := by
  refine body_ok (fun i => i == 0) ?_ h
  rintro gs kk xx ⟨m, n, rfl, hm, hn, hk⟩ -
  unfold t_law_order
  show WS _ _ [some (jar m), some (dat (.int n)), none, none, none] _
  refine ws_seq (ws_asg rfl (we_upTo (wq_of (we_var rfl ⟨_, frz_per, (n : Int), rfl, by omega, ?_⟩))))
  rw [show upTo (n : Int) = (List.range n).map fun i : Nat => (i : Int) from by unfold upTo; rw [Int.toNat_natCast]]
  walk_at "n"
  refine ws_seqA ?_
  iterate 2 walk_at "v"
  refine wa_nil ⟨[], argD0, by simp, ?_⟩
  walk_at "n"
  generalize hal : (List.range n).map (fun i : Nat => (i : Int)) = all
  have hll : all.length = n := by rw [← hal, List.length_map, List.length_range]
  refine ws_seq (ws_forF (fun i : Nat => .int (i : Int)) (fun pre Γ => ∃ (left found : List PyData) (o4 : Option Gp), Γ = [some (jar (m - pre.length)), some (dat (.int n)), some (own left), some (own found), o4] ∧ left.length + pre.length = n ∧ (found ++ left).Perm (all.map .int)) (wil_range1 ?_))
  repeat walk_at "v"
  refine ⟨by omega, by omega, List.range n, by rw [Int.toNat_natCast], ⟨_, [], _, rfl, by rw [List.length_map, hll]; rfl, List.Perm.refl _⟩, ?_, ?_⟩
  · rintro _ ⟨left, found, o4, rfl, h1, h2⟩
    rw [List.length_range] at h1
    have e : left = [] := List.eq_nil_of_length_eq_zero (by omega)
    subst e
    rw [List.append_nil] at h2
    obtain ⟨os, rfl, hos⟩ := perm_ints h2
    rw [List.length_range]
    exact ws_ret (we_varM (i := 3) rfl ⟨_, _, Ent.refl, les_some Ent.refl (les_none les_nil), hk os (by rw [hal]; exact hos)⟩)
  · rintro pre i post _ hs ⟨left, found, o4, rfl, h1, h2⟩
    obtain ⟨rfl, hlt⟩ := range_split hs
    refine wg_name rfl ?_
    walk_at "n"
    repeat walk_at "j"
    have hl0 : 0 < left.length := by omega
    refine ⟨_, _, rfl, by omega, by omega, by omega, fun r r0 r1 => ?_⟩
    repeat walk_at "j"
    obtain ⟨j, rfl⟩ : ∃ j : Nat, r = (j : Int) := ⟨r.toNat, by omega⟩
    have hj : j < left.length := by omega
    refine ⟨_, _, _, _, rfl, argD1, mo_popAt j rfl (List.getElem?_eq_getElem hj) (by omega), ?_⟩
    repeat walk_at "v"
    have := h2.length_eq
    rw [List.length_append, List.length_map, hll] at this
    refine ⟨_, _, _, _, rfl, argD1, mo_append (by omega), ?_⟩
    refine ⟨left.eraseIdx j, found ++ [left[j]], some (dat (.int (pre.length : Int))), ?_, ?_, perm_pick h2 (List.getElem?_eq_getElem hj)⟩
    · rw [List.length_append, List.length_singleton, show m - (pre.length + 1) = m - pre.length - 1 by omega]
      rfl
    · rw [List.length_eraseIdx_of_lt hj, List.length_append, List.length_singleton]
      omega
abbrev t_law_ties_0 (K : PySem.W.Frag) : TS :=
  (tIfS (tAnd (tTest (tOp (rNeD K) (tVar 3) (tVar 4))) (tTest (tOp (rNotInD K) (tVar 5) (tVar 2)))) (tDrop (tBM K "list" (rAppend) (tVar 2) (tCons (tVar 5) tNil))) tNext)
abbrev t_law_ties_1 (K : PySem.W.Frag) : TS :=
  (tSeq (tAsg (tTup (tCons (tCB (rMin2) (tCons (tOp (rIx K) (tVar 1) (tVar 3)) (tCons (tOp (rIx K) (tVar 1) (tVar 4)) tNil))) (tCons (tCB (rMax2) (tCons (tOp (rIx K) (tVar 1) (tVar 3)) (tCons (tOp (rIx K) (tVar 1) (tVar 4)) tNil))) tNil))) (gName 5))
    (t_law_ties_0 K))
abbrev t_law_ties_2 (K : PySem.W.Frag) : TS :=
  (tSeq (tAsg (tLst tNil) (gName 2))
    (tSeq (tFor (iList K (tVar 0)) (gTup K 2 (gCons (gName 3) (gCons (gName 4) gNil))) (t_law_ties_1 K))
    (tRet (tVar 2))))
def t_law_ties (K : PySem.W.Frag) : TS :=
  (t_law_ties_2 K)
abbrev N_law_ties : List Str := ["pairs", "order", "ties", "u", "v", "tie"]
def tieStep (π : Int → Int) (ts : List (Int × Int)) (p : Int × Int) : List (Int × Int) := if p.1 ≠ p.2 ∧ mvT π p ∉ ts then ts ++ [mvT π p] else ts
def tiesF (π : Int → Int) (ps : List (Int × Int)) : List (Int × Int) := ps.foldl (tieStep π) []
abbrev F_law_ties : Fw := fun gs kk xx => ∃ (n : Nat) (os : List Int) (π σ : Int → Int) (ps : List (Int × Int)), gs = [dat (.list (ps.map tieD)), dat (.list (os.map .int))] ∧ Ord n os π σ ∧ (∀ p ∈ ps, (0 ≤ p.1 ∧ p.1 < n) ∧ 0 ≤ p.2 ∧ p.2 < n) ∧ ps.length ≤ 1000 ∧ kk (own ((tiesF π ps).map tieD)) [none, none]
abbrev sp_law_ties (K : PySem.W.Frag) : Sp := SpG 2 F_law_ties
theorem ties_len {π : Int → Int} : ∀ {ps ts : List (Int × Int)}, (ps.foldl (tieStep π) ts).length ≤ ts.length + ps.length
  | [], ts => by simp
  | p :: ps, ts => by
    have := ties_len (π := π) (ps := ps) (ts := tieStep π ts p)
    have h2 : (tieStep π ts p).length ≤ ts.length + 1 := by unfold tieStep; split <;> simp
    rw [List.foldl_cons, List.length_cons]
    omega
theorem mv_ok {n : Nat} {os : List Int} {π σ : Int → Int} (O : Ord n os π σ) {p : Int × Int} (h1 : 0 ≤ p.1 ∧ p.1 < n) (h2 : 0 ≤ p.2 ∧ p.2 < n) (hne : p.1 ≠ p.2) : 0 ≤ (mvT π p).1 ∧ (mvT π p).1 < (mvT π p).2 ∧ (mvT π p).2 < n := by
  have a1 := O.rng p.1 h1.1 h1.2
  have a2 := O.rng p.2 h2.1 h2.2
  have h3 : π p.1 ≠ π p.2 := fun e => hne (O.inj h1.1 h1.2 h2.1 h2.2 e)
  unfold mvT
  dsimp only
  split <;> split <;> omega
theorem ties_ok {n : Nat} {os : List Int} {π σ : Int → Int} (O : Ord n os π σ) : ∀ {ps ts : List (Int × Int)}, (∀ p ∈ ps, (0 ≤ p.1 ∧ p.1 < n) ∧ 0 ≤ p.2 ∧ p.2 < n) → Valid n ts → ts.Nodup → Valid n (ps.foldl (tieStep π) ts) ∧ (ps.foldl (tieStep π) ts).Nodup
  | [], ts, _, hv, hn => ⟨hv, hn⟩
  | p :: ps, ts, h, hv, hn => by
    refine ties_ok O (ts := tieStep π ts p) (fun q hq => h q (by simp [hq])) (fun t ht => ?_) ?_
    · unfold tieStep at ht
      split at ht
      · rename_i c
        rcases List.mem_append.mp ht with ht | ht
        · exact hv t ht
        · rw [List.mem_singleton.mp ht]
          have := h p (by simp)
          exact mv_ok O this.1 this.2 c.1
      · exact hv t ht
    · unfold tieStep
      split
      · rename_i c
        exact List.nodup_append.mpr ⟨hn, by simp, fun a ha b hb e => c.2 (by rw [← List.mem_singleton.mp hb, ← e]; exact ha)⟩
      · exact hn
theorem pure_law_ties {K : PySem.W.Frag} {vs : List V} {H : Hp} {Q : VK} {E : XK} (h : sp_law_ties K vs H Q E) : t_law_ties K { nx := fun _ H' => Q .non H', rt := Q } (L2.start N_law_ties vs) H := by
  refine body_ok (fun i => false) ?_ h
  rintro gs kk xx ⟨n, os, π, σ, ps, rfl, O, hps, hl, hk⟩ -
  unfold t_law_ties
  show WS _ _ [some (dat (.list (ps.map tieD))), some (dat (.list (os.map .int))), none, none, none, none] _
  refine ws_seqA ?_
  iterate 2 walk_at "v"
  refine wa_nil ⟨[], argD0, by simp, ?_⟩
  walk_at "n"
  refine ws_seq (ws_forF tieD (fun pre Γ => ∃ (o3 o4 o5 : Option Gp), Γ = [some (dat (.list (ps.map tieD))), some (dat (.list (os.map .int))), some (own ((tiesF π pre).map tieD)), o3, o4, o5]) (wil_list (wq_of (we_var rfl ⟨_, frz_per, _, rfl, ps, rfl, ⟨_, _, _, rfl⟩, ?_, ?_⟩))))
  · rintro _ ⟨o3, o4, o5, rfl⟩
    exact ws_ret (we_varM (i := 2) rfl ⟨_, _, Ent.refl, les_none (les_none les_nil), hk⟩)
  · rintro pre p post _ hs ⟨o3, o4, o5, rfl⟩
    have h := hps p (by rw [hs]; simp)
    have a1 := O.at_ p.1 h.1.1 h.1.2
    have a2 := O.at_ p.2 h.2.1 h.2.2
    have at1 : atI (os.map PyData.int) p.1 = some (.int (π p.1)) := atI_in h.1.1 (by rw [List.getElem?_map, a1]; rfl)
    have at2 : atI (os.map PyData.int) p.2 = some (.int (π p.2)) := atI_in h.2.1 (by rw [List.getElem?_map, a2]; rfl)
    have hpl : (tiesF π pre).length ≤ 1000 := by
      have := ties_len (π := π) (ps := pre) (ts := [])
      have h2 : pre.length ≤ ps.length := by rw [hs, List.length_append]; omega
      unfold tiesF
      simp only [List.length_nil] at this
      omega
    have ef : tiesF π (pre ++ [p]) = tieStep π (tiesF π pre) p := by unfold tiesF; rw [List.foldl_append]; rfl
    rw [ef]
    generalize tiesF π pre = ts at hpl
    show WG _ _ (dP (.tuple [.int p.1, .int p.2])) _ _
    refine wg_tup rfl (wgs_cons (wg_name rfl (wgs_cons (wg_name rfl (wgs_nil ?_)))))
    walk_at "n"
    repeat walk_at "v"
    refine ok_ixL at1 ?_
    repeat walk_at "v"
    refine ok_ixL at2 ?_
    repeat walk_at "v"
    refine ok_ixL at1 ?_
    repeat walk_at "v"
    refine ok_ixL at2 ?_
    repeat walk_at "v"
    walk_at "n"
    show if (!decide (p.1 = p.2)) = true then WT _ [some (dat (.list (ps.map tieD))), some (dat (.list (os.map .int))), some (own (ts.map tieD)), some (dat (.int p.1)), some (dat (.int p.2)), some (dat (tieD (mvT π p)))] _ else _
    refine ite_ndec (fun hne => ?_) fun he => ?_
    · repeat walk_at "v"
      refine ⟨⟨lay_tie.shaped, (enc_tie.lst.lay ts).shaped (by decide)⟩, ?_⟩
      rw [any_inj fun _ _ => eqv_tie]
      refine ⟨_, frz_per, _, rfl, ?_⟩
      by_cases hm : mvT π p ∈ ts
      · rw [decide_eq_true hm]
        refine iteF (ws_next ⟨some (dat (.int p.1)), some (dat (.int p.2)), some (dat (tieD (mvT π p))), ?_⟩)
        rw [show tieStep π ts p = ts from if_neg fun z => z.2 hm]
      · rw [decide_eq_false hm]
        refine iteT ?_
        repeat walk_at "v"
        refine ⟨_, _, _, _, rfl, argD1, mo_append (by rw [List.length_map]; omega), ?_⟩
        refine ⟨some (dat (.int p.1)), some (dat (.int p.2)), some (dat (tieD (mvT π p))), ?_⟩
        rw [show tieStep π ts p = ts ++ [mvT π p] from if_pos ⟨hne, hm⟩, List.map_append]
        rfl
    · refine iteF (ws_next ⟨some (dat (.int p.1)), some (dat (.int p.2)), some (dat (tieD (mvT π p))), ?_⟩)
      rw [show tieStep π ts p = ts from if_neg fun z => z.1 he]
      rfl
end J
end G

namespace G
open PySem L2
local macro_rules | `(tactic| walk_at "g1") => `(tactic| first
  | (with_reducible show WE _ _ _; with_reducible first | refine we_var (by with_unfolding_all exact rfl) ?_ | (show WE (tOp _ _ _) _ _; first | refine we_ixS (by with_unfolding_all exact rfl) ?_ | refine we_ixScr (by with_unfolding_all exact rfl) ?_ | refine we_inS (by with_unfolding_all exact rfl) ?_ | refine we_notInS (by with_unfolding_all exact rfl) ?_ | refine we_eqS (by with_unfolding_all exact rfl) ?_ | refine we_neS (by with_unfolding_all exact rfl) ?_ | refine we_opK ?_) | (show WE (tCB _ _) _ _; first | refine we_lenS' (by with_unfolding_all exact rfl) ?_ | refine we_lenScr (by with_unfolding_all exact rfl) ?_ | refine we_cbK ?_) | refine we_int ?_ | refine we_bl ?_ | refine we_non ?_ | refine we_str ?_ | refine we_neg ?_ | refine we_not ?_ | refine we_and ?_ | refine we_or ?_ | refine we_if ?_ | refine we_tup ?_ | refine we_lst ?_ | refine we_call ?_ | refine we_mt (by with_unfolding_all exact rfl) ?_)
  | (with_reducible show WS _ _ _ _; with_reducible first | refine ws_seqA ?_ | refine ws_seqD ?_ | refine ws_asg (by with_unfolding_all exact rfl) ?_ | refine ws_asgG ?_ | refine ws_if ?_ | refine ws_ret ?_ | refine ws_drop ?_ | refine ws_next ?_ | refine ws_retN ?_)
  | (with_reducible show WT _ _ _; with_reducible first | refine wt_test ?_ | refine wt_B ?_ | refine wt_not ?_ | refine wt_and ?_ | refine wt_or ?_ | refine wt_yes ?_)
  | (with_reducible show WA _ _ _; with_reducible first | refine wa_nil ?_ | refine wa_cons (wq_of (we_var (by with_unfolding_all exact rfl) ?_)) | refine wa_slotU (by with_unfolding_all exact rfl) ?_ | refine wa_cons ?_)
  | (with_reducible show OpK _ _ _ _ _; with_reducible first | refine ok_plusI ?_ | refine ok_sub ?_ | refine ok_lt ?_ | refine ok_le ?_ | refine ok_gt ?_ | refine ok_ge ?_ | refine ok_eqI ?_ | refine ok_neI ?_ | refine ok_mod (by first | assumption | decide | omega) ?_ | refine ok_ixL (by with_unfolding_all exact rfl) ?_)
  | (with_reducible show CbK _ _ _ _; with_reducible first | refine ck_lenL ?_ | refine ck_lenT ?_ | refine ck_int ?_ | refine ck_intB ?_ | refine ck_max ?_ | refine ck_min ?_ | refine ck_list ?_)
  | with_reducible refine wq_of ?_
  | (with_reducible show WG _ _ _ _ _; with_reducible first | refine wg_name (by with_unfolding_all exact rfl) ?_ | refine wg_tup (by with_unfolding_all exact rfl) ?_ | refine wg_set (by with_unfolding_all exact rfl) ?_)
  | (with_reducible show WGs _ _ _ _ _; with_reducible first | refine wgs_cons ?_ | refine wgs_nil ?_)
  | with_reducible refine iteT ?_
  | with_reducible refine iteF ?_
  | with_reducible refine ⟨_, frz_per, ?_⟩
  | with_reducible refine ⟨_, frz_own, ?_⟩
  | refine ⟨_, rfl, ?_⟩
  | refine ⟨_, argD1, ?_⟩
  | refine ⟨_, argD2, ?_⟩
  | refine ⟨_, argD0, ?_⟩
  | refine ⟨_, argD3, ?_⟩
  | refine ⟨_, argD4, ?_⟩
  | refine ⟨_, _, rfl, rfl, rfl, ?_⟩
  | refine ⟨_, _, _, rfl, rfl, rfl, ?_⟩
  | refine ⟨(by simp only [List.length_cons, List.length_nil]; decide), ?_⟩
  | refine ⟨rfl, nd1, ?_⟩
  | refine ⟨rfl, nd0, ?_⟩)
local macro_rules | `(tactic| walk_at "go") => `(tactic| repeat walk_at "g1")
local macro_rules | `(tactic| walk_at "g2") => `(tactic| first
  | (with_reducible show WE _ _ _; with_reducible first | refine we_var (by with_unfolding_all exact rfl) ?_ | (show WE (tOp _ _ _) _ _; first | refine we_notN ?_ | refine we_ixS (by with_unfolding_all exact rfl) ?_ | refine we_ixScr (by with_unfolding_all exact rfl) ?_ | refine we_inS (by with_unfolding_all exact rfl) ?_ | refine we_notInS (by with_unfolding_all exact rfl) ?_ | refine we_eqS (by with_unfolding_all exact rfl) ?_ | refine we_neS (by with_unfolding_all exact rfl) ?_ | refine we_opK ?_) | (show WE (tCB _ _) _ _; first | refine we_isInt ?_ | refine we_isBl ?_ | refine we_isLst ?_ | refine we_isTup ?_ | refine we_lenO (by with_unfolding_all exact rfl) ?_ | refine we_lenS' (by with_unfolding_all exact rfl) ?_ | refine we_lenScr (by with_unfolding_all exact rfl) ?_ | refine we_cbK ?_) | refine we_chain ?_ | refine we_slice ?_ | refine we_int ?_ | refine we_bl ?_ | refine we_non ?_ | refine we_str ?_ | refine we_neg ?_ | refine we_not ?_ | refine we_and ?_ | refine we_or ?_ | refine we_if ?_ | refine we_tup ?_ | refine we_lst ?_ | refine we_call ?_ | refine we_mt (by with_unfolding_all exact rfl) ?_)
  | (with_reducible show WS _ _ _ _; with_reducible first | refine ws_seqA ?_ | refine ws_seqD ?_ | refine ws_asg (by with_unfolding_all exact rfl) ?_ | refine ws_asgG ?_ | refine ws_if ?_ | refine ws_ret ?_ | refine ws_drop ?_ | refine ws_next ?_ | refine ws_retN ?_)
  | (with_reducible show WT _ _ _; with_reducible first | refine wt_test ?_ | refine wt_B ?_ | refine wt_not ?_ | refine wt_and ?_ | refine wt_or ?_ | refine wt_yes ?_)
  | (with_reducible show WA _ _ _; with_reducible first | refine wa_nil ?_ | refine wa_cons (wq_of (we_var (by with_unfolding_all exact rfl) ?_)) | refine wa_slotU (by with_unfolding_all exact rfl) ?_ | refine wa_cons ?_)
  | (with_reducible show OpK _ _ _ _ _; with_reducible first | refine ok_isB ?_ | refine ok_notB ?_ | refine ok_plusI ?_ | refine ok_sub ?_ | refine ok_lt ?_ | refine ok_le ?_ | refine ok_gt ?_ | refine ok_ge ?_ | refine ok_eqI ?_ | refine ok_neI ?_ | refine ok_mod (by first | assumption | decide | omega) ?_ | refine ok_ixL (by with_unfolding_all exact rfl) ?_)
  | (with_reducible show CbK _ _ _ _; with_reducible first | refine ck_lenL ?_ | refine ck_lenT ?_ | refine ck_int ?_ | refine ck_intB ?_ | refine ck_max ?_ | refine ck_min ?_ | refine ck_list ?_)
  | with_reducible refine wq_of ?_
  | (with_reducible show WG _ _ _ _ _; with_reducible first | refine wg_name (by with_unfolding_all exact rfl) ?_ | refine wg_tup (by with_unfolding_all exact rfl) ?_ | refine wg_set (by with_unfolding_all exact rfl) ?_)
  | (with_reducible show WGs _ _ _ _ _; with_reducible first | refine wgs_cons ?_ | refine wgs_nil ?_)
  | (with_reducible show WO _ _ _; with_reducible first | refine wo_some ?_ | refine wo_none ?_)
  | refine ⟨_, argD5, ?_⟩
  | refine ⟨_, argD6, ?_⟩
  | refine ⟨_, argD7, ?_⟩
  | refine ⟨_, argD9, ?_⟩
  | with_reducible refine iteT ?_
  | with_reducible refine iteF ?_
  | with_reducible refine ⟨_, frz_per, ?_⟩
  | with_reducible refine ⟨_, frz_own, ?_⟩
  | refine ⟨_, rfl, ?_⟩
  | refine ⟨_, argD1, ?_⟩
  | refine ⟨_, argD2, ?_⟩
  | refine ⟨_, argD0, ?_⟩
  | refine ⟨_, argD3, ?_⟩
  | refine ⟨_, argD4, ?_⟩
  | refine ⟨_, _, rfl, rfl, rfl, ?_⟩
  | refine ⟨_, _, _, rfl, rfl, rfl, ?_⟩
  | refine ⟨(by simp only [List.length_cons, List.length_nil]; decide), ?_⟩
  | refine ⟨rfl, nd1, ?_⟩
  | refine ⟨rfl, nd0, ?_⟩)
local macro_rules | `(tactic| walk_at "w") => `(tactic| first
  | (with_reducible show WE _ _ _; with_reducible first | refine we_var (by with_unfolding_all exact rfl) ?_ | refine we_varF (by with_unfolding_all exact rfl) frz_own ?_ | (show WE (tOp _ _ _) _ _; first | refine we_isNd ?_ | refine we_notNd ?_ | refine we_notN ?_ | refine we_ixS (by with_unfolding_all exact rfl) ?_ | refine we_ixScr (by with_unfolding_all exact rfl) ?_ | refine we_inS (by with_unfolding_all exact rfl) ?_ | refine we_notInS (by with_unfolding_all exact rfl) ?_ | refine we_eqS (by with_unfolding_all exact rfl) ?_ | refine we_neS (by with_unfolding_all exact rfl) ?_ | refine we_opK ?_) | (show WE (tCB _ _) _ _; first | refine we_repr ?_ | refine we_isInt ?_ | refine we_isBl ?_ | refine we_isLst ?_ | refine we_isTup ?_ | refine we_lenO (by with_unfolding_all exact rfl) ?_ | refine we_lenS' (by with_unfolding_all exact rfl) ?_ | refine we_lenScr (by with_unfolding_all exact rfl) ?_ | refine we_cbK ?_) | refine we_dnew ?_ | refine we_lenSetI ?_ | refine we_revL ?_ | refine we_chain ?_ | refine we_slice ?_ | refine we_int ?_ | refine we_bl ?_ | refine we_non ?_ | refine we_str ?_ | refine we_neg ?_ | refine we_not ?_ | refine we_and ?_ | refine we_or ?_ | refine we_if ?_ | refine we_tup ?_ | refine we_lst ?_ | refine we_call ?_ | refine we_mt (by with_unfolding_all exact rfl) ?_)
  | (with_reducible show WS _ _ _ _; with_reducible first | refine ws_seqI ?_ | refine ws_seqA ?_ | refine ws_seqD ?_ | refine ws_asg (by with_unfolding_all exact rfl) ?_ | refine ws_asgG ?_ | refine ws_if ?_ | refine ws_ret ?_ | refine ws_drop ?_ | refine ws_next ?_ | refine ws_retN ?_)
  | (with_reducible show WT _ _ _; with_reducible first | refine wt_truL ?_ | refine wt_test ?_ | refine wt_B ?_ | refine wt_not ?_ | refine wt_and ?_ | refine wt_or ?_ | refine wt_yes ?_)
  | (with_reducible show WA _ _ _; with_reducible first | refine wa_nil ?_ | refine wa_cons (wq_of (we_var (by with_unfolding_all exact rfl) ?_)) | refine wa_slotU (by with_unfolding_all exact rfl) ?_ | refine wa_cons ?_)
  | (with_reducible show OpK _ _ _ _ _; with_reducible first | refine ok_neR ?_ | refine ok_eqR ?_ | refine ok_isB ?_ | refine ok_notB ?_ | refine ok_plusI ?_ | refine ok_sub ?_ | refine ok_lt ?_ | refine ok_le ?_ | refine ok_gt ?_ | refine ok_ge ?_ | refine ok_eqI ?_ | refine ok_neI ?_ | refine ok_mod (by first | assumption | decide | omega) ?_ | refine ok_ixL (by with_unfolding_all exact rfl) ?_)
  | (with_reducible show CbK _ _ _ _; with_reducible first | refine ck_tuple ?_ | refine ck_allF ?_ | refine ck_anyF ?_ | refine ck_abs ?_ | refine ck_sumI ?_ | refine ck_lenL ?_ | refine ck_lenT ?_ | refine ck_int ?_ | refine ck_intB ?_ | refine ck_max ?_ | refine ck_min ?_ | refine ck_list ?_)
  | with_reducible refine wq_of ?_
  | (with_reducible show WG _ _ _ _ _; with_reducible first | refine wg_name (by with_unfolding_all exact rfl) ?_ | refine wg_tup (by with_unfolding_all exact rfl) ?_ | refine wg_set (by with_unfolding_all exact rfl) ?_)
  | (with_reducible show WGs _ _ _ _ _; with_reducible first | refine wgs_cons ?_ | refine wgs_nil ?_)
  | (with_reducible show WO _ _ _; with_reducible first | refine wo_some ?_ | refine wo_none ?_)
  | refine ⟨_, argD5, ?_⟩
  | refine ⟨_, argD6, ?_⟩
  | refine ⟨_, argD7, ?_⟩
  | refine ⟨_, argD9, ?_⟩
  | with_reducible refine iteT ?_
  | with_reducible refine iteF ?_
  | with_reducible refine ⟨_, frz_per, ?_⟩
  | with_reducible refine ⟨_, frz_own, ?_⟩
  | refine ⟨_, rfl, ?_⟩
  | refine ⟨_, argD1, ?_⟩
  | refine ⟨_, argD2, ?_⟩
  | refine ⟨_, argD0, ?_⟩
  | refine ⟨_, argD3, ?_⟩
  | refine ⟨_, argD4, ?_⟩
  | refine ⟨_, _, rfl, rfl, rfl, ?_⟩
  | refine ⟨_, _, _, rfl, rfl, rfl, ?_⟩
  | refine ⟨(by simp only [List.length_cons, List.length_nil]; decide), ?_⟩
  | refine ⟨rfl, nd1, ?_⟩
  | refine ⟨rfl, nd0, ?_⟩
  | refine ⟨_, argD8, ?_⟩
  | refine ⟨_, argD10, ?_⟩)
local macro_rules | `(tactic| walk_at "v") => `(tactic| first
  | (with_reducible show WE _ _ _; with_reducible first | refine we_var (by with_unfolding_all exact rfl) ?_ | refine we_varF (by with_unfolding_all exact rfl) frz_own ?_ | (show WE (tOp _ _ _) _ _; first | refine we_isNd ?_ | refine we_notNd ?_ | refine we_notN ?_ | refine we_ixS (by with_unfolding_all exact rfl) ?_ | refine we_ixScr (by with_unfolding_all exact rfl) ?_ | refine we_inS (by with_unfolding_all exact rfl) ?_ | refine we_notInS (by with_unfolding_all exact rfl) ?_ | refine we_eqS (by with_unfolding_all exact rfl) ?_ | refine we_neS (by with_unfolding_all exact rfl) ?_ | refine we_opK ?_) | (show WE (tCB _ _) _ _; first | refine we_repr ?_ | refine we_lenWeb (by with_unfolding_all exact rfl) (by assumption) ?_ | refine we_isInt ?_ | refine we_isBl ?_ | refine we_isLst ?_ | refine we_isTup ?_ | refine we_lenO (by with_unfolding_all exact rfl) ?_ | refine we_lenS' (by with_unfolding_all exact rfl) ?_ | refine we_lenScr (by with_unfolding_all exact rfl) ?_ | refine we_cbK ?_) | refine we_dnew ?_ | refine we_lenSetI ?_ | refine we_revL ?_ | refine we_nbWeb (by with_unfolding_all exact rfl) (by assumption) (by assumption) ?_ | refine we_tiesWeb (by with_unfolding_all exact rfl) ?_ | refine we_chain ?_ | refine we_slice ?_ | refine we_int ?_ | refine we_bl ?_ | refine we_non ?_ | refine we_str ?_ | refine we_neg ?_ | refine we_not ?_ | refine we_and ?_ | refine we_or ?_ | refine we_if ?_ | refine we_tup ?_ | refine we_lst ?_ | refine we_call ?_ | refine we_mt (by with_unfolding_all exact rfl) ?_)
  | (with_reducible show WS _ _ _ _; with_reducible first | refine ws_seqI ?_ | refine ws_seqA ?_ | refine ws_seqD ?_ | refine ws_asg (by with_unfolding_all exact rfl) ?_ | refine ws_asgG ?_ | refine ws_if ?_ | refine ws_ret ?_ | refine ws_drop ?_ | refine ws_next ?_ | refine ws_retN ?_)
  | (with_reducible show WT _ _ _; with_reducible first | refine wt_truL ?_ | refine wt_test ?_ | refine wt_B ?_ | refine wt_not ?_ | refine wt_and ?_ | refine wt_or ?_ | refine wt_yes ?_)
  | (with_reducible show WA _ _ _; with_reducible first | refine wa_nil ?_ | refine wa_cons (wq_of (we_var (by with_unfolding_all exact rfl) ?_)) | refine wa_slotU (by with_unfolding_all exact rfl) ?_ | refine wa_cons ?_)
  | (with_reducible show OpK _ _ _ _ _; with_reducible first | refine ok_neR ?_ | refine ok_eqR ?_ | refine ok_isB ?_ | refine ok_notB ?_ | refine ok_plusI ?_ | refine ok_sub ?_ | refine ok_lt ?_ | refine ok_le ?_ | refine ok_gt ?_ | refine ok_ge ?_ | refine ok_eqI ?_ | refine ok_neI ?_ | refine ok_mod (by first | assumption | decide | omega) ?_ | refine ok_ixL (by with_unfolding_all exact rfl) ?_)
  | (with_reducible show CbK _ _ _ _; with_reducible first | refine ck_tuple ?_ | refine ck_allF ?_ | refine ck_anyF ?_ | refine ck_abs ?_ | refine ck_sumI ?_ | refine ck_lenL ?_ | refine ck_lenT ?_ | refine ck_int ?_ | refine ck_intB ?_ | refine ck_max ?_ | refine ck_min ?_ | refine ck_list ?_)
  | with_reducible refine wq_of ?_
  | (with_reducible show WG _ _ _ _ _; with_reducible first | refine wg_name (by with_unfolding_all exact rfl) ?_ | refine wg_tup (by with_unfolding_all exact rfl) ?_ | refine wg_set (by with_unfolding_all exact rfl) ?_)
  | (with_reducible show WGs _ _ _ _ _; with_reducible first | refine wgs_cons ?_ | refine wgs_nil ?_)
  | (with_reducible show WO _ _ _; with_reducible first | refine wo_some ?_ | refine wo_none ?_)
  | refine ⟨_, argD5, ?_⟩
  | refine ⟨_, argD6, ?_⟩
  | refine ⟨_, argD7, ?_⟩
  | refine ⟨_, argD9, ?_⟩
  | with_reducible refine iteT ?_
  | with_reducible refine iteF ?_
  | with_reducible refine ⟨_, frz_per, ?_⟩
  | with_reducible refine ⟨_, frz_own, ?_⟩
  | refine ⟨_, rfl, ?_⟩
  | refine ⟨_, argD1, ?_⟩
  | refine ⟨_, argD2, ?_⟩
  | refine ⟨_, argD0, ?_⟩
  | refine ⟨_, argD3, ?_⟩
  | refine ⟨_, argD4, ?_⟩
  | refine ⟨_, _, rfl, rfl, rfl, ?_⟩
  | refine ⟨_, _, _, rfl, rfl, rfl, ?_⟩
  | refine ⟨(by simp only [List.length_cons, List.length_nil]; decide), ?_⟩
  | refine ⟨rfl, nd1, ?_⟩
  | refine ⟨rfl, nd0, ?_⟩
  | refine ⟨_, argD8, ?_⟩
  | refine ⟨_, argD10, ?_⟩)
local macro_rules | `(tactic| walk_at "p") => `(tactic| refine ⟨_, _, rfl, (by omega), (by first | decide | omega), (by first | decide | omega), ?_⟩)
local macro_rules | `(tactic| walk_at "n") => `(tactic| try dsimp only [back, List.set_cons_zero, List.set_cons_succ, List.map_cons, List.map_nil, List.cons_append, List.nil_append])
local macro_rules | `(tactic| walk_at "q") => `(tactic| first | with_reducible refine ws_seqP (ws_par (by with_unfolding_all exact rfl) (by with_unfolding_all exact rfl) ?_) | refine ⟨_, _, rfl, ?_⟩ | walk_at "v")
local macro_rules | `(tactic| walk_at "j") => `(tactic| first
  | (with_reducible show WA _ _ _; with_reducible refine wa_slotJ (by with_unfolding_all exact rfl) ?_)
  | walk_at "v")
local macro_rules | `(tactic| walk_at "g3") => `(tactic| first | with_reducible refine we_dnew ?_ | with_reducible refine ck_tuple ?_ | with_reducible refine we_repr ?_ | walk_at "g2")
theorem nb_nd {n : Nat} : ∀ {ts : List (Int × Int)}, Valid n ts → ts.Nodup → ∀ {w : Int}, (nb ts w).Nodup
  | [], _, _, _ => by simp [nb]
  | t :: ts, hv, hnd, w => by
    obtain ⟨h1, h2⟩ := List.nodup_cons.mp hnd
    have hv2 : Valid n ts := fun s hs => hv s (by simp [hs])
    have ih := nb_nd hv2 h2 (w := w)
    have e : nb (t :: ts) w = (oth w t).toList ++ nb ts w := by
      unfold nb
      rw [List.filterMap_cons]
      cases oth w t <;> rfl
    rw [e]
    cases ho : oth w t with
    | none => exact ih
    | some v =>
      refine List.nodup_cons.mpr ⟨fun hm => ?_, ih⟩
      have ht := hv t (by simp)
      have e2 : t = (w, v) ∨ t = (v, w) := by
        have : v ∈ nb [t] w := by unfold nb; rw [List.filterMap_cons, ho]; simp
        rcases (mem_nb (n := n) (ts := [t]) fun s hs => by rw [List.mem_singleton.mp hs]; exact ht).mp this with h | h
        · exact .inl (List.mem_singleton.mp h).symm
        · exact .inr (List.mem_singleton.mp h).symm
      rcases (mem_nb hv2).mp hm with h | h
      · have := hv2 _ h
        rcases e2 with rfl | rfl
        · exact h1 h
        · dsimp only at this ht; omega
      · have := hv2 _ h
        rcases e2 with rfl | rfl
        · dsimp only at this ht; omega
        · exact h1 h
namespace J
end J
end G

/-! ### own sets of ints: set(), {x}, s.add(x), x in s, x not in s, sorted(s) -/
namespace GSO
open PySem PySem.Spec PyProof.Rows L2
theorem kds_of_code {K : PySem.W.Frag} {cd : Value} {q : Str} (h : PySem.W.codeIn K cd q = true) : PySem.W.kdsCode K cd = true := by
  unfold PySem.W.codeIn at h
  split at h
  · rename_i c
    split at h
    · rename_i vs _ e
      unfold PySem.W.kdsCode
      dsimp only
      rw [e]
    · cases h
  · cases h
section
variable {P : Program} {w : World} {A : Around} {E : Value → Shared → Prop} {s : Shared}
/-- a display of one entry -/
theorem set1_core {t : Sem Value} {b : Bool} {Q : Value → Shared → Prop}
    (h : wpAny (model P w) A t (fun v s' => wpAny (model P w) A (setAdd s.heap.objs.size v) (fun _ s2 => Q (.ref s.heap.objs.size) s2) E s') E { s with heap := s.heap.push (GW.newS w) }) :
    wpAny (model P w) A (setDisplay .oneByOne b [(false, t)]) Q E s := by
  unfold setDisplay
  try dsimp only
  rw [if_neg (by decide)]
  refine wpAny_bind (PpSet.newSet_ok ?_)
  dsimp only
  rw [show (if ([(false, t)] : List (Bool × Sem Value)).length > 30 then 0 else (([(false, t)] : List (Bool × Sem Value)).findIdx? (·.1)).getD ([(false, t)] : List (Bool × Sem Value)).length) = 1 from rfl]
  refine wpAny_bind (wpAny_holding ?_)
  show wpAny (model P w) A (evalAll [t] >>= _) _ _ _
  refine wpAny_bind ?_
  show wpAny (model P w) A (t >>= fun v => holding [v] (evalAll []) >>= fun r => pure (v :: r)) _ _ _
  refine wpAny_bind (wpAny_mono h (fun v s' h' => ?_) fun _ _ x => x)
  refine wpAny_bind (wpAny_holding ?_)
  refine wpAny_pure (wpAny_pure ?_)
  refine wpAny_bind (wpAny_holding ?_)
  rw [List.forIn_cons]
  refine wpAny_bind (wpAny_bind (wpAny_bind (wpAny_mono h' (fun r s2 h2 => ?_) fun _ _ x => x)))
  refine wpAny_pure ?_
  dsimp only
  rw [List.forIn_nil]
  refine wpAny_pure ?_
  rw [if_neg (by decide)]
  refine wpAny_pure ?_
  show wpAny (model P w) A (forIn [] PUnit.unit _ >>= _) _ _ _
  rw [List.forIn_nil]
  exact wpAny_bind (wpAny_pure (wpAny_pure (wpAny_pure h2)))
end
def SI (xs : List Int) : Int → Bool := fun k => decide (k ∈ xs)
/-- {e} -/
def tSet1 (w : World) (te : TE) : TE := fun σ H Q => ∀ D, H D = none → te σ (upd H D (SetO w D (SI []) 0)) fun x H1 => ∃ k, x = .int k ∧ H1 D = some (SetO w D (SI []) 0) ∧ Q (.ref D) (upd H1 D (SetO w D (SI [k]) 1))
theorem pe_set1 {X : Cx} {e : Expr} {te : TE} {k : Nat} {pos : Pos} (hk : k = 0) (hcd : PySem.W.kdsCode X.K X.env.code = true) (he : PE X e te) (hp : PySem.W.kdsPlain e = true := by rfl) : PE X (.Set [e] k pos) (tSet1 X.w te) := ⟨fun pins s σ H Q I h => by
  subst hk
  rw [arm_eval_Set]
  refine wpAny_bind (wpAny_standAt ?_)
  refine wpAny_bind (PySem.W.kds_main I.kIn hcd fun b => ?_)
  have hst : starEach [e] X.env = [(false, eval e X.env)] := by
    rw [PySem.W.kds_star [e] (by simp [hp])]
    rfl
  rw [hst]
  show wpAny _ _ (setDisplay .oneByOne b [(false, do let v ← eval e X.env; standAt pos; pure v)]) _ _ _
  refine set1_core ?_
  have hD : H s.heap.objs.size = none := I.hok.fresh (Nat.le_refl _)
  have hnew : SetR X.w (s.heap.push (GW.newS X.w)) s.heap.objs.size (SI []) 0 := by
    have := setR_fresh (h := s.heap) X.w
    exact this.congr fun k => by simp [SI]
  have I1 : Inv X pins σ (upd H s.heap.objs.size (SetO X.w s.heap.objs.size (SI []) 0)) { s with heap := s.heap.push (GW.newS X.w) } :=
    I.laid (t' := s.toks) (fun b u e => Heap.get?_push_of_some _ e) (Nat.le_refl _) (setO_new hnew)
  refine wpAny_bind (thn (he.run pins _ σ _ _ I1 (h _ hD)) fun v s1 ⟨x, H1, I2, r, q⟩ => ?_)
  obtain ⟨k, rfl, hH, q⟩ := q
  obtain ⟨tk, rfl⟩ := r
  refine wpAny_bind (wpAny_standAt (wpAny_pure ?_))
  unfold setAdd
  refine wpAny_holding (wpAny_bind ((intKind X.prog X.w).pyHash (k := k) (intKind_is _ _ _ _) ?_))
  refine setR_add_hashed (s := { s1 with toks := s1.toks + 1 }) (setO_get (I2.tok _) hH) (by decide) fun h' sb new => ?_
  have he' : ∃ u, h'.get? s.heap.objs.size = some u := by
    have ⟨o, _, _, _, ho, _⟩ := new
    exact ⟨o, ho⟩
  have new' : SetR X.w h' s.heap.objs.size (SI [k]) 1 := by
    have := new.congr (S' := SI [k]) fun j => by simp [SI]
    exact this
  exact ⟨.ref _, upd H1 s.heap.objs.size (SetO X.w s.heap.objs.size (SI [k]) 1), I2.write (e := s.heap.objs.size) (t' := s1.toks + 1) (by rw [hH]; trivial) (.inl rfl) (fun b u hb hu => (sb.2 b hb).trans hu) he' (setO_new new'), rfl, q⟩⟩
end GSO

namespace L2
open PySem PySem.Spec PyProof.Rows
section
variable {P : Program} {w : World} {K : PySem.W.Frag} {mg : Str → Option Value} {base : Heap} {x qual : Str} {params : Arguments} {body : List Stmt} {scope : Scope} {dvs : List V} {kws : List (Str × V)} {f : Addr} {fd : FuncData}
/-- the rule for a def, its code told -/
theorem FunD.okC {CX : CXT} {N ps : List Str} {k : Nat} {sp : Sp} (F : FunD K x qual params body scope dvs kws f fd) (S : FnScope N ps scope) (len : ∀ vs H Q E, sp vs H Q E → vs.length = ps.length)
    (hbody : ∀ (cdv : Value), PySem.W.kdsCode K cdv = true → ∀ (A : Around) (outer : List Env) (s : Shared) (H : Hp) (vs : List V) (Q : VK) (E : XK), Room k (A.deeper (envOfC qual scope s.heap.objs.size f cdv)) → sp vs H Q E →
      ∃ t, PSs (cxOf CX P w K mg base N qual scope f cdv A outer s H E) body t ∧ t { nx := fun _ H' => Q .non H', rt := Q } (start N vs) H) : FnOk P w K mg base CX (k + 1) f fd ps sp := by
  obtain ⟨oc, od, dV, kV, doc, pm, an, cdv, ct, osl, rfl, lk, hcd, _, _⟩ := F.ex
  exact fn_of lk hcd S len fun A outer s H vs Q E hr hsp => hbody cdv (GSO.kds_of_code hcd) A outer s H vs Q E hr hsp
end
end L2
namespace G
open PySem PySem.Spec PyProof.Rows L2 GSO
/-- a set of ints of one's own: xs its members -/
def setG (w : World) (xs : List Int) : Gp := ⟨fun _ v R => ∃ p, v = .ref p ∧ R p = some (SetO w p (SI xs) xs.length), fun _ r ⟨p, e, h⟩ => ⟨p, e, r _ _ h⟩⟩
def addI (xs : List Int) (k : Int) : List Int := if k ∈ xs then xs else k :: xs
theorem SI_nil : SI [] = fun _ => false := by funext k; simp [SI]
theorem SI_add {xs : List Int} {k : Int} : (fun j => SI xs j || decide (j = k)) = SI (addI xs k) ∧ (if SI xs k = true then xs.length else xs.length + 1) = (addI xs k).length := by
  unfold addI
  by_cases h : k ∈ xs
  · rw [if_pos h, if_pos (by simp [SI, h])]
    refine ⟨?_, rfl⟩
    funext j
    by_cases e : j = k
    · subst e; simp [SI, h]
    · simp [SI, e]
  · rw [if_neg h, if_neg (by simp [SI, h])]
    refine ⟨?_, rfl⟩
    funext j
    simp only [SI, List.mem_cons]
    by_cases e : j = k <;> simp [e]
section
variable {w : World} {K : PySem.W.Frag} {P : Nat → Bool} {Γ : Ga} {D : Pe} {k : Gp → Ga → Prop} {te : TE}
theorem we_set0 (hk : k (setG w []) Γ) : WE (tCB (rSet0 w) tNil) Γ k := fun ω σ H S Q f => by
  refine ⟨rfl, fun p hp => ?_⟩
  rw [← SI_nil]
  exact f _ (setG w []) Γ (paint ω p 2) _ hk (S.new 2 hp) ⟨p, rfl, paint_at⟩ (paint_fr hp)
theorem we_set1 (h : WQ te Γ fun q Γ1 => ∃ x : Int, q = dP (.int x) ∧ k (setG w [x]) Γ1) : WE (tSet1 w te) Γ k := fun ω σ H S Q f D hD => by
  refine h (paint ω D 1) σ _ (S.new 1 hD) _ fun v q Γ1 ω1 H1 ⟨x, e, hk⟩ S1 p f1 => ?_
  subst e
  cases DR.int_inv p
  have z := f1.2 D _ (paint_at (ω := ω) (H := H))
  have c1 := vw_c z
  refine ⟨x, rfl, vw_H z, ?_⟩
  have pn : ∀ c, c ≠ 1 → Same (vw ω1 H1 c) (vw (fun b => if b = D then 2 else ω1 b) (upd H1 D (SetO w D (SI [x]) 1)) c) := fun c hc a o y => by
    have ne : a ≠ D := fun e => hc (by rw [← vw_c y, e, c1])
    exact vw_mk (by show (if a = D then 2 else ω1 a) = c; rw [if_neg ne]; exact vw_c y) (by rw [upd_ne ne]; exact vw_H y)
  refine f _ (setG w [x]) Γ1 (fun b => if b = D then 2 else ω1 b) _ hk (S1.move (pn 0 (by decide)) fun i _ _ => pn _ (by omega)) ⟨D, rfl, vw_mk (by show (if D = D then 2 else ω1 D) = 2; rw [if_pos rfl]) upd_same⟩ ⟨fun a o y => pn 0 (by decide) a o ((paint_fr hD).trans f1 |>.1 a o y), fun a o y => ?_⟩
  have y1 := ((paint_fr (o := SetO w D (SI []) 0) (c := 1) hD).trans f1).2 a o y
  have ne : a ≠ D := ne_of_none (vw_H y) hD
  exact vw_mk (by show (if a = D then 2 else ω1 a) = 1; rw [if_neg ne]; exact vw_c y1) (by rw [upd_ne ne]; exact vw_H y1)
theorem we_sadd {i : Nat} {xs0 : List Int} (h0 : Γ[i]? = some (some (setG w xs0))) (h : WQ te Γ fun q Γ1 => ∃ (x : Int) (xs : List Int), q = dP (.int x) ∧ Γ1[i]? = some (some (setG w xs)) ∧ xs.length < 4000 ∧ k (dat .none) (Γ1.set i (some (setG w (addI xs x))))) :
    WE (tSAdd w (tVar i) (tCons te tNil)) Γ k := fun ω σ H S Q f => by
  obtain ⟨v, e, a0, rfl, hp0⟩ := S.2 i _ h0
  refine ⟨_, e, ⟨a0, _, _, rfl, vw_H hp0⟩, ?_⟩
  refine h ω σ H S _ fun u q Γ1 ω1 H1 ⟨x, xs, eq, hi, hl, hk⟩ S1 p f1 => ?_
  subst eq
  cases DR.int_inv p
  obtain ⟨v1, e1, a1, rfl, hp1⟩ := S1.2 i _ hi
  rw [e] at e1
  cases e1
  have ca := vw_c hp1
  obtain ⟨s1, s2⟩ := SI_add (xs := xs) (k := x)
  refine ⟨a0, x, SI xs, xs.length, rfl, rfl, vw_H hp1, by unfold scanBound; omega, ?_⟩
  rw [s1, s2]
  have m0 : Same (vw ω1 H1 0) (vw ω1 (upd H1 a0 (SetO w a0 (SI (addI xs x)) (addI xs x).length)) 0) := mut_same (by rw [ca]; omega)
  exact f .non (dat .none) _ ω1 _ hk (S1.set m0 (fun j' g' hne _ => mut_same (by rw [ca]; omega)) e ⟨a0, rfl, vw_mk ca upd_same⟩) DR.non (f1.trans ⟨m0, mut_same (by rw [ca]; omega)⟩)
theorem we_notInSet {i : Nat} (h : WQ te Γ fun q Γ1 => ∃ (x : Int) (xs : List Int), q = dP (.int x) ∧ Γ1[i]? = some (some (setG w xs)) ∧ k (dat (.bool (!decide (x ∈ xs)))) Γ1) : WE (tOp (rSNotIn w) te (tVar i)) Γ k := fun ω σ H S Q f =>
  h ω σ H S _ fun u q Γ1 ω1 H1 ⟨x, xs, eq, hi, hk⟩ S1 p f1 => by
    subst eq
    cases DR.int_inv p
    obtain ⟨v1, e1, a1, rfl, hp1⟩ := S1.2 i _ hi
    exact ⟨_, e1, x, a1, SI xs, xs.length, rfl, rfl, vw_H hp1, f _ (dat (.bool (!decide (x ∈ xs)))) Γ1 ω1 H1 hk S1 (DR.bl _) f1⟩
theorem we_sortedSet {i : Nat} {xs : List Int} (hi : Γ[i]? = some (some (setG w xs))) (hl : xs.length < 64) (hk : ∀ ms : List Int, ms.Pairwise (· < ·) → (∀ x, x ∈ ms ↔ x ∈ xs) → k (own (ms.map .int)) Γ) : WE (tCB (rSortedSet w) (tCons (tVar i) tNil)) Γ k := fun ω σ H S Q f => by
  obtain ⟨v1, e1, a1, rfl, hp1⟩ := S.2 i _ hi
  refine ⟨_, e1, ?_⟩
  refine ⟨a1, SI xs, xs.length, rfl, vw_H hp1, hl, fun ms p hp hm _ hn => ?_⟩
  exact f _ (own (ms.map .int)) Γ (paint ω p 2) _ (hk ms hp fun x => by rw [hm]; simp [SI]) (S.new 2 hn) ⟨p, _, rfl, paint_at, DRs.of_ints⟩ (paint_fr hn)
end
end G

namespace G
open PySem L2
section
variable {K : PySem.W.Frag} {P : Nat → Bool} {Γ : Ga} {D : Pe} {kb : Bool → Ga → Prop}
/-- the truth of an own list -/
theorem wt_truO {i : Nat} {ds : List PyData} (hi : Γ[i]? = some (some (own ds))) (hk : kb (!ds.isEmpty) Γ) : WT (tTru K (tVar i)) Γ kb := fun ω σ H S Q f => by
  obtain ⟨v, e, a, xs, rfl, ha, hd⟩ := S.2 i _ hi
  have e2 : (!xs.isEmpty) = !ds.isEmpty := by
    have := hd.length
    cases xs <;> cases ds <;> simp_all
  refine ⟨_, e, !xs.isEmpty, .inl ⟨xs, SqL.of (vw_H ha), rfl⟩, ?_⟩
  rw [e2]
  exact f _ Γ ω H hk S Fr.refl
end
end G

namespace G
open PySem PySem.Spec PyProof.Rows L2 GSO
theorem own_nil2 : Ent (own []) (own2 []) := fun A v R ⟨a, vs, e, h, t⟩ => by
  cases t
  exact ⟨a, [], e, h, by simp, rfl, fun i b ds e1 _ => by simp at e1⟩
section
variable {K : PySem.W.Frag} {w : World} {P : Nat → Bool} {Γ : Ga} {D : Pe}
/-- a slot seen otherwise -/
theorem ws_ent {i : Nat} {g g' : Gp} {t : TS} (hi : Γ[i]? = some (some g)) (e : Ent g g') (h : WS P t (Γ.set i (some g')) D) : WS P t Γ D := fun ω σ H S E m =>
  h ω σ H ⟨by rw [List.length_set]; exact S.1, fun j g2 hj => by
    rw [List.getElem?_set] at hj
    by_cases c : i = j
    · subst c
      rw [if_pos rfl] at hj
      split at hj
      · cases hj
        obtain ⟨v, h1, h2⟩ := S.2 i g hi
        exact ⟨v, h1, e _ _ _ h2⟩
      · cases hj
    · rw [if_neg c] at hj
      exact S.2 j g2 hj⟩ E m
/-- xs.append(part); for r in part: s.add(r) -/
theorem ws_appS {i p s r : Nat} {dss : List (List PyData)} {ms xs : List Int} (hi : Γ[i]? = some (some (own2 dss))) (hp : Γ[p]? = some (some (own (ms.map .int)))) (hs : Γ[s]? = some (some (setG w xs))) (hr : r < Γ.length)
    (ip : i ≠ p) (is : i ≠ s) (ps : p ≠ s) (ri : r ≠ i) (rp : r ≠ p) (rs : r ≠ s) (Pr : P r = false) (l1 : dss.length < 90000) (l2 : xs.length + ms.length < 4000)
    (hk : D.nx ((((Γ.set i (some (own2 (dss ++ [ms.map .int])))).set s (some (setG w (ms.foldl addI xs)))).set p none).set r none)) :
    WS P (tSeq (tDrop (tBM K "list" rAppend (tVar i) (tCons (tVar p) tNil))) (tFor (iList K (tVar p)) (gName r) (tDrop (tSAdd w (tVar s) (tCons (tVar r) tNil))))) Γ D := fun ω σ H S E m => by
  classical
  obtain ⟨vi, evi, a, bs, rfl, ha, nd, hb⟩ := S.2 i _ hi
  obtain ⟨vp, evp, b, ys, rfl, hbp, hy⟩ := S.2 p _ hp
  obtain ⟨vs, evs, q, rfl, hq⟩ := S.2 s _ hs
  have ca := vw_c ha
  have cb := vw_c hbp
  have cq := vw_c hq
  have ab : a ≠ b := fun e => by rw [e, cb] at ca; omega
  have aq : a ≠ q := fun e => by rw [e, cq] at ca; omega
  have bq : b ≠ q := fun e => by rw [e, cq] at cb; omega
  have hys : ys = ms.map V.int := hy.ints
  subst hys
  have lr : r < σ.length := by rw [S.1]; exact hr
  have cbs : ∀ c ∈ bs, ω c = i + 3 := fun c hc => by
    obtain ⟨t, ht⟩ := List.getElem?_of_mem hc
    have hlt : t < dss.length := by rw [← hb.1]; exact (List.getElem?_eq_some_iff.mp ht).1
    obtain ⟨zs, h1, _⟩ := hb.2 t c dss[t] ht (List.getElem?_eq_getElem hlt)
    exact vw_c h1
  have bbs : b ∉ bs := fun h => by have := cbs b h; omega
  refine ⟨.ref a, evi, .inl ⟨rfl, _, SqL.of (vw_H ha)⟩, .ref b, evp, a, bs.map V.ref, .ref b, rfl, rfl, vw_H ha, by rw [List.length_map, hb.1]; exact Nat.lt_of_lt_of_le l1 (by decide), ?_⟩
  generalize hH1 : upd H a (.lst (bs.map V.ref ++ [.ref b])) = H1
  have h1a : H1 a = some (.lst (bs.map V.ref ++ [.ref b])) := by rw [← hH1]; exact upd_same
  have h1o : ∀ c, c ≠ a → H1 c = H c := fun c hc => by rw [← hH1]; exact upd_ne hc
  refine ⟨_, evp, b, rfl, ⟨_, SqL.of (by rw [h1o b (Ne.symm ab)]; exact vw_H hbp)⟩, ?_⟩
  refine ⟨fun j μ σ' H' => μ = ms.length - j ∧ j ≤ ms.length ∧ σ'.length = σ.length ∧ (∀ t : Nat, t ≠ r → σ'[t]? = σ[t]?) ∧ (∀ c, c ≠ q → H' c = H1 c) ∧ H' q = some (SetO w q (SI ((ms.take j).foldl addI xs)) ((ms.take j).foldl addI xs).length),
    ⟨ms.length, by simp, Nat.zero_le _, rfl, fun _ _ => rfl, fun _ _ => rfl, by rw [h1o q (Ne.symm aq)]; exact vw_H hq⟩, ?_⟩
  rintro j μ σ' H' ⟨rfl, hj, q1, q2, q3, q4⟩
  have hbl : SqL K H' b (ms.map V.int) := SqL.of (by rw [q3 b bq, h1o b (Ne.symm ab)]; exact vw_H hbp)
  by_cases hlt : j < ms.length
  · refine .inr ⟨⟨_, .int ms[j], hbl, by simp [hlt]⟩, fun σ'' H'' => j + 1 ≤ ms.length ∧ σ''.length = σ.length ∧ (∀ t : Nat, t ≠ r → σ''[t]? = σ[t]?) ∧ (∀ c, c ≠ q → H'' c = H1 c) ∧ H'' q = some (SetO w q (SI ((ms.take (j + 1)).foldl addI xs)) ((ms.take (j + 1)).foldl addI xs).length), fun σ'' H'' z => ⟨ms.length - (j + 1), by omega, rfl, z⟩, fun x H'' yl => ?_⟩
    obtain ⟨rfl, yl⟩ := yl
    have hx := yl _ hbl
    rw [List.getElem?_map, List.getElem?_eq_getElem hlt] at hx
    cases hx
    have e1 : (ms.take (j + 1)).foldl addI xs = addI ((ms.take j).foldl addI xs) ms[j] := by
      rw [List.take_add_one, List.getElem?_eq_getElem hlt, List.foldl_append]
      rfl
    obtain ⟨s1, s2⟩ := SI_add (xs := (ms.take j).foldl addI xs) (k := ms[j])
    have hl : ∀ (l ys : List Int), (l.foldl addI ys).length ≤ ys.length + l.length := by
      intro l
      induction l with
      | nil => intro ys; simp
      | cons z l ih =>
        intro ys
        have := ih (addI ys z)
        have h2 : (addI ys z).length ≤ ys.length + 1 := by unfold addI; split <;> simp
        rw [List.foldl_cons, List.length_cons]
        omega
    have hl2 := hl (ms.take j) xs
    rw [List.length_take] at hl2
    refine ⟨.ref q, by rw [List.getElem?_set_ne rs, q2 s (Ne.symm rs)]; exact evs, ⟨q, _, _, rfl, q4⟩, .int ms[j], by rw [List.getElem?_set_self (by rw [q1]; exact lr)], q, ms[j], _, _, rfl, rfl, q4, by unfold scanBound; omega, hlt, by rw [List.length_set]; exact q1, fun t ht => by rw [List.getElem?_set_ne (Ne.symm ht)]; exact q2 t ht, fun c hc => by rw [upd_ne hc]; exact q3 c hc, ?_⟩
    rw [upd_same, s1, s2, e1]
  · have e : j = ms.length := by omega
    subst e
    rw [List.take_length] at q4
    refine .inl ⟨⟨_, hbl, by rw [List.length_map]; exact Nat.le_refl _⟩, ?_⟩
    let ω2 : Col := fun c => if c = b then i + 3 else ω c
    have hH : ∀ c, c ≠ a → c ≠ q → H' c = H c := fun c h1 h2 => by rw [q3 c h2, h1o c h1]
    have keep : ∀ d, d ≠ i + 3 → d ≠ p + 3 → d ≠ s + 3 → Same (vw ω H d) (vw ω2 H' d) := fun d d1 d2 d3 c o z => by
      have hc := vw_c z
      have n1 : c ≠ a := fun e => by rw [e, ca] at hc; exact d1 hc.symm
      have n2 : c ≠ b := fun e => by rw [e, cb] at hc; exact d2 hc.symm
      have n3 : c ≠ q := fun e => by rw [e, cq] at hc; exact d3 hc.symm
      exact vw_mk (by show (if c = b then i + 3 else ω c) = d; rw [if_neg n2]; exact hc) (by rw [hH c n1 n3]; exact vw_H z)
    have hb' : H' b = some (.lst (ms.map V.int)) := by rw [hH b (Ne.symm ab) bq]; exact vw_H hbp
    have ha' : H' a = some (.lst (bs.map V.ref ++ [.ref b])) := by rw [q3 a aq]; exact h1a
    refine m.nx _ ω2 σ' H' hk ⟨by rw [List.length_set, List.length_set, List.length_set, List.length_set, q1]; exact S.1, fun t g ht => ?_⟩ ⟨keep 0 (by omega) (by omega) (by omega), keep 1 (by omega) (by omega) (by omega)⟩ ⟨q1, fun t ht => ?_⟩
    · rw [set_eq] at ht
      by_cases htr : r = t
      · subst htr
        rw [if_pos rfl] at ht
        split at ht <;> cases ht
      rw [if_neg htr, set_eq] at ht
      by_cases htp : p = t
      · subst htp
        rw [if_pos rfl] at ht
        split at ht <;> cases ht
      rw [if_neg htp, set_eq] at ht
      by_cases hts : s = t
      · subst hts
        rw [if_pos rfl] at ht
        split at ht
        · cases ht
          exact ⟨_, by rw [q2 s (Ne.symm rs)]; exact evs, q, rfl, vw_mk (by show (if q = b then i + 3 else ω q) = s + 3; rw [if_neg (Ne.symm bq)]; exact cq) q4⟩
        · cases ht
      rw [if_neg hts, set_eq] at ht
      by_cases hti : i = t
      · subst hti
        rw [if_pos rfl] at ht
        split at ht
        · cases ht
          obtain ⟨n1, n2⟩ := List.nodup_cons.mp nd
          refine ⟨_, by rw [q2 i (Ne.symm ri)]; exact evi, a, bs ++ [b], rfl, vw_mk (by show (if a = b then i + 3 else ω a) = i + 3; rw [if_neg ab]; exact ca) (by rw [ha']; simp), ?_, ?_⟩
          · refine List.nodup_cons.mpr ⟨fun h => ?_, List.nodup_append.mpr ⟨n2, by simp, fun x hx y hy e => ?_⟩⟩
            · rcases List.mem_append.mp h with h | h
              · exact n1 h
              · exact ab (List.mem_singleton.mp h)
            · rw [List.mem_singleton.mp hy] at e
              exact bbs (e ▸ hx)
          · refine ⟨by rw [List.length_append, List.length_append, hb.1]; rfl, fun u c ds e1 e2 => ?_⟩
            by_cases hu : u < bs.length
            · rw [List.getElem?_append_left hu] at e1
              rw [List.getElem?_append_left (by rw [← hb.1]; exact hu)] at e2
              obtain ⟨zs, h1, h2⟩ := hb.2 u c ds e1 e2
              have hcm := List.mem_of_getElem? e1
              have n3 : c ≠ a := fun e => n1 (e ▸ hcm)
              have n4 : c ≠ b := fun e => bbs (e ▸ hcm)
              have n5 : c ≠ q := fun e => by have := cbs c hcm; rw [e, cq] at this; omega
              exact ⟨zs, vw_mk (by show (if c = b then i + 3 else ω c) = i + 3; rw [if_neg n4]; exact vw_c h1) (by rw [hH c n3 n5]; exact vw_H h1), h2.mono (keep 0 (by omega) (by omega) (by omega))⟩
            · have eu : u = bs.length := by
                have := (List.getElem?_eq_some_iff.mp e1).1
                rw [List.length_append, List.length_singleton] at this
                omega
              subst eu
              rw [List.getElem?_append_right (Nat.le_refl _), Nat.sub_self] at e1
              rw [hb.1, List.getElem?_append_right (Nat.le_refl _), Nat.sub_self] at e2
              cases e1
              cases e2
              exact ⟨_, vw_mk (by show (if b = b then i + 3 else ω b) = i + 3; rw [if_pos rfl]) hb', DRs.of_ints⟩
        · cases ht
      rw [if_neg hti] at ht
      obtain ⟨v, e1, e2⟩ := S.2 t g ht
      exact ⟨v, by rw [q2 t (Ne.symm htr)]; exact e1, g.mono (keep 0 (by omega) (by omega) (by omega)) (keep _ (by omega) (by omega) (by omega)) e2⟩
    · exact q2 t fun e => by rw [e, Pr] at ht; cases ht
end
end G

namespace G
open PySem L2
local macro_rules | `(tactic| walk_at "g1") => `(tactic| first
  | (with_reducible show WE _ _ _; with_reducible first | refine we_var (by with_unfolding_all exact rfl) ?_ | (show WE (tOp _ _ _) _ _; first | refine we_ixS (by with_unfolding_all exact rfl) ?_ | refine we_ixScr (by with_unfolding_all exact rfl) ?_ | refine we_inS (by with_unfolding_all exact rfl) ?_ | refine we_notInS (by with_unfolding_all exact rfl) ?_ | refine we_eqS (by with_unfolding_all exact rfl) ?_ | refine we_neS (by with_unfolding_all exact rfl) ?_ | refine we_opK ?_) | (show WE (tCB _ _) _ _; first | refine we_lenS' (by with_unfolding_all exact rfl) ?_ | refine we_lenScr (by with_unfolding_all exact rfl) ?_ | refine we_cbK ?_) | refine we_int ?_ | refine we_bl ?_ | refine we_non ?_ | refine we_str ?_ | refine we_neg ?_ | refine we_not ?_ | refine we_and ?_ | refine we_or ?_ | refine we_if ?_ | refine we_tup ?_ | refine we_lst ?_ | refine we_call ?_ | refine we_mt (by with_unfolding_all exact rfl) ?_)
  | (with_reducible show WS _ _ _ _; with_reducible first | refine ws_seqA ?_ | refine ws_seqD ?_ | refine ws_asg (by with_unfolding_all exact rfl) ?_ | refine ws_asgG ?_ | refine ws_if ?_ | refine ws_ret ?_ | refine ws_drop ?_ | refine ws_next ?_ | refine ws_retN ?_)
  | (with_reducible show WT _ _ _; with_reducible first | refine wt_test ?_ | refine wt_B ?_ | refine wt_not ?_ | refine wt_and ?_ | refine wt_or ?_ | refine wt_yes ?_)
  | (with_reducible show WA _ _ _; with_reducible first | refine wa_nil ?_ | refine wa_cons (wq_of (we_var (by with_unfolding_all exact rfl) ?_)) | refine wa_slotU (by with_unfolding_all exact rfl) ?_ | refine wa_cons ?_)
  | (with_reducible show OpK _ _ _ _ _; with_reducible first | refine ok_plusI ?_ | refine ok_sub ?_ | refine ok_lt ?_ | refine ok_le ?_ | refine ok_gt ?_ | refine ok_ge ?_ | refine ok_eqI ?_ | refine ok_neI ?_ | refine ok_mod (by first | assumption | decide | omega) ?_ | refine ok_ixL (by with_unfolding_all exact rfl) ?_)
  | (with_reducible show CbK _ _ _ _; with_reducible first | refine ck_lenL ?_ | refine ck_lenT ?_ | refine ck_int ?_ | refine ck_intB ?_ | refine ck_max ?_ | refine ck_min ?_ | refine ck_list ?_)
  | with_reducible refine wq_of ?_
  | (with_reducible show WG _ _ _ _ _; with_reducible first | refine wg_name (by with_unfolding_all exact rfl) ?_ | refine wg_tup (by with_unfolding_all exact rfl) ?_ | refine wg_set (by with_unfolding_all exact rfl) ?_)
  | (with_reducible show WGs _ _ _ _ _; with_reducible first | refine wgs_cons ?_ | refine wgs_nil ?_)
  | with_reducible refine iteT ?_
  | with_reducible refine iteF ?_
  | with_reducible refine ⟨_, frz_per, ?_⟩
  | with_reducible refine ⟨_, frz_own, ?_⟩
  | refine ⟨_, rfl, ?_⟩
  | refine ⟨_, argD1, ?_⟩
  | refine ⟨_, argD2, ?_⟩
  | refine ⟨_, argD0, ?_⟩
  | refine ⟨_, argD3, ?_⟩
  | refine ⟨_, argD4, ?_⟩
  | refine ⟨_, _, rfl, rfl, rfl, ?_⟩
  | refine ⟨_, _, _, rfl, rfl, rfl, ?_⟩
  | refine ⟨(by simp only [List.length_cons, List.length_nil]; decide), ?_⟩
  | refine ⟨rfl, nd1, ?_⟩
  | refine ⟨rfl, nd0, ?_⟩)
local macro_rules | `(tactic| walk_at "go") => `(tactic| repeat walk_at "g1")
local macro_rules | `(tactic| walk_at "g2") => `(tactic| first
  | (with_reducible show WE _ _ _; with_reducible first | refine we_var (by with_unfolding_all exact rfl) ?_ | (show WE (tOp _ _ _) _ _; first | refine we_notN ?_ | refine we_ixS (by with_unfolding_all exact rfl) ?_ | refine we_ixScr (by with_unfolding_all exact rfl) ?_ | refine we_inS (by with_unfolding_all exact rfl) ?_ | refine we_notInS (by with_unfolding_all exact rfl) ?_ | refine we_eqS (by with_unfolding_all exact rfl) ?_ | refine we_neS (by with_unfolding_all exact rfl) ?_ | refine we_opK ?_) | (show WE (tCB _ _) _ _; first | refine we_isInt ?_ | refine we_isBl ?_ | refine we_isLst ?_ | refine we_isTup ?_ | refine we_lenO (by with_unfolding_all exact rfl) ?_ | refine we_lenS' (by with_unfolding_all exact rfl) ?_ | refine we_lenScr (by with_unfolding_all exact rfl) ?_ | refine we_cbK ?_) | refine we_chain ?_ | refine we_slice ?_ | refine we_int ?_ | refine we_bl ?_ | refine we_non ?_ | refine we_str ?_ | refine we_neg ?_ | refine we_not ?_ | refine we_and ?_ | refine we_or ?_ | refine we_if ?_ | refine we_tup ?_ | refine we_lst ?_ | refine we_call ?_ | refine we_mt (by with_unfolding_all exact rfl) ?_)
  | (with_reducible show WS _ _ _ _; with_reducible first | refine ws_seqA ?_ | refine ws_seqD ?_ | refine ws_asg (by with_unfolding_all exact rfl) ?_ | refine ws_asgG ?_ | refine ws_if ?_ | refine ws_ret ?_ | refine ws_drop ?_ | refine ws_next ?_ | refine ws_retN ?_)
  | (with_reducible show WT _ _ _; with_reducible first | refine wt_test ?_ | refine wt_B ?_ | refine wt_not ?_ | refine wt_and ?_ | refine wt_or ?_ | refine wt_yes ?_)
  | (with_reducible show WA _ _ _; with_reducible first | refine wa_nil ?_ | refine wa_cons (wq_of (we_var (by with_unfolding_all exact rfl) ?_)) | refine wa_slotU (by with_unfolding_all exact rfl) ?_ | refine wa_cons ?_)
  | (with_reducible show OpK _ _ _ _ _; with_reducible first | refine ok_isB ?_ | refine ok_notB ?_ | refine ok_plusI ?_ | refine ok_sub ?_ | refine ok_lt ?_ | refine ok_le ?_ | refine ok_gt ?_ | refine ok_ge ?_ | refine ok_eqI ?_ | refine ok_neI ?_ | refine ok_mod (by first | assumption | decide | omega) ?_ | refine ok_ixL (by with_unfolding_all exact rfl) ?_)
  | (with_reducible show CbK _ _ _ _; with_reducible first | refine ck_lenL ?_ | refine ck_lenT ?_ | refine ck_int ?_ | refine ck_intB ?_ | refine ck_max ?_ | refine ck_min ?_ | refine ck_list ?_)
  | with_reducible refine wq_of ?_
  | (with_reducible show WG _ _ _ _ _; with_reducible first | refine wg_name (by with_unfolding_all exact rfl) ?_ | refine wg_tup (by with_unfolding_all exact rfl) ?_ | refine wg_set (by with_unfolding_all exact rfl) ?_)
  | (with_reducible show WGs _ _ _ _ _; with_reducible first | refine wgs_cons ?_ | refine wgs_nil ?_)
  | (with_reducible show WO _ _ _; with_reducible first | refine wo_some ?_ | refine wo_none ?_)
  | refine ⟨_, argD5, ?_⟩
  | refine ⟨_, argD6, ?_⟩
  | refine ⟨_, argD7, ?_⟩
  | refine ⟨_, argD9, ?_⟩
  | with_reducible refine iteT ?_
  | with_reducible refine iteF ?_
  | with_reducible refine ⟨_, frz_per, ?_⟩
  | with_reducible refine ⟨_, frz_own, ?_⟩
  | refine ⟨_, rfl, ?_⟩
  | refine ⟨_, argD1, ?_⟩
  | refine ⟨_, argD2, ?_⟩
  | refine ⟨_, argD0, ?_⟩
  | refine ⟨_, argD3, ?_⟩
  | refine ⟨_, argD4, ?_⟩
  | refine ⟨_, _, rfl, rfl, rfl, ?_⟩
  | refine ⟨_, _, _, rfl, rfl, rfl, ?_⟩
  | refine ⟨(by simp only [List.length_cons, List.length_nil]; decide), ?_⟩
  | refine ⟨rfl, nd1, ?_⟩
  | refine ⟨rfl, nd0, ?_⟩)
local macro_rules | `(tactic| walk_at "w") => `(tactic| first
  | (with_reducible show WE _ _ _; with_reducible first | refine we_var (by with_unfolding_all exact rfl) ?_ | refine we_varF (by with_unfolding_all exact rfl) frz_own ?_ | (show WE (tOp _ _ _) _ _; first | refine we_isNd ?_ | refine we_notNd ?_ | refine we_notN ?_ | refine we_ixS (by with_unfolding_all exact rfl) ?_ | refine we_ixScr (by with_unfolding_all exact rfl) ?_ | refine we_inS (by with_unfolding_all exact rfl) ?_ | refine we_notInS (by with_unfolding_all exact rfl) ?_ | refine we_eqS (by with_unfolding_all exact rfl) ?_ | refine we_neS (by with_unfolding_all exact rfl) ?_ | refine we_opK ?_) | (show WE (tCB _ _) _ _; first | refine we_repr ?_ | refine we_isInt ?_ | refine we_isBl ?_ | refine we_isLst ?_ | refine we_isTup ?_ | refine we_lenO (by with_unfolding_all exact rfl) ?_ | refine we_lenS' (by with_unfolding_all exact rfl) ?_ | refine we_lenScr (by with_unfolding_all exact rfl) ?_ | refine we_cbK ?_) | refine we_dnew ?_ | refine we_lenSetI ?_ | refine we_revL ?_ | refine we_chain ?_ | refine we_slice ?_ | refine we_int ?_ | refine we_bl ?_ | refine we_non ?_ | refine we_str ?_ | refine we_neg ?_ | refine we_not ?_ | refine we_and ?_ | refine we_or ?_ | refine we_if ?_ | refine we_tup ?_ | refine we_lst ?_ | refine we_call ?_ | refine we_mt (by with_unfolding_all exact rfl) ?_)
  | (with_reducible show WS _ _ _ _; with_reducible first | refine ws_seqI ?_ | refine ws_seqA ?_ | refine ws_seqD ?_ | refine ws_asg (by with_unfolding_all exact rfl) ?_ | refine ws_asgG ?_ | refine ws_if ?_ | refine ws_ret ?_ | refine ws_drop ?_ | refine ws_next ?_ | refine ws_retN ?_)
  | (with_reducible show WT _ _ _; with_reducible first | refine wt_truL ?_ | refine wt_test ?_ | refine wt_B ?_ | refine wt_not ?_ | refine wt_and ?_ | refine wt_or ?_ | refine wt_yes ?_)
  | (with_reducible show WA _ _ _; with_reducible first | refine wa_nil ?_ | refine wa_cons (wq_of (we_var (by with_unfolding_all exact rfl) ?_)) | refine wa_slotU (by with_unfolding_all exact rfl) ?_ | refine wa_cons ?_)
  | (with_reducible show OpK _ _ _ _ _; with_reducible first | refine ok_neR ?_ | refine ok_eqR ?_ | refine ok_isB ?_ | refine ok_notB ?_ | refine ok_plusI ?_ | refine ok_sub ?_ | refine ok_lt ?_ | refine ok_le ?_ | refine ok_gt ?_ | refine ok_ge ?_ | refine ok_eqI ?_ | refine ok_neI ?_ | refine ok_mod (by first | assumption | decide | omega) ?_ | refine ok_ixL (by with_unfolding_all exact rfl) ?_)
  | (with_reducible show CbK _ _ _ _; with_reducible first | refine ck_tuple ?_ | refine ck_allF ?_ | refine ck_anyF ?_ | refine ck_abs ?_ | refine ck_sumI ?_ | refine ck_lenL ?_ | refine ck_lenT ?_ | refine ck_int ?_ | refine ck_intB ?_ | refine ck_max ?_ | refine ck_min ?_ | refine ck_list ?_)
  | with_reducible refine wq_of ?_
  | (with_reducible show WG _ _ _ _ _; with_reducible first | refine wg_name (by with_unfolding_all exact rfl) ?_ | refine wg_tup (by with_unfolding_all exact rfl) ?_ | refine wg_set (by with_unfolding_all exact rfl) ?_)
  | (with_reducible show WGs _ _ _ _ _; with_reducible first | refine wgs_cons ?_ | refine wgs_nil ?_)
  | (with_reducible show WO _ _ _; with_reducible first | refine wo_some ?_ | refine wo_none ?_)
  | refine ⟨_, argD5, ?_⟩
  | refine ⟨_, argD6, ?_⟩
  | refine ⟨_, argD7, ?_⟩
  | refine ⟨_, argD9, ?_⟩
  | with_reducible refine iteT ?_
  | with_reducible refine iteF ?_
  | with_reducible refine ⟨_, frz_per, ?_⟩
  | with_reducible refine ⟨_, frz_own, ?_⟩
  | refine ⟨_, rfl, ?_⟩
  | refine ⟨_, argD1, ?_⟩
  | refine ⟨_, argD2, ?_⟩
  | refine ⟨_, argD0, ?_⟩
  | refine ⟨_, argD3, ?_⟩
  | refine ⟨_, argD4, ?_⟩
  | refine ⟨_, _, rfl, rfl, rfl, ?_⟩
  | refine ⟨_, _, _, rfl, rfl, rfl, ?_⟩
  | refine ⟨(by simp only [List.length_cons, List.length_nil]; decide), ?_⟩
  | refine ⟨rfl, nd1, ?_⟩
  | refine ⟨rfl, nd0, ?_⟩
  | refine ⟨_, argD8, ?_⟩
  | refine ⟨_, argD10, ?_⟩)
local macro_rules | `(tactic| walk_at "v") => `(tactic| first
  | (with_reducible show WE _ _ _; with_reducible first | refine we_var (by with_unfolding_all exact rfl) ?_ | refine we_varF (by with_unfolding_all exact rfl) frz_own ?_ | (show WE (tOp _ _ _) _ _; first | refine we_isNd ?_ | refine we_notNd ?_ | refine we_notN ?_ | refine we_ixS (by with_unfolding_all exact rfl) ?_ | refine we_ixScr (by with_unfolding_all exact rfl) ?_ | refine we_inS (by with_unfolding_all exact rfl) ?_ | refine we_notInS (by with_unfolding_all exact rfl) ?_ | refine we_eqS (by with_unfolding_all exact rfl) ?_ | refine we_neS (by with_unfolding_all exact rfl) ?_ | refine we_opK ?_) | (show WE (tCB _ _) _ _; first | refine we_repr ?_ | refine we_lenWeb (by with_unfolding_all exact rfl) (by assumption) ?_ | refine we_isInt ?_ | refine we_isBl ?_ | refine we_isLst ?_ | refine we_isTup ?_ | refine we_lenO (by with_unfolding_all exact rfl) ?_ | refine we_lenS' (by with_unfolding_all exact rfl) ?_ | refine we_lenScr (by with_unfolding_all exact rfl) ?_ | refine we_cbK ?_) | refine we_dnew ?_ | refine we_lenSetI ?_ | refine we_revL ?_ | refine we_nbWeb (by with_unfolding_all exact rfl) (by assumption) (by assumption) ?_ | refine we_tiesWeb (by with_unfolding_all exact rfl) ?_ | refine we_chain ?_ | refine we_slice ?_ | refine we_int ?_ | refine we_bl ?_ | refine we_non ?_ | refine we_str ?_ | refine we_neg ?_ | refine we_not ?_ | refine we_and ?_ | refine we_or ?_ | refine we_if ?_ | refine we_tup ?_ | refine we_lst ?_ | refine we_call ?_ | refine we_mt (by with_unfolding_all exact rfl) ?_)
  | (with_reducible show WS _ _ _ _; with_reducible first | refine ws_seqI ?_ | refine ws_seqA ?_ | refine ws_seqD ?_ | refine ws_asg (by with_unfolding_all exact rfl) ?_ | refine ws_asgG ?_ | refine ws_if ?_ | refine ws_ret ?_ | refine ws_drop ?_ | refine ws_next ?_ | refine ws_retN ?_)
  | (with_reducible show WT _ _ _; with_reducible first | refine wt_truL ?_ | refine wt_test ?_ | refine wt_B ?_ | refine wt_not ?_ | refine wt_and ?_ | refine wt_or ?_ | refine wt_yes ?_)
  | (with_reducible show WA _ _ _; with_reducible first | refine wa_nil ?_ | refine wa_cons (wq_of (we_var (by with_unfolding_all exact rfl) ?_)) | refine wa_slotU (by with_unfolding_all exact rfl) ?_ | refine wa_cons ?_)
  | (with_reducible show OpK _ _ _ _ _; with_reducible first | refine ok_neR ?_ | refine ok_eqR ?_ | refine ok_isB ?_ | refine ok_notB ?_ | refine ok_plusI ?_ | refine ok_sub ?_ | refine ok_lt ?_ | refine ok_le ?_ | refine ok_gt ?_ | refine ok_ge ?_ | refine ok_eqI ?_ | refine ok_neI ?_ | refine ok_mod (by first | assumption | decide | omega) ?_ | refine ok_ixL (by with_unfolding_all exact rfl) ?_)
  | (with_reducible show CbK _ _ _ _; with_reducible first | refine ck_tuple ?_ | refine ck_allF ?_ | refine ck_anyF ?_ | refine ck_abs ?_ | refine ck_sumI ?_ | refine ck_lenL ?_ | refine ck_lenT ?_ | refine ck_int ?_ | refine ck_intB ?_ | refine ck_max ?_ | refine ck_min ?_ | refine ck_list ?_)
  | with_reducible refine wq_of ?_
  | (with_reducible show WG _ _ _ _ _; with_reducible first | refine wg_name (by with_unfolding_all exact rfl) ?_ | refine wg_tup (by with_unfolding_all exact rfl) ?_ | refine wg_set (by with_unfolding_all exact rfl) ?_)
  | (with_reducible show WGs _ _ _ _ _; with_reducible first | refine wgs_cons ?_ | refine wgs_nil ?_)
  | (with_reducible show WO _ _ _; with_reducible first | refine wo_some ?_ | refine wo_none ?_)
  | refine ⟨_, argD5, ?_⟩
  | refine ⟨_, argD6, ?_⟩
  | refine ⟨_, argD7, ?_⟩
  | refine ⟨_, argD9, ?_⟩
  | with_reducible refine iteT ?_
  | with_reducible refine iteF ?_
  | with_reducible refine ⟨_, frz_per, ?_⟩
  | with_reducible refine ⟨_, frz_own, ?_⟩
  | refine ⟨_, rfl, ?_⟩
  | refine ⟨_, argD1, ?_⟩
  | refine ⟨_, argD2, ?_⟩
  | refine ⟨_, argD0, ?_⟩
  | refine ⟨_, argD3, ?_⟩
  | refine ⟨_, argD4, ?_⟩
  | refine ⟨_, _, rfl, rfl, rfl, ?_⟩
  | refine ⟨_, _, _, rfl, rfl, rfl, ?_⟩
  | refine ⟨(by simp only [List.length_cons, List.length_nil]; decide), ?_⟩
  | refine ⟨rfl, nd1, ?_⟩
  | refine ⟨rfl, nd0, ?_⟩
  | refine ⟨_, argD8, ?_⟩
  | refine ⟨_, argD10, ?_⟩)
local macro_rules | `(tactic| walk_at "p") => `(tactic| refine ⟨_, _, rfl, (by omega), (by first | decide | omega), (by first | decide | omega), ?_⟩)
local macro_rules | `(tactic| walk_at "n") => `(tactic| try dsimp only [back, List.set_cons_zero, List.set_cons_succ, List.map_cons, List.map_nil, List.cons_append, List.nil_append])
local macro_rules | `(tactic| walk_at "q") => `(tactic| first | with_reducible refine ws_seqP (ws_par (by with_unfolding_all exact rfl) (by with_unfolding_all exact rfl) ?_) | refine ⟨_, _, rfl, ?_⟩ | walk_at "v")
/-! ### what hangs together -/
inductive Conn (ts : List (Int × Int)) : Int → Int → Prop
  | refl (u : Int) : Conn ts u u
  | step {u v x : Int} : Conn ts u v → x ∈ nb ts v → Conn ts u x
/-- reached so far: xs; waiting: ws; E, what is under way -/
structure Front (n : Nat) (ts : List (Int × Int)) (p : Int) (xs ws : List Int) (E : Int → Prop) : Prop where
  root : p ∈ xs
  conn : ∀ x ∈ xs, Conn ts p x
  sub : ∀ x ∈ ws, x ∈ xs
  nd : xs.Nodup
  cl : ∀ x ∈ xs, x ∈ ws ∨ E x ∨ ∀ y ∈ nb ts x, y ∈ xs
  rng : ∀ x ∈ xs, 0 ≤ x ∧ x < n
theorem len_rng {n : Nat} {xs : List Int} (nd : xs.Nodup) (h : ∀ x ∈ xs, 0 ≤ x ∧ x < n) : xs.length ≤ n := by
  have key : ∀ (l : List Int) (D : List Nat), l.Nodup → (∀ x ∈ l, 0 ≤ x ∧ x.toNat ∈ D) → l.length ≤ D.length := by
    intro l
    induction l with
    | nil => intro D _ _; exact Nat.zero_le _
    | cons x l ih =>
      intro D nd hD
      obtain ⟨h1, h2⟩ := List.nodup_cons.mp nd
      obtain ⟨x0, hx⟩ := hD x List.mem_cons_self
      have := ih (D.erase x.toNat) h2 fun y hy => by
        obtain ⟨y0, hy2⟩ := hD y (List.mem_cons_of_mem _ hy)
        refine ⟨y0, (List.mem_erase_of_ne fun e => h1 ?_).mpr hy2⟩
        rw [show x = y by omega]
        exact hy
      rw [List.length_erase_of_mem hx] at this
      have := List.length_pos_of_mem hx
      rw [List.length_cons]
      omega
  have := key xs (List.range n) nd fun x hx => ⟨(h x hx).1, List.mem_range.mpr (by have := h x hx; omega)⟩
  rwa [List.length_range] at this
theorem nb_rng {n : Nat} {ts : List (Int × Int)} (hv : Valid n ts) {u v : Int} (h : v ∈ nb ts u) : 0 ≤ v ∧ v < n := by
  rcases (mem_nb hv).mp h with h | h <;> have := hv _ h <;> dsimp only at this <;> omega
theorem Front.all {n : Nat} {ts : List (Int × Int)} {p : Int} {xs : List Int} (F : Front n ts p xs [] fun _ => False) (x : Int) : x ∈ xs ↔ Conn ts p x := by
  refine ⟨F.conn x, fun h => ?_⟩
  have key : ∀ u, Conn ts p u → u ∈ xs := by
    intro u hc
    have : ∀ q u, Conn ts q u → q = p → u ∈ xs := by
      intro q u hc
      induction hc with
      | refl => intro e; rw [e]; exact F.root
      | step _ hx ih =>
        intro e
        rcases F.cl _ (ih e) with h | h | h
        · cases h
        · exact h.elim
        · exact h _ hx
    exact this p u hc rfl
  exact key x h
theorem mem_addI {xs : List Int} {k x : Int} : x ∈ addI xs k ↔ x = k ∨ x ∈ xs := by
  unfold addI
  split
  · rename_i h
    exact ⟨.inr, fun z => z.elim (fun e => e ▸ h) id⟩
  · exact List.mem_cons
abbrev t_Web_part_of_0 (K : PySem.W.Frag) (w : World) (a : Ad) : TS :=
  (tIfS (tTest (tOp (rSNotIn w) (tVar 5) (tVar 2))) (tSeq (tDrop (tSAdd w (tVar 2) (tCons (tVar 5) tNil)))
    (tDrop (tBM K "list" (rAppend) (tVar 3) (tCons (tVar 5) tNil)))) tNext)
abbrev t_Web_part_of_1 (K : PySem.W.Frag) (w : World) (a : Ad) : TS :=
  (tSeq (tAsg (tBM0 K "list" (rPop) (tVar 3)) (gName 4))
    (tFor (iList K (tOp (rIx K) (tFld K (tVar 0) "_near") (tVar 4))) (gName 5) (t_Web_part_of_0 K w a)))
abbrev t_Web_part_of_2 (K : PySem.W.Frag) (w : World) (a : Ad) : TS :=
  (tSeq (tAsg (tLst (tCons (tVar 1) tNil)) (gName 3))
    (tSeq (tWhile (tTru K (tVar 3)) (t_Web_part_of_1 K w a))
    (tRet (tCB (rSortedSet w) (tCons (tVar 2) tNil)))))
def t_Web_part_of (K : PySem.W.Frag) (w : World) (a : Ad) : TS :=
  (tSeq (tAsg (GSO.tSet1 w (tVar 1)) (gName 2))
    (t_Web_part_of_2 K w a))
abbrev N_Web_part_of : List Str := ["self", "place", "reached", "waiting", "here", "near"]
abbrev F_Web_part_of (a : Ad) : Fw := fun gs kk xx => ∃ (n : Nat) (ts : List (Int × Int)) (p : Nat), gs = [per (objP a.C_Web (webF n ts)), dat (.int p)] ∧ n ≤ 60 ∧ Valid n ts ∧ p < n ∧
  ∀ ms : List Int, ms.Pairwise (· < ·) → (∀ x, x ∈ ms ↔ Conn ts p x) → kk (own (ms.map .int)) [none, none]
abbrev sp_Web_part_of (K : PySem.W.Frag) (a : Ad) : Sp := SpG 2 (F_Web_part_of a)
theorem pure_Web_part_of {K : PySem.W.Frag} {w : World} {a : Ad} (c : Clf K a) {vs : List V} {H : Hp} {Q : VK} {E : XK} (h : sp_Web_part_of K a vs H Q E) :
    t_Web_part_of K w a { nx := fun _ H' => Q .non H', rt := Q } (start N_Web_part_of vs) H := by
  refine body_ok (fun _ => false) ?_ h
  rintro gs kk xx ⟨n, ts, p, rfl, hn, hv, hp, hk⟩ -
  unfold t_Web_part_of
  show WS _ _ [some (per (objP a.C_Web (webF n ts))), some (dat (.int p)), none, none, none, none] _
  refine ws_seq (ws_asg rfl (we_set1 ?_))
  refine wq_of (we_var rfl ⟨_, frz_per, (p : Int), rfl, ?_⟩)
  walk_at "n"
  refine ws_seqA ?_
  repeat walk_at "v"
  walk_at "n"
  have hnl : ((nearL n ts).map PyData.list).length = n := by rw [List.length_map, nearL_len]
  have hnr : (nearL n ts).map PyData.list = (nearC n ts).map rowI := by
    rw [nearL_eq ts hv]
    unfold rowsD rowI
    rw [List.map_map]
    rfl
  refine ws_seq (ws_while (fun m Γ => ∃ (xs ws : List Int) (o4 o5 : Option Gp), Γ = [some (per (objP a.C_Web (webF n ts))), some (dat (.int p)), some (setG w xs), some (own (ws.map .int)), o4, o5] ∧ Front n ts p xs ws (fun _ => False) ∧ m = 2 * (n - xs.length) + ws.length ∧ m ≤ 2 * n)
    ⟨_, [(p : Int)], [(p : Int)], _, _, rfl, ⟨by simp, fun x hx => by rw [List.mem_singleton.mp hx]; exact .refl _, fun x hx => hx, by simp, fun x hx => .inl hx, fun x hx => by rw [List.mem_singleton.mp hx]; omega⟩, rfl, by simp only [List.length_singleton]; omega⟩ ?_)
  rintro m _ ⟨xs, ws, o4, o5, rfl, F, hm, hm2⟩
  have hxl := len_rng F.nd F.rng
  refine wt_truO (i := 3) rfl ?_
  rcases List.eq_nil_or_concat ws with rfl | ⟨ws', h, rfl⟩
  · refine iteF ?_
    refine ws_ret (we_sortedSet (i := 2) rfl (by omega) fun ms m1 m2 => ?_)
    exact ⟨_, _, Ent.refl, les_none (les_none les_nil), hk ms m1 fun x => by rw [m2]; exact F.all x⟩
  · have hne : (!((ws' ++ [h]).map PyData.int).isEmpty) = true := by simp
    rw [List.concat_eq_append] at F ⊢
    rw [hne]
    refine iteT ?_
    have hh := F.rng h (F.sub h (by simp))
    obtain ⟨h, rfl⟩ : ∃ z : Nat, h = (z : Int) := ⟨h.toNat, by omega⟩
    refine ws_seq (ws_asg rfl ?_)
    refine we_mt0 (i := 3) (ds := (ws' ++ [(h : Int)]).map .int) rfl (mo_pop (d := .int h) (by simp)) ?_
    rw [List.map_append, List.map_cons, List.map_nil, List.dropLast_concat]
    walk_at "n"
    show WS _ _ [some (per (objP a.C_Web (webF n ts))), some (dat (.int p)), some (setG w xs), some (own (ws'.map .int)), some (dat (.int h)), o5] _
    have hnb : ((nearC n ts).map rowI)[((h : Int)).toNat]? = some (.list ((nb ts h).map .int)) := by rw [List.getElem?_map, Int.toNat_natCast, nearC_at (by omega)]; rfl
    refine ws_forF .int (fun pre Γ => ∃ (ys us : List Int) (o5 : Option Gp), Γ = [some (per (objP a.C_Web (webF n ts))), some (dat (.int p)), some (setG w ys), some (own (us.map .int)), some (dat (.int h)), o5] ∧ Front n ts p ys us (fun x => x = h) ∧ 2 * (n - ys.length) + us.length < m ∧ ∀ y ∈ pre, y ∈ ys) (wil_list ?_)
    repeat walk_at "v"
    refine we_fldP c.cl_Web c.nN rfl webF_near ?_
    repeat walk_at "v"
    rw [hnr]
    refine ok_ixL (atI_in (by omega) (d := .list ((nb ts h).map .int)) hnb) ?_
    repeat walk_at "v"
    refine ⟨⟨xs, ws', o5, rfl, ⟨F.root, F.conn, fun x hx => F.sub x (by simp [hx]), F.nd, fun x hx => ?_, F.rng⟩, ?_, fun y hy => nomatch hy⟩, ?_, ?_⟩
    · rcases F.cl x hx with h1 | h1 | h1
      · rcases List.mem_append.mp h1 with h1 | h1
        · exact .inl h1
        · exact .inr (.inl (List.mem_singleton.mp h1))
      · exact h1.elim
      · exact .inr (.inr h1)
    · rw [hm, List.length_concat]; omega
    · rintro _ ⟨ys, us, o5, rfl, F2, hlt, hall⟩
      refine ⟨_, hlt, ys, us, _, _, rfl, ⟨F2.root, F2.conn, F2.sub, F2.nd, fun x hx => ?_, F2.rng⟩, rfl, by omega⟩
      rcases F2.cl x hx with h1 | h1 | h1
      · exact .inl h1
      · rw [h1]; exact .inr (.inr hall)
      · exact .inr (.inr h1)
    · rintro pre y post _ hs ⟨ys, us, o5, rfl, F2, hlt, hall⟩
      have hy1 : y ∈ nb ts (h : Int) := by rw [hs]; simp
      have hyr := nb_rng hv hy1
      have hyl := len_rng F2.nd F2.rng
      refine wg_name rfl ?_
      walk_at "n"
      refine ws_if (wt_test (wq_of (we_notInSet (i := 2) ?_)))
      refine wq_of (we_var rfl ⟨_, frz_per, y, ys, rfl, rfl, _, frz_per, _, rfl, ?_⟩)
      by_cases hy : y ∈ ys
      · rw [decide_eq_true hy]
        exact iteF (ws_next ⟨ys, us, _, rfl, F2, hlt, fun z hz => by
          rcases List.mem_append.mp hz with hz | hz
          · exact hall z hz
          · rw [List.mem_singleton.mp hz]; exact hy⟩)
      · rw [decide_eq_false hy]
        refine iteT (ws_seq (ws_drop (we_sadd (i := 2) rfl ?_)))
        refine wq_of (we_var rfl ⟨_, frz_per, y, ys, rfl, rfl, by omega, ?_⟩)
        rw [show addI ys y = y :: ys from if_neg hy]
        walk_at "n"
        repeat walk_at "v"
        refine ⟨_, _, _, _, rfl, argD1, mo_append (by rw [List.length_map]; omega), ?_⟩
        have hyl2 : (y :: ys).length ≤ n := len_rng (List.nodup_cons.mpr ⟨hy, F2.nd⟩) fun x hx => by
          rcases List.mem_cons.mp hx with e | hx
          · rw [e]; exact hyr
          · exact F2.rng x hx
        refine ⟨y :: ys, us ++ [y], _, by rw [List.map_append]; rfl, ⟨List.mem_cons_of_mem _ F2.root, fun x hx => ?_, fun x hx => ?_, List.nodup_cons.mpr ⟨hy, F2.nd⟩, fun x hx => ?_, fun x hx => ?_⟩, ?_, fun z hz => ?_⟩
        · rcases List.mem_cons.mp hx with e | hx
          · rw [e]
            exact .step (F.conn _ (F.sub _ (by simp))) hy1
          · exact F2.conn x hx
        · rcases List.mem_append.mp hx with hx | hx
          · exact List.mem_cons_of_mem _ (F2.sub x hx)
          · rw [List.mem_singleton.mp hx]; exact List.mem_cons_self
        · rcases List.mem_cons.mp hx with e | hx
          · exact .inl (by simp [e])
          · rcases F2.cl x hx with h1 | h1 | h1
            · exact .inl (by simp [h1])
            · exact .inr (.inl h1)
            · exact .inr (.inr fun z hz => List.mem_cons_of_mem _ (h1 z hz))
        · rcases List.mem_cons.mp hx with e | hx
          · rw [e]; exact hyr
          · exact F2.rng x hx
        · rw [List.length_append, List.length_singleton]
          rw [List.length_cons] at hyl2 ⊢
          omega
        · rcases List.mem_append.mp hz with hz | hz
          · exact List.mem_cons_of_mem _ (hall z hz)
          · rw [List.mem_singleton.mp hz]; exact List.mem_cons_self
abbrev Eb (ts : List (Int × Int)) : Int → Int → Prop := fun u v => v ∈ nb ts u
theorem conn_reach {ts : List (Int × Int)} {u v : Int} : Conn ts u v ↔ Reach (Eb ts) u v := by
  constructor
  · intro h
    induction h with
    | refl => exact .refl _
    | step _ e ih => exact .step ih e
  · intro h
    induction h with
    | refl => exact .refl _
    | step _ e ih => exact .step ih e
theorem eb_sym {n : Nat} {ts : List (Int × Int)} (hv : Valid n ts) : ∀ u v, Eb ts u v → Eb ts v u := fun u v h => (mem_nb hv).mpr ((mem_nb hv).mp h).symm
theorem eb_rng {n : Nat} {ts : List (Int × Int)} (hv : Valid n ts) : ∀ u v, Eb ts u v → 0 ≤ v ∧ v < n := fun u v h => nb_rng hv h
theorem addI_nd {ys : List Int} {x : Int} (h : ys.Nodup) : (addI ys x).Nodup := by
  unfold addI
  split
  · exact h
  · rename_i hx
    exact List.nodup_cons.mpr ⟨hx, h⟩
theorem mem_fold {ms : List Int} : ∀ {ys : List Int} {x : Int}, x ∈ ms.foldl addI ys ↔ x ∈ ms ∨ x ∈ ys := by
  induction ms with
  | nil => intro ys x; simp
  | cons m ms ih => 
    intro ys x
    rw [List.foldl_cons, ih, mem_addI, List.mem_cons]
    constructor
    · rintro (h | h | h)
      · exact .inl (.inr h)
      · exact .inl (.inl h)
      · exact .inr h
    · rintro ((h | h) | h)
      · exact .inr (.inl h)
      · exact .inl h
      · exact .inr (.inr h)
theorem fold_nd {ms : List Int} : ∀ {ys : List Int}, ys.Nodup → (ms.foldl addI ys).Nodup := by
  induction ms with
  | nil => intro ys h; exact h
  | cons m ms ih => intro ys h; exact ih (addI_nd h)
abbrev t_Web_parts_0 (K : PySem.W.Frag) (w : World) (a : Ad) : TS :=
  (tSeq (tDrop (tBM K "list" (rAppend) (tVar 1) (tCons (tVar 4) tNil)))
    (tFor (iList K (tVar 4)) (gName 5) (tDrop (tSAdd w (tVar 2) (tCons (tVar 5) tNil)))))
abbrev t_Web_parts_1 (K : PySem.W.Frag) (w : World) (a : Ad) : TS :=
  (tIfS (tTest (tOp (rSNotIn w) (tVar 3) (tVar 2))) (tSeq (tAsg (tMeth a.C_Web "_part_of" (sp_Web_part_of K a) [] E0 (tVar 0) (tCons (tVar 3) tNil)) (gName 4))
    (t_Web_parts_0 K w a)) tNext)
abbrev t_Web_parts_2 (K : PySem.W.Frag) (w : World) (a : Ad) : TS :=
  (tSeq (tAsg (tCB (rSet0 w) tNil) (gName 2))
    (tSeq (tFor (iRng1 (tCons (tCB (rLenA K) (tCons (tFld K (tVar 0) "_near") tNil)) tNil)) (gName 3) (t_Web_parts_1 K w a))
    (tRet (tVar 1))))
def t_Web_parts (K : PySem.W.Frag) (w : World) (a : Ad) : TS :=
  (tSeq (tAsg (tLst tNil) (gName 1))
    (t_Web_parts_2 K w a))
abbrev N_Web_parts : List Str := ["self", "found", "seen", "place", "part", "other"]
abbrev rowN (ms : List Int) : List PyData := ms.map .int
noncomputable abbrev headsR (ts : List (Int × Int)) (n : Nat) (pre : List Nat) : List (List PyData) := ((pre.map fun i : Nat => (i : Int)).filter fun x => dcP (IsHead (Eb ts) x)).map fun h => rowN (partC (Eb ts) n h)
abbrev F_Web_parts (a : Ad) : Fw := fun gs kk xx => ∃ (n : Nat) (ts : List (Int × Int)), gs = [per (objP a.C_Web (webF n ts))] ∧ n ≤ 60 ∧ Valid n ts ∧ kk (own2 ((partsC (Eb ts) n).map rowN)) [none]
abbrev sp_Web_parts (K : PySem.W.Frag) (a : Ad) : Sp := SpG 1 (F_Web_parts a)
theorem headsR_all {ts : List (Int × Int)} {n : Nat} : headsR ts n (List.range n) = (partsC (Eb ts) n).map rowN := by
  unfold partsC headsC
  rw [List.map_map]
  rfl
theorem pure_Web_parts {K : PySem.W.Frag} {w : World} {a : Ad} (c : Clf K a) {vs : List V} {H : Hp} {Q : VK} {E : XK} (h : sp_Web_parts K a vs H Q E) :
    t_Web_parts K w a { nx := fun _ H' => Q .non H', rt := Q } (start N_Web_parts vs) H := by
  refine body_ok (fun _ => false) ?_ h
  rintro gs kk xx ⟨n, ts, rfl, hn, hv, hk⟩ -
  unfold t_Web_parts
  show WS _ _ [some (per (objP a.C_Web (webF n ts))), none, none, none, none, none] _
  refine ws_seqA ?_
  iterate 2 walk_at "v"
  refine wa_nil ⟨[], argD0, by simp, ?_⟩
  walk_at "n"
  refine ws_ent (i := 1) rfl own_nil2 ?_
  walk_at "n"
  refine ws_seq (ws_asg rfl (we_set0 ?_))
  walk_at "n"
  refine ws_seq (ws_forF (fun i : Nat => .int (i : Int)) (fun pre Γ => ∃ (ys : List Int) (o3 o4 o5 : Option Gp), Γ = [some (per (objP a.C_Web (webF n ts))), some (own2 (headsR ts n pre)), some (setG w ys), o3, o4, o5] ∧ ys.Nodup ∧ (∀ x ∈ ys, 0 ≤ x ∧ x < n) ∧ ∀ x, x ∈ ys ↔ ∃ h : Nat, h ∈ pre ∧ Reach (Eb ts) (h : Int) x) (wil_range1 ?_))
  have hnl : ((nearL n ts).map PyData.list).length = n := by rw [List.length_map, nearL_len]
  repeat walk_at "v"
  refine we_fldP c.cl_Web c.nN rfl webF_near ?_
  repeat walk_at "v"
  refine ⟨by omega, by omega, List.range n, by rw [hnl, Int.toNat_natCast], ⟨[], _, _, _, rfl, by simp, by simp, by simp⟩, ?_, ?_⟩
  · rintro _ ⟨ys, o3, o4, o5, rfl, -, -, -⟩
    rw [headsR_all]
    exact ws_ret (we_varM (i := 1) rfl ⟨_, _, Ent.refl, les_none les_nil, hk⟩)
  · rintro pre i post _ hs ⟨ys, o3, o4, o5, rfl, hnd, hrg, hys⟩
    have hpre := range_pre hs
    obtain ⟨rfl, hlt⟩ := range_split hs
    have hsy := eb_sym hv
    have her := eb_rng hv
    generalize hk0 : pre.length = k at hpre hlt
    have hk1 : ∀ h : Nat, h ∈ pre ↔ h < k := fun h => by rw [hpre]; exact List.mem_range
    have hin : (k : Int) ∈ ys ↔ ¬ IsHead (Eb ts) (k : Int) := by
      rw [hys]
      constructor
      · rintro ⟨h, h1, h2⟩ hh
        have := hh _ (h2.sym hsy)
        have := (hk1 h).mp h1
        omega
      · intro hn2
        refine Classical.byContradiction fun hne => hn2 fun y hy => Classical.byContradiction fun hlt2 => ?_
        have hyr := Reach.rng her hy ⟨by omega, by omega⟩
        refine hne ⟨y.toNat, (hk1 _).mpr (by omega), ?_⟩
        rw [Int.toNat_of_nonneg hyr.1]
        exact hy.sym hsy
    refine wg_name rfl ?_
    walk_at "n"
    refine ws_if (wt_test (wq_of (we_notInSet (i := 2) ?_)))
    refine wq_of (we_var rfl ⟨_, frz_per, (k : Int), ys, rfl, rfl, _, frz_per, _, rfl, ?_⟩)
    by_cases hy : (k : Int) ∈ ys
    · rw [decide_eq_true hy]
      have e : headsR ts n (pre ++ [k]) = headsR ts n pre := by
        unfold headsR
        rw [List.map_append, List.filter_append]
        rw [show ([k].map fun i : Nat => (i : Int)).filter (fun x => dcP (IsHead (Eb ts) x)) = [] from by
          rw [List.map_cons, List.map_nil, List.filter_cons, dcP_f (hin.mp hy)]; rfl]
        rw [List.append_nil]
      refine iteF (ws_next ⟨ys, _, _, _, by rw [e], hnd, hrg, fun x => ?_⟩)
      rw [hys]
      constructor
      · rintro ⟨h, h1, h2⟩
        exact ⟨h, List.mem_append_left _ h1, h2⟩
      · rintro ⟨h, h1, h2⟩
        rcases List.mem_append.mp h1 with h1 | h1
        · exact ⟨h, h1, h2⟩
        · rw [List.mem_singleton.mp h1] at h2
          obtain ⟨h', h3, h4⟩ := (hys _).mp hy
          exact ⟨h', h3, h4.trans h2⟩
    · rw [decide_eq_false hy]
      have hh : IsHead (Eb ts) (k : Int) := Classical.byContradiction fun z => hy (hin.mpr z)
      refine iteT (ws_seq (ws_asg rfl (we_meth rfl (webF_no (by decide +kernel) (by decide +kernel)) ?_)))
      refine wa_cons (wq_of (we_var rfl ⟨_, frz_per, wa_nil ⟨rfl, rfl, rfl, n, ts, k, rfl, hn, hv, hlt, fun ms m1 m2 => ?_⟩⟩))
      have em : ms = partC (Eb ts) n k := lt_uniq m1 partC_lt fun x => by
        rw [m2, conn_reach, mem_partC]
        exact ⟨fun h => ⟨Reach.rng her h ⟨by omega, by omega⟩, h⟩, fun h => h.2⟩
      subst em
      walk_at "n"
      have hyl := len_rng hnd hrg
      have hpl : (partC (Eb ts) n (k : Int)).length ≤ n := partC_len
      have hdl : (headsR ts n pre).length ≤ n := by
        unfold headsR
        rw [List.length_map]
        refine Nat.le_trans (List.length_filter_le _ _) ?_
        rw [List.length_map]
        omega
      refine ws_appS (i := 1) (p := 4) (s := 2) (r := 5) rfl rfl rfl (by show 5 < 6; decide) (by decide) (by decide) (by decide) (by decide) (by decide) (by decide) rfl (by omega) (by omega) ?_
      refine ⟨(partC (Eb ts) n (k : Int)).foldl addI ys, some (dat (.int (k : Int))), none, none, ?_, fold_nd hnd, fun x hx => ?_, fun x => ?_⟩
      · have e : headsR ts n (pre ++ [k]) = headsR ts n pre ++ [(partC (Eb ts) n (k : Int)).map .int] := by
          unfold headsR
          rw [List.map_append, List.filter_append]
          rw [show ([k].map fun i : Nat => (i : Int)).filter (fun x => dcP (IsHead (Eb ts) x)) = [(k : Int)] from by
            rw [List.map_cons, List.map_nil, List.filter_cons, dcP_iff.mpr hh]; rfl]
          rw [List.map_append]
          rfl
        rw [e]
        rfl
      · rcases mem_fold.mp hx with h | h
        · exact (mem_partC.mp h).1
        · exact hrg x h
      · rw [mem_fold, hys, mem_partC]
        constructor
        · rintro (h | ⟨h, h1, h2⟩)
          · exact ⟨k, by simp, h.2⟩
          · exact ⟨h, List.mem_append_left _ h1, h2⟩
        · rintro ⟨h, h1, h2⟩
          rcases List.mem_append.mp h1 with h1 | h1
          · exact .inr ⟨h, h1, h2⟩
          · rw [List.mem_singleton.mp h1] at h2
            exact .inl ⟨Reach.rng her h2 ⟨by omega, by omega⟩, h2⟩
end G

namespace G
open PySem L2
local macro_rules | `(tactic| walk_at "g1") => `(tactic| first
  | (with_reducible show WE _ _ _; with_reducible first | refine we_var (by with_unfolding_all exact rfl) ?_ | (show WE (tOp _ _ _) _ _; first | refine we_ixS (by with_unfolding_all exact rfl) ?_ | refine we_ixScr (by with_unfolding_all exact rfl) ?_ | refine we_inS (by with_unfolding_all exact rfl) ?_ | refine we_notInS (by with_unfolding_all exact rfl) ?_ | refine we_eqS (by with_unfolding_all exact rfl) ?_ | refine we_neS (by with_unfolding_all exact rfl) ?_ | refine we_opK ?_) | (show WE (tCB _ _) _ _; first | refine we_lenS' (by with_unfolding_all exact rfl) ?_ | refine we_lenScr (by with_unfolding_all exact rfl) ?_ | refine we_cbK ?_) | refine we_int ?_ | refine we_bl ?_ | refine we_non ?_ | refine we_str ?_ | refine we_neg ?_ | refine we_not ?_ | refine we_and ?_ | refine we_or ?_ | refine we_if ?_ | refine we_tup ?_ | refine we_lst ?_ | refine we_call ?_ | refine we_mt (by with_unfolding_all exact rfl) ?_)
  | (with_reducible show WS _ _ _ _; with_reducible first | refine ws_seqA ?_ | refine ws_seqD ?_ | refine ws_asg (by with_unfolding_all exact rfl) ?_ | refine ws_asgG ?_ | refine ws_if ?_ | refine ws_ret ?_ | refine ws_drop ?_ | refine ws_next ?_ | refine ws_retN ?_)
  | (with_reducible show WT _ _ _; with_reducible first | refine wt_test ?_ | refine wt_B ?_ | refine wt_not ?_ | refine wt_and ?_ | refine wt_or ?_ | refine wt_yes ?_)
  | (with_reducible show WA _ _ _; with_reducible first | refine wa_nil ?_ | refine wa_cons (wq_of (we_var (by with_unfolding_all exact rfl) ?_)) | refine wa_slotU (by with_unfolding_all exact rfl) ?_ | refine wa_cons ?_)
  | (with_reducible show OpK _ _ _ _ _; with_reducible first | refine ok_plusI ?_ | refine ok_sub ?_ | refine ok_lt ?_ | refine ok_le ?_ | refine ok_gt ?_ | refine ok_ge ?_ | refine ok_eqI ?_ | refine ok_neI ?_ | refine ok_mod (by first | assumption | decide | omega) ?_ | refine ok_ixL (by with_unfolding_all exact rfl) ?_)
  | (with_reducible show CbK _ _ _ _; with_reducible first | refine ck_lenL ?_ | refine ck_lenT ?_ | refine ck_int ?_ | refine ck_intB ?_ | refine ck_max ?_ | refine ck_min ?_ | refine ck_list ?_)
  | with_reducible refine wq_of ?_
  | (with_reducible show WG _ _ _ _ _; with_reducible first | refine wg_name (by with_unfolding_all exact rfl) ?_ | refine wg_tup (by with_unfolding_all exact rfl) ?_ | refine wg_set (by with_unfolding_all exact rfl) ?_)
  | (with_reducible show WGs _ _ _ _ _; with_reducible first | refine wgs_cons ?_ | refine wgs_nil ?_)
  | with_reducible refine iteT ?_
  | with_reducible refine iteF ?_
  | with_reducible refine ⟨_, frz_per, ?_⟩
  | with_reducible refine ⟨_, frz_own, ?_⟩
  | refine ⟨_, rfl, ?_⟩
  | refine ⟨_, argD1, ?_⟩
  | refine ⟨_, argD2, ?_⟩
  | refine ⟨_, argD0, ?_⟩
  | refine ⟨_, argD3, ?_⟩
  | refine ⟨_, argD4, ?_⟩
  | refine ⟨_, _, rfl, rfl, rfl, ?_⟩
  | refine ⟨_, _, _, rfl, rfl, rfl, ?_⟩
  | refine ⟨(by simp only [List.length_cons, List.length_nil]; decide), ?_⟩
  | refine ⟨rfl, nd1, ?_⟩
  | refine ⟨rfl, nd0, ?_⟩)
local macro_rules | `(tactic| walk_at "go") => `(tactic| repeat walk_at "g1")
local macro_rules | `(tactic| walk_at "g2") => `(tactic| first
  | (with_reducible show WE _ _ _; with_reducible first | refine we_var (by with_unfolding_all exact rfl) ?_ | (show WE (tOp _ _ _) _ _; first | refine we_notN ?_ | refine we_ixS (by with_unfolding_all exact rfl) ?_ | refine we_ixScr (by with_unfolding_all exact rfl) ?_ | refine we_inS (by with_unfolding_all exact rfl) ?_ | refine we_notInS (by with_unfolding_all exact rfl) ?_ | refine we_eqS (by with_unfolding_all exact rfl) ?_ | refine we_neS (by with_unfolding_all exact rfl) ?_ | refine we_opK ?_) | (show WE (tCB _ _) _ _; first | refine we_isInt ?_ | refine we_isBl ?_ | refine we_isLst ?_ | refine we_isTup ?_ | refine we_lenO (by with_unfolding_all exact rfl) ?_ | refine we_lenS' (by with_unfolding_all exact rfl) ?_ | refine we_lenScr (by with_unfolding_all exact rfl) ?_ | refine we_cbK ?_) | refine we_chain ?_ | refine we_slice ?_ | refine we_int ?_ | refine we_bl ?_ | refine we_non ?_ | refine we_str ?_ | refine we_neg ?_ | refine we_not ?_ | refine we_and ?_ | refine we_or ?_ | refine we_if ?_ | refine we_tup ?_ | refine we_lst ?_ | refine we_call ?_ | refine we_mt (by with_unfolding_all exact rfl) ?_)
  | (with_reducible show WS _ _ _ _; with_reducible first | refine ws_seqA ?_ | refine ws_seqD ?_ | refine ws_asg (by with_unfolding_all exact rfl) ?_ | refine ws_asgG ?_ | refine ws_if ?_ | refine ws_ret ?_ | refine ws_drop ?_ | refine ws_next ?_ | refine ws_retN ?_)
  | (with_reducible show WT _ _ _; with_reducible first | refine wt_test ?_ | refine wt_B ?_ | refine wt_not ?_ | refine wt_and ?_ | refine wt_or ?_ | refine wt_yes ?_)
  | (with_reducible show WA _ _ _; with_reducible first | refine wa_nil ?_ | refine wa_cons (wq_of (we_var (by with_unfolding_all exact rfl) ?_)) | refine wa_slotU (by with_unfolding_all exact rfl) ?_ | refine wa_cons ?_)
  | (with_reducible show OpK _ _ _ _ _; with_reducible first | refine ok_isB ?_ | refine ok_notB ?_ | refine ok_plusI ?_ | refine ok_sub ?_ | refine ok_lt ?_ | refine ok_le ?_ | refine ok_gt ?_ | refine ok_ge ?_ | refine ok_eqI ?_ | refine ok_neI ?_ | refine ok_mod (by first | assumption | decide | omega) ?_ | refine ok_ixL (by with_unfolding_all exact rfl) ?_)
  | (with_reducible show CbK _ _ _ _; with_reducible first | refine ck_lenL ?_ | refine ck_lenT ?_ | refine ck_int ?_ | refine ck_intB ?_ | refine ck_max ?_ | refine ck_min ?_ | refine ck_list ?_)
  | with_reducible refine wq_of ?_
  | (with_reducible show WG _ _ _ _ _; with_reducible first | refine wg_name (by with_unfolding_all exact rfl) ?_ | refine wg_tup (by with_unfolding_all exact rfl) ?_ | refine wg_set (by with_unfolding_all exact rfl) ?_)
  | (with_reducible show WGs _ _ _ _ _; with_reducible first | refine wgs_cons ?_ | refine wgs_nil ?_)
  | (with_reducible show WO _ _ _; with_reducible first | refine wo_some ?_ | refine wo_none ?_)
  | refine ⟨_, argD5, ?_⟩
  | refine ⟨_, argD6, ?_⟩
  | refine ⟨_, argD7, ?_⟩
  | refine ⟨_, argD9, ?_⟩
  | with_reducible refine iteT ?_
  | with_reducible refine iteF ?_
  | with_reducible refine ⟨_, frz_per, ?_⟩
  | with_reducible refine ⟨_, frz_own, ?_⟩
  | refine ⟨_, rfl, ?_⟩
  | refine ⟨_, argD1, ?_⟩
  | refine ⟨_, argD2, ?_⟩
  | refine ⟨_, argD0, ?_⟩
  | refine ⟨_, argD3, ?_⟩
  | refine ⟨_, argD4, ?_⟩
  | refine ⟨_, _, rfl, rfl, rfl, ?_⟩
  | refine ⟨_, _, _, rfl, rfl, rfl, ?_⟩
  | refine ⟨(by simp only [List.length_cons, List.length_nil]; decide), ?_⟩
  | refine ⟨rfl, nd1, ?_⟩
  | refine ⟨rfl, nd0, ?_⟩)
local macro_rules | `(tactic| walk_at "w") => `(tactic| first
  | (with_reducible show WE _ _ _; with_reducible first | refine we_var (by with_unfolding_all exact rfl) ?_ | refine we_varF (by with_unfolding_all exact rfl) frz_own ?_ | (show WE (tOp _ _ _) _ _; first | refine we_isNd ?_ | refine we_notNd ?_ | refine we_notN ?_ | refine we_ixS (by with_unfolding_all exact rfl) ?_ | refine we_ixScr (by with_unfolding_all exact rfl) ?_ | refine we_inS (by with_unfolding_all exact rfl) ?_ | refine we_notInS (by with_unfolding_all exact rfl) ?_ | refine we_eqS (by with_unfolding_all exact rfl) ?_ | refine we_neS (by with_unfolding_all exact rfl) ?_ | refine we_opK ?_) | (show WE (tCB _ _) _ _; first | refine we_repr ?_ | refine we_isInt ?_ | refine we_isBl ?_ | refine we_isLst ?_ | refine we_isTup ?_ | refine we_lenO (by with_unfolding_all exact rfl) ?_ | refine we_lenS' (by with_unfolding_all exact rfl) ?_ | refine we_lenScr (by with_unfolding_all exact rfl) ?_ | refine we_cbK ?_) | refine we_dnew ?_ | refine we_lenSetI ?_ | refine we_revL ?_ | refine we_chain ?_ | refine we_slice ?_ | refine we_int ?_ | refine we_bl ?_ | refine we_non ?_ | refine we_str ?_ | refine we_neg ?_ | refine we_not ?_ | refine we_and ?_ | refine we_or ?_ | refine we_if ?_ | refine we_tup ?_ | refine we_lst ?_ | refine we_call ?_ | refine we_mt (by with_unfolding_all exact rfl) ?_)
  | (with_reducible show WS _ _ _ _; with_reducible first | refine ws_seqI ?_ | refine ws_seqA ?_ | refine ws_seqD ?_ | refine ws_asg (by with_unfolding_all exact rfl) ?_ | refine ws_asgG ?_ | refine ws_if ?_ | refine ws_ret ?_ | refine ws_drop ?_ | refine ws_next ?_ | refine ws_retN ?_)
  | (with_reducible show WT _ _ _; with_reducible first | refine wt_truL ?_ | refine wt_test ?_ | refine wt_B ?_ | refine wt_not ?_ | refine wt_and ?_ | refine wt_or ?_ | refine wt_yes ?_)
  | (with_reducible show WA _ _ _; with_reducible first | refine wa_nil ?_ | refine wa_cons (wq_of (we_var (by with_unfolding_all exact rfl) ?_)) | refine wa_slotU (by with_unfolding_all exact rfl) ?_ | refine wa_cons ?_)
  | (with_reducible show OpK _ _ _ _ _; with_reducible first | refine ok_neR ?_ | refine ok_eqR ?_ | refine ok_isB ?_ | refine ok_notB ?_ | refine ok_plusI ?_ | refine ok_sub ?_ | refine ok_lt ?_ | refine ok_le ?_ | refine ok_gt ?_ | refine ok_ge ?_ | refine ok_eqI ?_ | refine ok_neI ?_ | refine ok_mod (by first | assumption | decide | omega) ?_ | refine ok_ixL (by with_unfolding_all exact rfl) ?_)
  | (with_reducible show CbK _ _ _ _; with_reducible first | refine ck_tuple ?_ | refine ck_allF ?_ | refine ck_anyF ?_ | refine ck_abs ?_ | refine ck_sumI ?_ | refine ck_lenL ?_ | refine ck_lenT ?_ | refine ck_int ?_ | refine ck_intB ?_ | refine ck_max ?_ | refine ck_min ?_ | refine ck_list ?_)
  | with_reducible refine wq_of ?_
  | (with_reducible show WG _ _ _ _ _; with_reducible first | refine wg_name (by with_unfolding_all exact rfl) ?_ | refine wg_tup (by with_unfolding_all exact rfl) ?_ | refine wg_set (by with_unfolding_all exact rfl) ?_)
  | (with_reducible show WGs _ _ _ _ _; with_reducible first | refine wgs_cons ?_ | refine wgs_nil ?_)
  | (with_reducible show WO _ _ _; with_reducible first | refine wo_some ?_ | refine wo_none ?_)
  | refine ⟨_, argD5, ?_⟩
  | refine ⟨_, argD6, ?_⟩
  | refine ⟨_, argD7, ?_⟩
  | refine ⟨_, argD9, ?_⟩
  | with_reducible refine iteT ?_
  | with_reducible refine iteF ?_
  | with_reducible refine ⟨_, frz_per, ?_⟩
  | with_reducible refine ⟨_, frz_own, ?_⟩
  | refine ⟨_, rfl, ?_⟩
  | refine ⟨_, argD1, ?_⟩
  | refine ⟨_, argD2, ?_⟩
  | refine ⟨_, argD0, ?_⟩
  | refine ⟨_, argD3, ?_⟩
  | refine ⟨_, argD4, ?_⟩
  | refine ⟨_, _, rfl, rfl, rfl, ?_⟩
  | refine ⟨_, _, _, rfl, rfl, rfl, ?_⟩
  | refine ⟨(by simp only [List.length_cons, List.length_nil]; decide), ?_⟩
  | refine ⟨rfl, nd1, ?_⟩
  | refine ⟨rfl, nd0, ?_⟩
  | refine ⟨_, argD8, ?_⟩
  | refine ⟨_, argD10, ?_⟩)
local macro_rules | `(tactic| walk_at "v") => `(tactic| first
  | (with_reducible show WE _ _ _; with_reducible first | refine we_var (by with_unfolding_all exact rfl) ?_ | refine we_varF (by with_unfolding_all exact rfl) frz_own ?_ | (show WE (tOp _ _ _) _ _; first | refine we_isNd ?_ | refine we_notNd ?_ | refine we_notN ?_ | refine we_ixS (by with_unfolding_all exact rfl) ?_ | refine we_ixScr (by with_unfolding_all exact rfl) ?_ | refine we_inS (by with_unfolding_all exact rfl) ?_ | refine we_notInS (by with_unfolding_all exact rfl) ?_ | refine we_eqS (by with_unfolding_all exact rfl) ?_ | refine we_neS (by with_unfolding_all exact rfl) ?_ | refine we_opK ?_) | (show WE (tCB _ _) _ _; first | refine we_repr ?_ | refine we_lenWeb (by with_unfolding_all exact rfl) (by assumption) ?_ | refine we_isInt ?_ | refine we_isBl ?_ | refine we_isLst ?_ | refine we_isTup ?_ | refine we_lenO (by with_unfolding_all exact rfl) ?_ | refine we_lenS' (by with_unfolding_all exact rfl) ?_ | refine we_lenScr (by with_unfolding_all exact rfl) ?_ | refine we_cbK ?_) | refine we_dnew ?_ | refine we_lenSetI ?_ | refine we_revL ?_ | refine we_nbWeb (by with_unfolding_all exact rfl) (by assumption) (by assumption) ?_ | refine we_tiesWeb (by with_unfolding_all exact rfl) ?_ | refine we_chain ?_ | refine we_slice ?_ | refine we_int ?_ | refine we_bl ?_ | refine we_non ?_ | refine we_str ?_ | refine we_neg ?_ | refine we_not ?_ | refine we_and ?_ | refine we_or ?_ | refine we_if ?_ | refine we_tup ?_ | refine we_lst ?_ | refine we_call ?_ | refine we_mt (by with_unfolding_all exact rfl) ?_)
  | (with_reducible show WS _ _ _ _; with_reducible first | refine ws_seqI ?_ | refine ws_seqA ?_ | refine ws_seqD ?_ | refine ws_asg (by with_unfolding_all exact rfl) ?_ | refine ws_asgG ?_ | refine ws_if ?_ | refine ws_ret ?_ | refine ws_drop ?_ | refine ws_next ?_ | refine ws_retN ?_)
  | (with_reducible show WT _ _ _; with_reducible first | refine wt_truL ?_ | refine wt_test ?_ | refine wt_B ?_ | refine wt_not ?_ | refine wt_and ?_ | refine wt_or ?_ | refine wt_yes ?_)
  | (with_reducible show WA _ _ _; with_reducible first | refine wa_nil ?_ | refine wa_cons (wq_of (we_var (by with_unfolding_all exact rfl) ?_)) | refine wa_slotU (by with_unfolding_all exact rfl) ?_ | refine wa_cons ?_)
  | (with_reducible show OpK _ _ _ _ _; with_reducible first | refine ok_neR ?_ | refine ok_eqR ?_ | refine ok_isB ?_ | refine ok_notB ?_ | refine ok_plusI ?_ | refine ok_sub ?_ | refine ok_lt ?_ | refine ok_le ?_ | refine ok_gt ?_ | refine ok_ge ?_ | refine ok_eqI ?_ | refine ok_neI ?_ | refine ok_mod (by first | assumption | decide | omega) ?_ | refine ok_ixL (by with_unfolding_all exact rfl) ?_)
  | (with_reducible show CbK _ _ _ _; with_reducible first | refine ck_tuple ?_ | refine ck_allF ?_ | refine ck_anyF ?_ | refine ck_abs ?_ | refine ck_sumI ?_ | refine ck_lenL ?_ | refine ck_lenT ?_ | refine ck_int ?_ | refine ck_intB ?_ | refine ck_max ?_ | refine ck_min ?_ | refine ck_list ?_)
  | with_reducible refine wq_of ?_
  | (with_reducible show WG _ _ _ _ _; with_reducible first | refine wg_name (by with_unfolding_all exact rfl) ?_ | refine wg_tup (by with_unfolding_all exact rfl) ?_ | refine wg_set (by with_unfolding_all exact rfl) ?_)
  | (with_reducible show WGs _ _ _ _ _; with_reducible first | refine wgs_cons ?_ | refine wgs_nil ?_)
  | (with_reducible show WO _ _ _; with_reducible first | refine wo_some ?_ | refine wo_none ?_)
  | refine ⟨_, argD5, ?_⟩
  | refine ⟨_, argD6, ?_⟩
  | refine ⟨_, argD7, ?_⟩
  | refine ⟨_, argD9, ?_⟩
  | with_reducible refine iteT ?_
  | with_reducible refine iteF ?_
  | with_reducible refine ⟨_, frz_per, ?_⟩
  | with_reducible refine ⟨_, frz_own, ?_⟩
  | refine ⟨_, rfl, ?_⟩
  | refine ⟨_, argD1, ?_⟩
  | refine ⟨_, argD2, ?_⟩
  | refine ⟨_, argD0, ?_⟩
  | refine ⟨_, argD3, ?_⟩
  | refine ⟨_, argD4, ?_⟩
  | refine ⟨_, _, rfl, rfl, rfl, ?_⟩
  | refine ⟨_, _, _, rfl, rfl, rfl, ?_⟩
  | refine ⟨(by simp only [List.length_cons, List.length_nil]; decide), ?_⟩
  | refine ⟨rfl, nd1, ?_⟩
  | refine ⟨rfl, nd0, ?_⟩
  | refine ⟨_, argD8, ?_⟩
  | refine ⟨_, argD10, ?_⟩)
local macro_rules | `(tactic| walk_at "p") => `(tactic| refine ⟨_, _, rfl, (by omega), (by first | decide | omega), (by first | decide | omega), ?_⟩)
local macro_rules | `(tactic| walk_at "n") => `(tactic| try dsimp only [back, List.set_cons_zero, List.set_cons_succ, List.map_cons, List.map_nil, List.cons_append, List.nil_append])
local macro_rules | `(tactic| walk_at "q") => `(tactic| first | with_reducible refine ws_seqP (ws_par (by with_unfolding_all exact rfl) (by with_unfolding_all exact rfl) ?_) | refine ⟨_, _, rfl, ?_⟩ | walk_at "v")
local macro_rules | `(tactic| walk_at "j") => `(tactic| first
  | (with_reducible show WA _ _ _; with_reducible refine wa_slotJ (by with_unfolding_all exact rfl) ?_)
  | walk_at "v")
theorem nb_lenR {n : Nat} {ts : List (Int × Int)} (hv : Valid n ts) (hnd : ts.Nodup) (w : Int) : (nb ts w).length ≤ n := len_rng (n := n) (nb_nd hv hnd) fun y hy => nb_rng hv hy
def amg (ts : List (Int × Int)) (ps : List Int) (p : Int) : List Int := (nb ts p).filter fun x => decide (x ∈ ps)
theorem mem_amg {ts : List (Int × Int)} {ps : List Int} {p x : Int} : x ∈ amg ts ps p ↔ x ∈ nb ts p ∧ x ∈ ps := by unfold amg; rw [List.mem_filter, decide_eq_true_eq]
abbrev t_near_among_0 (K : PySem.W.Frag) (a : Ad) (E : XK) : TS :=
  (tRet (tDc (iList K (tVar 1)) (gName 2) tYes (tVar 2) (tLc (iList K (tMeth a.C_Web "neighbours" (sp_Web_neighbours K a) [] E0 (tVar 0) (tCons (tVar 2) tNil))) (gName 3) (tTest (tOp (rInD K) (tVar 3) (tVar 1))) (tVar 3) [3]) [2]))
def t_near_among (K : PySem.W.Frag) (a : Ad) (E : XK) : TS :=
  (t_near_among_0 K a E)
abbrev N_near_among : List Str := ["web", "places", "place", "near"]
abbrev F_near_among (a : Ad) : Fw := fun gs kk xx => ∃ (n : Nat) (ts : List (Int × Int)) (ps : List Int), gs = [per (objP a.C_Web (webF n ts)), dat (.list (ps.map .int))] ∧ n ≤ 60 ∧ Valid n ts ∧ ts.Nodup ∧ ps.Nodup ∧ (∀ p ∈ ps, 0 ≤ p ∧ p < n) ∧ kk (dicG ps (amg ts ps)) [none, none]
abbrev sp_near_among (K : PySem.W.Frag) (a : Ad) : Sp := SpG 2 (F_near_among a)
theorem pure_near_among {K : PySem.W.Frag} {a : Ad} (c : Clf K a) {vs : List V} {H : Hp} {Q : VK} {E : XK} (h : sp_near_among K a vs H Q E) :
    t_near_among K a E { nx := fun _ H' => Q .non H', rt := Q } (start N_near_among vs) H := by
  refine body_okX (fun _ => false) ?_ h
  rintro gs kk xx ⟨n, ts, ps, rfl, hn, hv, hnd, pnd, pr, hk⟩ -
  have pl := len_rng pnd pr
  unfold t_near_among
  refine wsx_of ?_
  show WS _ _ [some (per (objP a.C_Web (webF n ts))), some (dat (.list (ps.map .int))), none, none] _
  refine ws_ret (we_dcL ps (amg ts ps) (wil_list (wq_of (we_var rfl ⟨_, frz_per, _, rfl, rfl, pnd, by omega, rfl, fun x hx => ?_, ?_⟩))))
  · refine wg_name rfl ?_
    walk_at "n"
    refine wq_of (we_var rfl ⟨_, frz_per, rfl, ?_⟩)
    refine wq_of (we_lcS .int (fun y => decide (y ∈ ps)) (wil_list (wq_of (we_nbWeb (n := n) (ts := ts) rfl (by omega) hv ?_))))
    repeat walk_at "v"
    refine ⟨rfl, pr x hx, _, frz_own, _, rfl, nb ts x, rfl, rfl, by have := nb_lenR hv hnd x; omega, fun y hy => ?_, ?_⟩
    · refine wg_name rfl ?_
      walk_at "n"
      repeat walk_at "v"
      refine ok_inI ?_
      refine ⟨_, frz_per, _, rfl, rfl, ?_⟩
      refine ite_dec (fun _ => ?_) fun _ => rfl
      repeat walk_at "v"
      exact ⟨rfl, rfl⟩
    · exact ⟨_, frz_own, rfl, rfl⟩
  · exact ⟨_, _, Ent.refl, les_none (les_none les_nil), hk⟩
end G

namespace G
open PySem L2
local macro_rules | `(tactic| walk_at "g1") => `(tactic| first
  | (with_reducible show WE _ _ _; with_reducible first | refine we_var (by with_unfolding_all exact rfl) ?_ | (show WE (tOp _ _ _) _ _; first | refine we_ixS (by with_unfolding_all exact rfl) ?_ | refine we_ixScr (by with_unfolding_all exact rfl) ?_ | refine we_inS (by with_unfolding_all exact rfl) ?_ | refine we_notInS (by with_unfolding_all exact rfl) ?_ | refine we_eqS (by with_unfolding_all exact rfl) ?_ | refine we_neS (by with_unfolding_all exact rfl) ?_ | refine we_opK ?_) | (show WE (tCB _ _) _ _; first | refine we_lenS' (by with_unfolding_all exact rfl) ?_ | refine we_lenScr (by with_unfolding_all exact rfl) ?_ | refine we_cbK ?_) | refine we_int ?_ | refine we_bl ?_ | refine we_non ?_ | refine we_str ?_ | refine we_neg ?_ | refine we_not ?_ | refine we_and ?_ | refine we_or ?_ | refine we_if ?_ | refine we_tup ?_ | refine we_lst ?_ | refine we_call ?_ | refine we_mt (by with_unfolding_all exact rfl) ?_)
  | (with_reducible show WS _ _ _ _; with_reducible first | refine ws_seqA ?_ | refine ws_seqD ?_ | refine ws_asg (by with_unfolding_all exact rfl) ?_ | refine ws_asgG ?_ | refine ws_if ?_ | refine ws_ret ?_ | refine ws_drop ?_ | refine ws_next ?_ | refine ws_retN ?_)
  | (with_reducible show WT _ _ _; with_reducible first | refine wt_test ?_ | refine wt_B ?_ | refine wt_not ?_ | refine wt_and ?_ | refine wt_or ?_ | refine wt_yes ?_)
  | (with_reducible show WA _ _ _; with_reducible first | refine wa_nil ?_ | refine wa_cons (wq_of (we_var (by with_unfolding_all exact rfl) ?_)) | refine wa_slotU (by with_unfolding_all exact rfl) ?_ | refine wa_cons ?_)
  | (with_reducible show OpK _ _ _ _ _; with_reducible first | refine ok_plusI ?_ | refine ok_sub ?_ | refine ok_lt ?_ | refine ok_le ?_ | refine ok_gt ?_ | refine ok_ge ?_ | refine ok_eqI ?_ | refine ok_neI ?_ | refine ok_mod (by first | assumption | decide | omega) ?_ | refine ok_ixL (by with_unfolding_all exact rfl) ?_)
  | (with_reducible show CbK _ _ _ _; with_reducible first | refine ck_lenL ?_ | refine ck_lenT ?_ | refine ck_int ?_ | refine ck_intB ?_ | refine ck_max ?_ | refine ck_min ?_ | refine ck_list ?_)
  | with_reducible refine wq_of ?_
  | (with_reducible show WG _ _ _ _ _; with_reducible first | refine wg_name (by with_unfolding_all exact rfl) ?_ | refine wg_tup (by with_unfolding_all exact rfl) ?_ | refine wg_set (by with_unfolding_all exact rfl) ?_)
  | (with_reducible show WGs _ _ _ _ _; with_reducible first | refine wgs_cons ?_ | refine wgs_nil ?_)
  | with_reducible refine iteT ?_
  | with_reducible refine iteF ?_
  | with_reducible refine ⟨_, frz_per, ?_⟩
  | with_reducible refine ⟨_, frz_own, ?_⟩
  | refine ⟨_, rfl, ?_⟩
  | refine ⟨_, argD1, ?_⟩
  | refine ⟨_, argD2, ?_⟩
  | refine ⟨_, argD0, ?_⟩
  | refine ⟨_, argD3, ?_⟩
  | refine ⟨_, argD4, ?_⟩
  | refine ⟨_, _, rfl, rfl, rfl, ?_⟩
  | refine ⟨_, _, _, rfl, rfl, rfl, ?_⟩
  | refine ⟨(by simp only [List.length_cons, List.length_nil]; decide), ?_⟩
  | refine ⟨rfl, nd1, ?_⟩
  | refine ⟨rfl, nd0, ?_⟩)
local macro_rules | `(tactic| walk_at "go") => `(tactic| repeat walk_at "g1")
local macro_rules | `(tactic| walk_at "g2") => `(tactic| first
  | (with_reducible show WE _ _ _; with_reducible first | refine we_var (by with_unfolding_all exact rfl) ?_ | (show WE (tOp _ _ _) _ _; first | refine we_notN ?_ | refine we_ixS (by with_unfolding_all exact rfl) ?_ | refine we_ixScr (by with_unfolding_all exact rfl) ?_ | refine we_inS (by with_unfolding_all exact rfl) ?_ | refine we_notInS (by with_unfolding_all exact rfl) ?_ | refine we_eqS (by with_unfolding_all exact rfl) ?_ | refine we_neS (by with_unfolding_all exact rfl) ?_ | refine we_opK ?_) | (show WE (tCB _ _) _ _; first | refine we_isInt ?_ | refine we_isBl ?_ | refine we_isLst ?_ | refine we_isTup ?_ | refine we_lenO (by with_unfolding_all exact rfl) ?_ | refine we_lenS' (by with_unfolding_all exact rfl) ?_ | refine we_lenScr (by with_unfolding_all exact rfl) ?_ | refine we_cbK ?_) | refine we_chain ?_ | refine we_slice ?_ | refine we_int ?_ | refine we_bl ?_ | refine we_non ?_ | refine we_str ?_ | refine we_neg ?_ | refine we_not ?_ | refine we_and ?_ | refine we_or ?_ | refine we_if ?_ | refine we_tup ?_ | refine we_lst ?_ | refine we_call ?_ | refine we_mt (by with_unfolding_all exact rfl) ?_)
  | (with_reducible show WS _ _ _ _; with_reducible first | refine ws_seqA ?_ | refine ws_seqD ?_ | refine ws_asg (by with_unfolding_all exact rfl) ?_ | refine ws_asgG ?_ | refine ws_if ?_ | refine ws_ret ?_ | refine ws_drop ?_ | refine ws_next ?_ | refine ws_retN ?_)
  | (with_reducible show WT _ _ _; with_reducible first | refine wt_test ?_ | refine wt_B ?_ | refine wt_not ?_ | refine wt_and ?_ | refine wt_or ?_ | refine wt_yes ?_)
  | (with_reducible show WA _ _ _; with_reducible first | refine wa_nil ?_ | refine wa_cons (wq_of (we_var (by with_unfolding_all exact rfl) ?_)) | refine wa_slotU (by with_unfolding_all exact rfl) ?_ | refine wa_cons ?_)
  | (with_reducible show OpK _ _ _ _ _; with_reducible first | refine ok_isB ?_ | refine ok_notB ?_ | refine ok_plusI ?_ | refine ok_sub ?_ | refine ok_lt ?_ | refine ok_le ?_ | refine ok_gt ?_ | refine ok_ge ?_ | refine ok_eqI ?_ | refine ok_neI ?_ | refine ok_mod (by first | assumption | decide | omega) ?_ | refine ok_ixL (by with_unfolding_all exact rfl) ?_)
  | (with_reducible show CbK _ _ _ _; with_reducible first | refine ck_lenL ?_ | refine ck_lenT ?_ | refine ck_int ?_ | refine ck_intB ?_ | refine ck_max ?_ | refine ck_min ?_ | refine ck_list ?_)
  | with_reducible refine wq_of ?_
  | (with_reducible show WG _ _ _ _ _; with_reducible first | refine wg_name (by with_unfolding_all exact rfl) ?_ | refine wg_tup (by with_unfolding_all exact rfl) ?_ | refine wg_set (by with_unfolding_all exact rfl) ?_)
  | (with_reducible show WGs _ _ _ _ _; with_reducible first | refine wgs_cons ?_ | refine wgs_nil ?_)
  | (with_reducible show WO _ _ _; with_reducible first | refine wo_some ?_ | refine wo_none ?_)
  | refine ⟨_, argD5, ?_⟩
  | refine ⟨_, argD6, ?_⟩
  | refine ⟨_, argD7, ?_⟩
  | refine ⟨_, argD9, ?_⟩
  | with_reducible refine iteT ?_
  | with_reducible refine iteF ?_
  | with_reducible refine ⟨_, frz_per, ?_⟩
  | with_reducible refine ⟨_, frz_own, ?_⟩
  | refine ⟨_, rfl, ?_⟩
  | refine ⟨_, argD1, ?_⟩
  | refine ⟨_, argD2, ?_⟩
  | refine ⟨_, argD0, ?_⟩
  | refine ⟨_, argD3, ?_⟩
  | refine ⟨_, argD4, ?_⟩
  | refine ⟨_, _, rfl, rfl, rfl, ?_⟩
  | refine ⟨_, _, _, rfl, rfl, rfl, ?_⟩
  | refine ⟨(by simp only [List.length_cons, List.length_nil]; decide), ?_⟩
  | refine ⟨rfl, nd1, ?_⟩
  | refine ⟨rfl, nd0, ?_⟩)
local macro_rules | `(tactic| walk_at "w") => `(tactic| first
  | (with_reducible show WE _ _ _; with_reducible first | refine we_var (by with_unfolding_all exact rfl) ?_ | refine we_varF (by with_unfolding_all exact rfl) frz_own ?_ | (show WE (tOp _ _ _) _ _; first | refine we_isNd ?_ | refine we_notNd ?_ | refine we_notN ?_ | refine we_ixS (by with_unfolding_all exact rfl) ?_ | refine we_ixScr (by with_unfolding_all exact rfl) ?_ | refine we_inS (by with_unfolding_all exact rfl) ?_ | refine we_notInS (by with_unfolding_all exact rfl) ?_ | refine we_eqS (by with_unfolding_all exact rfl) ?_ | refine we_neS (by with_unfolding_all exact rfl) ?_ | refine we_opK ?_) | (show WE (tCB _ _) _ _; first | refine we_repr ?_ | refine we_isInt ?_ | refine we_isBl ?_ | refine we_isLst ?_ | refine we_isTup ?_ | refine we_lenO (by with_unfolding_all exact rfl) ?_ | refine we_lenS' (by with_unfolding_all exact rfl) ?_ | refine we_lenScr (by with_unfolding_all exact rfl) ?_ | refine we_cbK ?_) | refine we_dnew ?_ | refine we_lenSetI ?_ | refine we_revL ?_ | refine we_chain ?_ | refine we_slice ?_ | refine we_int ?_ | refine we_bl ?_ | refine we_non ?_ | refine we_str ?_ | refine we_neg ?_ | refine we_not ?_ | refine we_and ?_ | refine we_or ?_ | refine we_if ?_ | refine we_tup ?_ | refine we_lst ?_ | refine we_call ?_ | refine we_mt (by with_unfolding_all exact rfl) ?_)
  | (with_reducible show WS _ _ _ _; with_reducible first | refine ws_seqI ?_ | refine ws_seqA ?_ | refine ws_seqD ?_ | refine ws_asg (by with_unfolding_all exact rfl) ?_ | refine ws_asgG ?_ | refine ws_if ?_ | refine ws_ret ?_ | refine ws_drop ?_ | refine ws_next ?_ | refine ws_retN ?_)
  | (with_reducible show WT _ _ _; with_reducible first | refine wt_truL ?_ | refine wt_test ?_ | refine wt_B ?_ | refine wt_not ?_ | refine wt_and ?_ | refine wt_or ?_ | refine wt_yes ?_)
  | (with_reducible show WA _ _ _; with_reducible first | refine wa_nil ?_ | refine wa_cons (wq_of (we_var (by with_unfolding_all exact rfl) ?_)) | refine wa_slotU (by with_unfolding_all exact rfl) ?_ | refine wa_cons ?_)
  | (with_reducible show OpK _ _ _ _ _; with_reducible first | refine ok_neR ?_ | refine ok_eqR ?_ | refine ok_isB ?_ | refine ok_notB ?_ | refine ok_plusI ?_ | refine ok_sub ?_ | refine ok_lt ?_ | refine ok_le ?_ | refine ok_gt ?_ | refine ok_ge ?_ | refine ok_eqI ?_ | refine ok_neI ?_ | refine ok_mod (by first | assumption | decide | omega) ?_ | refine ok_ixL (by with_unfolding_all exact rfl) ?_)
  | (with_reducible show CbK _ _ _ _; with_reducible first | refine ck_tuple ?_ | refine ck_allF ?_ | refine ck_anyF ?_ | refine ck_abs ?_ | refine ck_sumI ?_ | refine ck_lenL ?_ | refine ck_lenT ?_ | refine ck_int ?_ | refine ck_intB ?_ | refine ck_max ?_ | refine ck_min ?_ | refine ck_list ?_)
  | with_reducible refine wq_of ?_
  | (with_reducible show WG _ _ _ _ _; with_reducible first | refine wg_name (by with_unfolding_all exact rfl) ?_ | refine wg_tup (by with_unfolding_all exact rfl) ?_ | refine wg_set (by with_unfolding_all exact rfl) ?_)
  | (with_reducible show WGs _ _ _ _ _; with_reducible first | refine wgs_cons ?_ | refine wgs_nil ?_)
  | (with_reducible show WO _ _ _; with_reducible first | refine wo_some ?_ | refine wo_none ?_)
  | refine ⟨_, argD5, ?_⟩
  | refine ⟨_, argD6, ?_⟩
  | refine ⟨_, argD7, ?_⟩
  | refine ⟨_, argD9, ?_⟩
  | with_reducible refine iteT ?_
  | with_reducible refine iteF ?_
  | with_reducible refine ⟨_, frz_per, ?_⟩
  | with_reducible refine ⟨_, frz_own, ?_⟩
  | refine ⟨_, rfl, ?_⟩
  | refine ⟨_, argD1, ?_⟩
  | refine ⟨_, argD2, ?_⟩
  | refine ⟨_, argD0, ?_⟩
  | refine ⟨_, argD3, ?_⟩
  | refine ⟨_, argD4, ?_⟩
  | refine ⟨_, _, rfl, rfl, rfl, ?_⟩
  | refine ⟨_, _, _, rfl, rfl, rfl, ?_⟩
  | refine ⟨(by simp only [List.length_cons, List.length_nil]; decide), ?_⟩
  | refine ⟨rfl, nd1, ?_⟩
  | refine ⟨rfl, nd0, ?_⟩
  | refine ⟨_, argD8, ?_⟩
  | refine ⟨_, argD10, ?_⟩)
local macro_rules | `(tactic| walk_at "v") => `(tactic| first
  | (with_reducible show WE _ _ _; with_reducible first | refine we_var (by with_unfolding_all exact rfl) ?_ | refine we_varF (by with_unfolding_all exact rfl) frz_own ?_ | (show WE (tOp _ _ _) _ _; first | refine we_isNd ?_ | refine we_notNd ?_ | refine we_notN ?_ | refine we_ixS (by with_unfolding_all exact rfl) ?_ | refine we_ixScr (by with_unfolding_all exact rfl) ?_ | refine we_inS (by with_unfolding_all exact rfl) ?_ | refine we_notInS (by with_unfolding_all exact rfl) ?_ | refine we_eqS (by with_unfolding_all exact rfl) ?_ | refine we_neS (by with_unfolding_all exact rfl) ?_ | refine we_opK ?_) | (show WE (tCB _ _) _ _; first | refine we_repr ?_ | refine we_lenWeb (by with_unfolding_all exact rfl) (by assumption) ?_ | refine we_isInt ?_ | refine we_isBl ?_ | refine we_isLst ?_ | refine we_isTup ?_ | refine we_lenO (by with_unfolding_all exact rfl) ?_ | refine we_lenS' (by with_unfolding_all exact rfl) ?_ | refine we_lenScr (by with_unfolding_all exact rfl) ?_ | refine we_cbK ?_) | refine we_dnew ?_ | refine we_lenSetI ?_ | refine we_revL ?_ | refine we_nbWeb (by with_unfolding_all exact rfl) (by assumption) (by assumption) ?_ | refine we_tiesWeb (by with_unfolding_all exact rfl) ?_ | refine we_chain ?_ | refine we_slice ?_ | refine we_int ?_ | refine we_bl ?_ | refine we_non ?_ | refine we_str ?_ | refine we_neg ?_ | refine we_not ?_ | refine we_and ?_ | refine we_or ?_ | refine we_if ?_ | refine we_tup ?_ | refine we_lst ?_ | refine we_call ?_ | refine we_mt (by with_unfolding_all exact rfl) ?_)
  | (with_reducible show WS _ _ _ _; with_reducible first | refine ws_seqI ?_ | refine ws_seqA ?_ | refine ws_seqD ?_ | refine ws_asg (by with_unfolding_all exact rfl) ?_ | refine ws_asgG ?_ | refine ws_if ?_ | refine ws_ret ?_ | refine ws_drop ?_ | refine ws_next ?_ | refine ws_retN ?_)
  | (with_reducible show WT _ _ _; with_reducible first | refine wt_truL ?_ | refine wt_test ?_ | refine wt_B ?_ | refine wt_not ?_ | refine wt_and ?_ | refine wt_or ?_ | refine wt_yes ?_)
  | (with_reducible show WA _ _ _; with_reducible first | refine wa_nil ?_ | refine wa_cons (wq_of (we_var (by with_unfolding_all exact rfl) ?_)) | refine wa_slotU (by with_unfolding_all exact rfl) ?_ | refine wa_cons ?_)
  | (with_reducible show OpK _ _ _ _ _; with_reducible first | refine ok_neR ?_ | refine ok_eqR ?_ | refine ok_isB ?_ | refine ok_notB ?_ | refine ok_plusI ?_ | refine ok_sub ?_ | refine ok_lt ?_ | refine ok_le ?_ | refine ok_gt ?_ | refine ok_ge ?_ | refine ok_eqI ?_ | refine ok_neI ?_ | refine ok_mod (by first | assumption | decide | omega) ?_ | refine ok_ixL (by with_unfolding_all exact rfl) ?_)
  | (with_reducible show CbK _ _ _ _; with_reducible first | refine ck_tuple ?_ | refine ck_allF ?_ | refine ck_anyF ?_ | refine ck_abs ?_ | refine ck_sumI ?_ | refine ck_lenL ?_ | refine ck_lenT ?_ | refine ck_int ?_ | refine ck_intB ?_ | refine ck_max ?_ | refine ck_min ?_ | refine ck_list ?_)
  | with_reducible refine wq_of ?_
  | (with_reducible show WG _ _ _ _ _; with_reducible first | refine wg_name (by with_unfolding_all exact rfl) ?_ | refine wg_tup (by with_unfolding_all exact rfl) ?_ | refine wg_set (by with_unfolding_all exact rfl) ?_)
  | (with_reducible show WGs _ _ _ _ _; with_reducible first | refine wgs_cons ?_ | refine wgs_nil ?_)
  | (with_reducible show WO _ _ _; with_reducible first | refine wo_some ?_ | refine wo_none ?_)
  | refine ⟨_, argD5, ?_⟩
  | refine ⟨_, argD6, ?_⟩
  | refine ⟨_, argD7, ?_⟩
  | refine ⟨_, argD9, ?_⟩
  | with_reducible refine iteT ?_
  | with_reducible refine iteF ?_
  | with_reducible refine ⟨_, frz_per, ?_⟩
  | with_reducible refine ⟨_, frz_own, ?_⟩
  | refine ⟨_, rfl, ?_⟩
  | refine ⟨_, argD1, ?_⟩
  | refine ⟨_, argD2, ?_⟩
  | refine ⟨_, argD0, ?_⟩
  | refine ⟨_, argD3, ?_⟩
  | refine ⟨_, argD4, ?_⟩
  | refine ⟨_, _, rfl, rfl, rfl, ?_⟩
  | refine ⟨_, _, _, rfl, rfl, rfl, ?_⟩
  | refine ⟨(by simp only [List.length_cons, List.length_nil]; decide), ?_⟩
  | refine ⟨rfl, nd1, ?_⟩
  | refine ⟨rfl, nd0, ?_⟩
  | refine ⟨_, argD8, ?_⟩
  | refine ⟨_, argD10, ?_⟩)
local macro_rules | `(tactic| walk_at "p") => `(tactic| refine ⟨_, _, rfl, (by omega), (by first | decide | omega), (by first | decide | omega), ?_⟩)
local macro_rules | `(tactic| walk_at "n") => `(tactic| try dsimp only [back, List.set_cons_zero, List.set_cons_succ, List.map_cons, List.map_nil, List.cons_append, List.nil_append])
local macro_rules | `(tactic| walk_at "q") => `(tactic| first | with_reducible refine ws_seqP (ws_par (by with_unfolding_all exact rfl) (by with_unfolding_all exact rfl) ?_) | refine ⟨_, _, rfl, ?_⟩ | walk_at "v")
local macro_rules | `(tactic| walk_at "j") => `(tactic| first
  | (with_reducible show WA _ _ _; with_reducible refine wa_slotJ (by with_unfolding_all exact rfl) ?_)
  | walk_at "v")
/-- ties among the places ps -/
abbrev Ei (ts : List (Int × Int)) (ps : List Int) : Int → Int → Prop := fun u v => v ∈ nb ts u ∧ u ∈ ps ∧ v ∈ ps
theorem ei_sym {n : Nat} {ts : List (Int × Int)} {ps : List Int} (hv : Valid n ts) : ∀ u v, Ei ts ps u v → Ei ts ps v u := fun u v ⟨h, a, b⟩ => ⟨eb_sym hv u v h, b, a⟩
theorem ei_in {ts : List (Int × Int)} {ps : List Int} {l x : Int} (h : Reach (Ei ts ps) l x) (hl : l ∈ ps) : x ∈ ps := by
  induction h with
  | refl => exact hl
  | step _ e _ => exact e.2.2
noncomputable def partsI (ts : List (Int × Int)) (n : Nat) (ps : List Int) : List (List Int) := (ps.filter fun x => dcP (IsHead (Ei ts ps) x)).map (partC (Ei ts ps) n)
structure Bf (E : Int → Int → Prop) (l : Int) (part : List Int) (k : Nat) : Prop where
  root : l ∈ part
  conn : ∀ x ∈ part, Reach E l x
  nd : part.Nodup
  cl : ∀ (i : Nat) x, i < k → part[i]? = some x → ∀ y, E x y → y ∈ part
  le : k ≤ part.length
theorem Bf.all {E : Int → Int → Prop} {l : Int} {part : List Int} (b : Bf E l part part.length) (x : Int) : x ∈ part ↔ Reach E l x := by
  refine ⟨b.conn x, fun h => ?_⟩
  induction h with
  | refl => exact b.root
  | step _ e ih =>
    obtain ⟨i, hi⟩ := List.getElem?_of_mem ih
    exact b.cl i _ (List.getElem?_eq_some_iff.mp hi).1 hi _ e
/-- the parts found so far: those with a least place below b -/
structure Fd (ts : List (Int × Int)) (n : Nat) (ps : List Int) (b : Int) (rows : List (List Int)) (left : List Int) : Prop where
  rows : rows = ((ps.filter fun x => decide (x < b)).filter fun x => dcP (IsHead (Ei ts ps) x)).map (partC (Ei ts ps) n)
  left : left = ps.filter fun x => dcP (∀ h ∈ ps, h < b → ¬ Reach (Ei ts ps) h x)
theorem Fd.stop {ts : List (Int × Int)} {n : Nat} {ps : List Int} {b : Int} {rows : List (List Int)} (hv : Valid n ts) (f : Fd ts n ps b rows []) : rows = partsI ts n ps := by
  rw [f.rows]
  unfold partsI
  congr 1
  rw [List.filter_filter]
  refine List.filter_congr fun x hx => ?_
  by_cases c : x < b
  · simp [c]
  · have h1 : ¬ IsHead (Ei ts ps) x := fun hd => by
      have h2 : x ∉ ps.filter fun x => dcP (∀ h ∈ ps, h < b → ¬ Reach (Ei ts ps) h x) := by rw [← f.left]; simp
      refine h2 (List.mem_filter.mpr ⟨hx, dcP_iff.mpr fun h hh hb hr => ?_⟩)
      have := hd h (hr.sym (ei_sym hv))
      omega
    simp [c, dcP_f h1]
theorem Fd.next {ts : List (Int × Int)} {n : Nat} {ps : List Int} {b l : Int} {rows : List (List Int)} {tl part : List Int} (hv : Valid n ts) (asc : ps.Pairwise (· < ·)) (f : Fd ts n ps b rows (l :: tl)) (hp : ∀ x, x ∈ part ↔ Reach (Ei ts ps) l x) :
    Fd ts n ps (l + 1) (rows ++ [partC (Ei ts ps) n l]) ((l :: tl).filter fun x => decide (x ∉ part)) ∧ l ∈ ps := by
  have hl : l ∈ ps.filter fun x => dcP (∀ h ∈ ps, h < b → ¬ Reach (Ei ts ps) h x) := by rw [← f.left]; simp
  obtain ⟨lp, ln⟩ := List.mem_filter.mp hl
  have ln := dcP_iff.mp ln
  have first : ∀ x ∈ ps, x < l → ∃ h ∈ ps, h < b ∧ Reach (Ei ts ps) h x := fun x hx hlt => Classical.byContradiction fun hn => by
    have h1 : x ∈ l :: tl := by
      rw [f.left]
      exact List.mem_filter.mpr ⟨hx, dcP_iff.mpr fun h hh hb hr => hn ⟨h, hh, hb, hr⟩⟩
    have asc2 : (l :: tl).Pairwise (· < ·) := by rw [f.left]; exact asc.filter _
    rcases List.mem_cons.mp h1 with e | h1
    · omega
    · have := (List.pairwise_cons.mp asc2).1 x h1
      omega
  have hbl : b ≤ l := Classical.byContradiction fun h => ln l lp (by omega) (.refl _)
  have head : IsHead (Ei ts ps) l := fun y hy => Classical.byContradiction fun hlt => by
    obtain ⟨h, hh, hb, hr⟩ := first y (ei_in hy lp) (by omega)
    exact ln h hh hb (hr.trans (hy.sym (ei_sym hv)))
  refine ⟨⟨?_, ?_⟩, lp⟩
  · rw [f.rows, show [partC (Ei ts ps) n l] = [l].map (partC (Ei ts ps) n) from rfl, ← List.map_append]
    congr 1
    -- the heads below l + 1
    have h1 : (ps.filter fun x => decide (x < l + 1)).filter (fun x => dcP (IsHead (Ei ts ps) x)) = ps.filter fun x => dcP ((x < b ∧ IsHead (Ei ts ps) x) ∨ x = l) := by
      rw [List.filter_filter]
      refine List.filter_congr fun x hx => ?_
      by_cases e : x = l
      · subst e
        rw [dcP_iff.mpr head, dcP_iff.mpr (.inr rfl), Bool.true_and]
        exact decide_eq_true (by omega)
      by_cases c : x < b
      · by_cases c2 : IsHead (Ei ts ps) x
        · rw [dcP_iff.mpr c2, dcP_iff.mpr (.inl ⟨c, c2⟩), decide_eq_true (show x < l + 1 by omega)]
          rfl
        · rw [dcP_f c2, dcP_f (p := (x < b ∧ IsHead (Ei ts ps) x) ∨ x = l) (fun h => h.elim (fun h => c2 h.2) e), Bool.false_and]
      · by_cases c3 : x < l
        · obtain ⟨h, hh, hb, hr⟩ := first x hx c3
          have c2 : ¬ IsHead (Ei ts ps) x := fun hd => by
            have := hd h (hr.sym (ei_sym hv))
            omega
          rw [dcP_f c2, dcP_f (p := (x < b ∧ IsHead (Ei ts ps) x) ∨ x = l) (fun h => h.elim (fun h => c h.1) e), Bool.false_and]
        · rw [decide_eq_false (show ¬ x < l + 1 by omega), dcP_f (p := (x < b ∧ IsHead (Ei ts ps) x) ∨ x = l) (fun h => h.elim (fun h => c h.1) e), Bool.and_false]
    rw [h1]
    have h2 : (ps.filter fun x => decide (x < b)).filter (fun x => dcP (IsHead (Ei ts ps) x)) = ps.filter fun x => dcP (x < b ∧ IsHead (Ei ts ps) x) := by
      rw [List.filter_filter]
      refine List.filter_congr fun x hx => ?_
      by_cases c : x < b <;> by_cases c2 : IsHead (Ei ts ps) x <;> simp [c, c2, dcP]
    rw [h2]
    refine (perm_uniq (R := fun a b : Int => a ≤ b) (fun a b h1 h2 => by omega) ?_ ?_ ?_)
    · refine List.pairwise_append.mpr ⟨(asc.imp fun {a b} h => by omega : ps.Pairwise (· ≤ ·)).filter _, List.pairwise_singleton _ _, fun a ha c hc => ?_⟩
      rw [List.mem_singleton.mp hc]
      have := (dcP_iff.mp (List.mem_filter.mp ha).2).1
      omega
    · exact (asc.imp fun {a b} h => by omega : ps.Pairwise (· ≤ ·)).filter _
    · have nd : ps.Nodup := asc.imp fun {a b} h e => by omega
      refine (List.perm_ext_iff_of_nodup (List.nodup_append.mpr ⟨nd.filter _, List.nodup_cons.mpr ⟨List.not_mem_nil, List.nodup_nil⟩, fun a ha c hc e => ?_⟩) (nd.filter _)).mpr fun x => ?_
      · rw [List.mem_singleton.mp hc] at e
        have := (dcP_iff.mp (List.mem_filter.mp ha).2).1
        omega
      · rw [List.mem_append, List.mem_filter, List.mem_filter, dcP_iff, dcP_iff, List.mem_singleton]
        constructor
        · rintro (⟨h, h1⟩ | h1)
          · exact ⟨h, .inl h1⟩
          · exact ⟨h1 ▸ lp, .inr h1⟩
        · rintro ⟨h, h1 | h1⟩
          · exact .inl ⟨h, h1⟩
          · exact .inr h1
  · rw [f.left, List.filter_filter]
    refine List.filter_congr fun x hx => ?_
    have hpx := hp x
    by_cases c : Reach (Ei ts ps) l x
    · rw [decide_eq_false (fun h => h (hpx.mpr c)), dcP_f (p := ∀ h ∈ ps, h < l + 1 → ¬ Reach (Ei ts ps) h x) (fun h => h l lp (by omega) c)]
      rfl
    · rw [decide_eq_true (show ¬ x ∈ part from fun h => c (hpx.mp h)), Bool.true_and]
      by_cases c2 : ∀ h ∈ ps, h < b → ¬ Reach (Ei ts ps) h x
      · rw [dcP_iff.mpr c2]
        refine (dcP_iff.mpr fun h hh hb hr => ?_).symm
        by_cases e : h = l
        · exact c (e ▸ hr)
        by_cases c3 : h < b
        · exact c2 h hh c3 hr
        · obtain ⟨h', hh', hb', hr'⟩ := first h hh (by omega)
          exact c2 h' hh' hb' (hr'.trans hr)
      · rw [dcP_f c2]
        exact (dcP_f fun h2 => c2 fun h hh hb => h2 h hh (by omega)).symm
theorem partsI_few {ts : List (Int × Int)} {n : Nat} {ps : List Int} : (partsI ts n ps).length ≤ ps.length := by
  unfold partsI
  rw [List.length_map]
  exact List.length_filter_le _ _
abbrev t_parts_among_0 (K : PySem.W.Frag) (a : Ad) (E : XK) : TS :=
  (tSeq (tDrop (tBM K "list" (rExtend) (tVar 5) (tCons (tLc (iList K (tDGet (tVar 2) (tOp (rIx K) (tVar 5) (tVar 6)))) (gName 7) (tTest (tOp (rNotInD K) (tVar 7) (tVar 5))) (tVar 7) [7]) tNil)))
    (tAug 6 (tC (.int 1)) (ipI fun i j => i + j)))
abbrev t_parts_among_1 (K : PySem.W.Frag) (a : Ad) (E : XK) : TS :=
  (tSeq (tDrop (tBM K "list" (rAppend) (tVar 3) (tCons (tCB (rSortA K) (tCons (tVar 5) tNil)) tNil)))
    (tAsg (tLc (iList K (tVar 4)) (gName 8) (tTest (tOp (rNotInD K) (tVar 8) (tVar 5))) (tVar 8) [8]) (gName 4)))
abbrev t_parts_among_2 (K : PySem.W.Frag) (a : Ad) (E : XK) : TS :=
  (tSeq (tAsg (tC (.int 0)) (gName 6))
    (tSeq (tWhile (tTest (tOp (rLtI) (tVar 6) (tCB (rLenA K) (tCons (tVar 5) tNil)))) (t_parts_among_0 K a E))
    (t_parts_among_1 K a E)))
abbrev t_parts_among_3 (K : PySem.W.Frag) (a : Ad) (E : XK) : TS :=
  (tSeq (tWhile (tTru K (tVar 4)) (tSeq (tAsg (tLst (tCons (tOp (rIx K) (tVar 4) (tC (.int 0))) tNil)) (gName 5))
    (t_parts_among_2 K a E)))
    (tRet (tVar 3)))
abbrev t_parts_among_4 (K : PySem.W.Frag) (a : Ad) (E : XK) : TS :=
  (tSeq (tAsg (tCall (sp_near_among K a) [] E (tCons (tVar 0) (tCons (tVar 1) tNil))) (gName 2))
    (tSeq (tAsg (tLst tNil) (gName 3))
    (tSeq (tAsg (tVar 1) (gName 4))
    (t_parts_among_3 K a E))))
def t_parts_among (K : PySem.W.Frag) (a : Ad) (E : XK) : TS :=
  (t_parts_among_4 K a E)
abbrev N_parts_among : List Str := ["web", "places", "near", "found", "left", "part", "at", "other", "place"]
abbrev F_parts_among (a : Ad) : Fw := fun gs kk xx => ∃ (n : Nat) (ts : List (Int × Int)) (ps : List Int), gs = [per (objP a.C_Web (webF n ts)), dat (.list (ps.map .int))] ∧ n ≤ 60 ∧ Valid n ts ∧ ts.Nodup ∧ ps.Pairwise (· < ·) ∧ (∀ p ∈ ps, 0 ≤ p ∧ p < n) ∧ kk (own ((partsI ts n ps).map rowI)) [none, none]
abbrev sp_parts_among (K : PySem.W.Frag) (a : Ad) : Sp := SpG 2 (F_parts_among a)
theorem pure_parts_among {K : PySem.W.Frag} {a : Ad} (c : Clf K a) {vs : List V} {H : Hp} {Q : VK} {E : XK} (h : sp_parts_among K a vs H Q E) :
    t_parts_among K a E { nx := fun _ H' => Q .non H', rt := Q } (start N_parts_among vs) H := by
  refine body_okX (fun _ => false) ?_ h
  rintro gs kk xx ⟨n, ts, ps, rfl, hn, hv, hnd, asc, pr, hk⟩ -
  have pnd : ps.Nodup := asc.imp fun {a b} h e => by omega
  have pl := len_rng pnd pr
  unfold t_parts_among
  refine wsx_of ?_
  show WS _ _ [some (per (objP a.C_Web (webF n ts))), some (dat (.list (ps.map .int))), none, none, none, none, none, none, none] _
  refine ws_seq (ws_asg rfl (we_call (wa_cons (wq_of (we_var rfl ⟨_, frz_per, wa_cons (wq_of (we_var rfl ⟨_, frz_per, wa_nil ⟨rfl, nd0, n, ts, ps, rfl, hn, hv, hnd, pnd, pr, ?_⟩⟩))⟩)))))
  walk_at "n"
  refine ws_frz (i := 2) rfl frz_dicG ?_
  walk_at "n"
  refine ws_seqA ?_
  repeat walk_at "v"
  walk_at "n"
  refine ws_seq (ws_while (fun m Γ => ∃ (b : Int) (rows : List (List Int)) (left : List Int) (o5 o6 : Option Gp), Γ = [some (per (objP a.C_Web (webF n ts))), some (dat (.list (ps.map .int))), some (per (dicP ps (amg ts ps))), some (own (rows.map rowI)), some (dat (.list (left.map .int))), o5, o6, none, none] ∧ Fd ts n ps b rows left ∧ m = left.length ∧ rows.length + left.length ≤ n)
    ⟨_, -1, [], ps, _, _, rfl, ⟨?_, ?_⟩, rfl, by show 0 + _ ≤ _; omega⟩ ?_)
  · rw [show (ps.filter fun x => decide (x < -1)) = [] from List.filter_eq_nil_iff.mpr fun x hx => by have := pr x hx; simp; omega]
    rfl
  · exact (List.filter_eq_self.mpr fun x hx => dcP_iff.mpr fun h hh hb => by have := pr h hh; omega).symm
  rintro m _ ⟨b, rows, left, o5, o6, rfl, F, rfl, hrl⟩
  refine wt_truL (wq_of (we_var rfl ⟨_, frz_per, _, rfl, ?_⟩))
  cases left with
  | nil =>
    refine iteF ?_
    refine ws_ret (we_varM (i := 3) rfl ⟨_, _, Ent.refl, les_none (les_none les_nil), ?_⟩)
    rw [F.stop hv]
    exact hk
  | cons l tl =>
    refine iteT ?_
    have hl : l ∈ ps := by
      have : l ∈ ps.filter fun x => dcP (∀ h ∈ ps, h < b → ¬ Reach (Ei ts ps) h x) := by rw [← F.left]; simp
      exact (List.mem_filter.mp this).1
    refine ws_seqA ?_
    repeat walk_at "v"
    refine ok_ixL (d := .int l) (atI_in (by omega) rfl) ?_
    repeat walk_at "v"
    walk_at "n"
    have hin : ∀ {part : List Int}, (∀ x ∈ part, Reach (Ei ts ps) l x) → ∀ x ∈ part, x ∈ ps := fun h x hx => ei_in (h x hx) hl
    refine ws_seq (ws_while (fun m Γ => ∃ (part : List Int) (k : Nat), Γ = [some (per (objP a.C_Web (webF n ts))), some (dat (.list (ps.map .int))), some (per (dicP ps (amg ts ps))), some (own (rows.map rowI)), some (dat (.list ((l :: tl).map .int))), some (own (part.map .int)), some (dat (.int (k : Int))), none, none] ∧ Bf (Ei ts ps) l part k ∧ m = n - k)
      ⟨_, [l], 0, rfl, ⟨by simp, fun x hx => by rw [List.mem_singleton.mp hx]; exact .refl _, by simp, fun i x hi => absurd hi (by omega), by simp⟩, rfl⟩ ?_)
    rintro m _ ⟨part, k, rfl, B, rfl⟩
    have hpl := len_rng B.nd fun x hx => pr x (hin B.conn x hx)
    refine wt_test (wq_of (we_opK (wq_of (we_var rfl ⟨_, frz_per, _, rfl, wq_of (we_lenS (i := 5) rfl ⟨_, frz_per, _, rfl, ?_⟩)⟩))))
    refine ok_ltb ?_
    refine ⟨_, frz_per, _, rfl, ?_⟩
    rw [List.length_map]
    refine ite_dec (fun hk2 => ?_) fun hk2 => ?_
    · have hk2 : k < part.length := by omega
      obtain ⟨x, hx⟩ : ∃ x, part[k]? = some x := ⟨part[k], by simp⟩
      have hxp : x ∈ ps := hin B.conn x (List.mem_of_getElem? hx)
      refine ws_seqD (ws_drop (we_mt (i := 5) rfl (wa_cons (wq_of ?_))))
      refine we_lcS .int (fun y => !decide (y ∈ part)) (wil_list (wq_of (we_dgetL (wq_of (we_var rfl ⟨_, frz_per, ps, amg ts ps, rfl, wq_of (we_ixS (i := 5) rfl ?_)⟩)))))
      refine wq_of (we_var rfl ⟨_, frz_per, (k : Int), .int x, rfl, rfl, atI_in (by omega) (by rw [List.getElem?_map, Int.toNat_natCast, hx]; rfl), ?_⟩)
      refine ⟨_, frz_per, x, rfl, hxp, _, frz_per, _, rfl, amg ts ps x, rfl, rfl, ?_, fun y hy => ?_, ?_⟩
      · have := nb_lenR hv hnd x
        have h2 : (amg ts ps x).length ≤ (nb ts x).length := List.length_filter_le _ _
        omega
      · refine wg_name rfl ?_
        walk_at "n"
        refine wt_test (wq_of (we_notInS (i := 5) rfl ?_))
        refine wq_of (we_var rfl ⟨_, frz_per, _, rfl, _, rfl, ⟨lay_int.shaped, lay_ints.shaped⟩, ?_⟩)
        rw [any_ints]
        refine ⟨_, frz_per, _, rfl, rfl, ?_⟩
        refine ite_ndec (fun _ => ?_) fun _ => rfl
        repeat walk_at "v"
        exact ⟨rfl, rfl⟩
      · have nd2 : (amg ts ps x).Nodup := (nb_nd hv hnd).filter _
        generalize hnew : (amg ts ps x).filter (fun y => !decide (y ∈ part)) = new
        have hmem : ∀ y, y ∈ new ↔ Ei ts ps x y ∧ y ∉ part := fun y => by
          rw [← hnew, List.mem_filter, mem_amg]
          simp [hxp]
        have B2 : Bf (Ei ts ps) l (part ++ new) (k + 1) := by
          refine ⟨List.mem_append_left _ B.root, fun y hy => ?_, List.nodup_append.mpr ⟨B.nd, by rw [← hnew]; exact nd2.filter _, fun y hy z hz e => ((hmem z).mp hz).2 (e ▸ hy)⟩, fun i y hi hy z hz => ?_, by rw [List.length_append]; omega⟩
          · rcases List.mem_append.mp hy with hy | hy
            · exact B.conn y hy
            · exact .step (B.conn x (List.mem_of_getElem? hx)) ((hmem y).mp hy).1
          · by_cases c2 : i < k
            · rw [List.getElem?_append_left (by omega)] at hy
              exact List.mem_append_left _ (B.cl i y c2 hy z hz)
            · obtain rfl : i = k := by omega
              rw [List.getElem?_append_left hk2, hx] at hy
              cases hy
              by_cases c3 : z ∈ part
              · exact List.mem_append_left _ c3
              · exact List.mem_append_right _ ((hmem z).mpr ⟨hz, c3⟩)
        have hpl2 := len_rng B2.nd fun x hx => pr x (hin B2.conn x hx)
        rw [List.length_append] at hpl2
        refine ⟨_, frz_own, wa_nil ⟨_, _, _, _, rfl, argD1, mo_extend (by rw [List.length_map, List.length_map]; omega), ?_⟩⟩
        rw [← List.map_append]
        walk_at "n"
        refine ws_augAdd (i := 6) rfl rfl ?_
        repeat walk_at "v"
        exact ⟨_, by omega, part ++ new, k + 1, rfl, B2, rfl⟩
    · obtain rfl : k = part.length := by have := B.le; omega
      have hall := B.all
      refine ws_seqD (ws_drop (we_mt (i := 3) rfl (wa_cons (wq_of ?_))))
      repeat walk_at "v"
      refine ck_sortI fun ns hp hs => ?_
      have ens : ns = partC (Ei ts ps) n l := sort_asc partC_lt hs ((List.perm_ext_iff_of_nodup (hp.nodup_iff.mpr B.nd) (partC_lt.imp fun {a b} h e => by omega)).mpr fun x => by
        rw [hp.mem_iff, hall x, mem_partC]
        exact ⟨fun h => ⟨pr x (ei_in h hl), h⟩, fun h => h.2⟩)
      subst ens
      have hlen1 : (l :: tl).length = tl.length + 1 := rfl
      refine ⟨_, frz_own, wa_nil ⟨_, _, _, _, rfl, argD1, mo_append (by rw [List.length_map]; omega), ?_⟩⟩
      rw [show rows.map rowI ++ [PyData.list ((partC (Ei ts ps) n l).map .int)] = (rows ++ [partC (Ei ts ps) n l]).map rowI from by rw [List.map_append]; rfl]
      walk_at "n"
      obtain ⟨F2, _⟩ := F.next hv asc (part := part) hall
      refine ws_asg rfl (we_of (wq_of ?_))
      refine we_lcS .int (fun y => decide (y ∉ part)) (wil_list (wq_of (we_var rfl ⟨_, frz_per, _, rfl, l :: tl, rfl, rfl, by omega, fun y hy => ?_, ?_⟩)))
      · refine wg_name rfl ?_
        walk_at "n"
        repeat walk_at "v"
        refine ok_notIn lay_int.shaped lay_ints.shaped ?_
        rw [any_ints]
        refine ⟨_, frz_per, _, rfl, by by_cases c : y ∈ part <;> simp [c], ?_⟩
        refine ite_ndec (fun _ => ?_) fun _ => rfl
        repeat walk_at "v"
        exact ⟨rfl, rfl⟩
      · have hlt : ((l :: tl).filter fun x => decide (x ∉ part)).length < (l :: tl).length := by
          rw [List.filter_cons, if_neg (by simp [B.root])]
          exact Nat.lt_succ_of_le (List.length_filter_le _ _)
        refine ⟨_, frz_own, _, hlt, l + 1, rows ++ [partC (Ei ts ps) n l], _, _, _, rfl, F2, rfl, ?_⟩
        rw [List.length_append, List.length_singleton]
        omega
end G

namespace G
/-! ### places struck one after the other -/
/-- what is left at v -/
def rem (ts : List (Int × Int)) (gs : List Int) (v : Int) : List Int := if v ∈ gs then [] else (nb ts v).filter fun x => decide (x ∉ gs)
structure CoreIs (n : Nat) (ts : List (Int × Int)) (ss : List Int) : Prop where
  rng : ∀ v ∈ ss, 0 ≤ v ∧ v < n
  nd : ss.Nodup
  step : ∀ pre v post, ss = pre ++ v :: post → (rem ts pre v).length = 1 ∧ ∀ u : Int, 0 ≤ u → u < v → (rem ts pre u).length ≠ 1
  stop : ∀ u : Int, 0 ≤ u → u < n → (rem ts ss u).length ≠ 1
theorem erase_filter {v : Int} : ∀ {l : List Int} {t : Nat}, l.Nodup → l[t]? = some v → l.eraseIdx t = l.filter fun x => decide (x ≠ v)
  | [], _, _, h => by simp at h
  | x :: l, 0, hn, h => by
    obtain ⟨h1, h2⟩ := List.nodup_cons.mp hn
    have e : x = v := by simpa using h
    subst e
    rw [List.filter_cons, if_neg (by simp)]
    refine (List.filter_eq_self.mpr fun y hy => ?_).symm
    exact decide_eq_true fun e => h1 (e ▸ hy)
  | x :: l, t + 1, hn, h => by
    obtain ⟨h1, h2⟩ := List.nodup_cons.mp hn
    have h : l[t]? = some v := by simpa using h
    have hx : x ≠ v := fun e => h1 (e ▸ List.mem_of_getElem? h)
    rw [List.eraseIdx_cons_succ, erase_filter h2 h, List.filter_cons, if_pos (by simpa using hx)]
theorem rem_other {ts : List (Int × Int)} {gs : List Int} {v w : Int} (h : w ≠ v) : rem ts (gs ++ [v]) w = (rem ts gs w).filter fun x => decide (x ≠ v) := by
  unfold rem
  by_cases c : w ∈ gs
  · rw [if_pos (List.mem_append_left _ c), if_pos c]; rfl
  · rw [if_neg (by simp [c, h]), if_neg c, List.filter_filter]
    refine List.filter_congr fun x _ => ?_
    by_cases a : x ∈ gs <;> by_cases b : x = v <;> simp [a, b]
theorem rem_self {ts : List (Int × Int)} {gs : List Int} {v : Int} : rem ts (gs ++ [v]) v = [] := by
  unfold rem
  rw [if_pos (by simp)]
theorem mem_rem {ts : List (Int × Int)} {gs : List Int} {v x : Int} : x ∈ rem ts gs v ↔ v ∉ gs ∧ x ∈ nb ts v ∧ x ∉ gs := by
  unfold rem
  by_cases c : v ∈ gs
  · rw [if_pos c]; simp [c]
  · rw [if_neg c, List.mem_filter]; simp [c]
theorem rem_sym {n : Nat} {ts : List (Int × Int)} (hv : Valid n ts) {gs : List Int} {v x : Int} (h : x ∈ rem ts gs v) : v ∈ rem ts gs x := by
  obtain ⟨h1, h2, h3⟩ := mem_rem.mp h
  exact mem_rem.mpr ⟨h3, (mem_nb hv).mpr ((mem_nb hv).mp h2).symm, h1⟩
theorem rem_nd {n : Nat} {ts : List (Int × Int)} (hv : Valid n ts) (hn : ts.Nodup) {gs : List Int} {v : Int} : (rem ts gs v).Nodup := by
  unfold rem
  split
  · exact List.nodup_nil
  · exact (nb_nd hv hn).filter _
def rowsR (n : Nat) (ts : List (Int × Int)) (gs : List Int) : List (List Int) := (List.range n).map fun i : Nat => rem ts gs (i : Int)
theorem rowsR_len {n : Nat} {ts : List (Int × Int)} {gs : List Int} : (rowsR n ts gs).length = n := by unfold rowsR; rw [List.length_map, List.length_range]
theorem rowsR_at {n : Nat} {ts : List (Int × Int)} {gs : List Int} {i : Nat} (h : i < n) : (rowsR n ts gs)[i]? = some (rem ts gs (i : Int)) := by
  unfold rowsR
  rw [List.getElem?_map, List.getElem?_range h]
  rfl
/-- one leaf struck -/
theorem rows_step {n : Nat} {ts : List (Int × Int)} (hv : Valid n ts) (hn : ts.Nodup) {gs : List Int} {v o : Nat} (hr : rem ts gs (v : Int) = [(o : Int)]) (ho : o < n) {t : Nat} (ht : (rem ts gs (o : Int))[t]? = some (v : Int)) :
    ((rowsR n ts gs).set v []).set o ((rem ts gs (o : Int)).eraseIdx t) = rowsR n ts (gs ++ [(v : Int)]) := by
  have hne : o ≠ v := fun e => by
    subst e
    have hm : (o : Int) ∈ rem ts gs (o : Int) := by rw [hr]; simp
    rcases (mem_nb hv).mp (mem_rem.mp hm).2.1 with h | h <;> (have := hv _ h; dsimp only at this; omega)
  refine List.ext_getElem? fun i => ?_
  by_cases hi : i < n
  · rw [rowsR_at hi]
    by_cases c1 : o = i
    · subst c1
      rw [List.getElem?_set_self (by rw [List.length_set, rowsR_len]; exact hi), erase_filter (rem_nd hv hn) ht, rem_other (by omega)]
    · rw [List.getElem?_set_ne c1]
      by_cases c2 : v = i
      · subst c2
        rw [List.getElem?_set_self (by rw [rowsR_len]; exact hi), rem_self]
      · rw [List.getElem?_set_ne c2, rowsR_at hi, rem_other (by omega)]
        refine congrArg some (List.filter_eq_self.mpr fun x hx => ?_).symm
        refine decide_eq_true fun e => ?_
        subst e
        have := rem_sym hv hx
        rw [hr, List.mem_singleton] at this
        omega
  · rw [List.getElem?_eq_none (by rw [List.length_set, List.length_set, rowsR_len]; omega), List.getElem?_eq_none (by rw [rowsR_len]; omega)]
end G

/-! ### list(xs) of an own list; the lists within an own list frozen; each grown by one and turned round -/
namespace G
open PySem L2
section
variable {K : PySem.W.Frag} {P : Nat → Bool} {Γ Γ0 : Ga} {D : Pe} {k : Gp → Ga → Prop} {te : TE}
end
end G

/-! ### enumerate; xs[j].pop(), xs[j].remove(y); a tuple of two own lists -/
namespace G
open PySem L2
section
variable {K : PySem.W.Frag} {P : Nat → Bool} {Γ : Ga} {D : Pe} {k : Gp → Ga → Prop} {te : TE} {tr : TA}
theorem wi_enum {ki : Nat → (Nat → Per) → Ga → Prop} (h : WA tr Γ fun as Γ1 => ∃ xs, ArgD as [.list xs] ∧ ki xs.length (fun i => dP (.tuple [.int (i : Int), xs.getD i .none])) Γ1) : WI (iEnum K tr) Γ ki := fun ω σ H S R f => h ω σ H S _ fun vs as Γ1 ω1 H1 ⟨xs, e, hk⟩ S1 a f1 => by
  have hdr := e.drs a
  cases hdr with | cons x y =>
  cases y
  obtain ⟨p, us, rfl, hp, hu⟩ := x.lst_inv
  refine ⟨p, us, rfl, SqL.of (vw_H hp), f (Ite K p) _ _ Γ1 ω1 H1 hk S1 (fun i H' s => ?_) f1⟩
  have hp' : H' p = some (.lst us) := s _ _ hp
  refine ⟨fun hi => ?_, fun hi => ⟨us, SqL.of hp', by rw [hu.length]; exact hi⟩⟩
  have h1 : i < us.length := by rw [hu.length]; omega
  refine ⟨⟨us, us[i], SqL.of hp', by simp [h1]⟩, fun x H'' y => .inr ?_⟩
  obtain ⟨T, u, rfl, hT, rfl, e1⟩ := y
  have eu := e1 us (SqL.of hp')
  obtain ⟨d1, g1, r1⟩ := hu.get eu
  exact ⟨T, [.int (i : Int), u], _, hT, rfl, rfl, rfl, .cons (DR.int _) (.cons (by rw [List.getD_eq_getElem?_getD, g1]; exact r1) .nil)⟩
/-- xs[j].pop() -/
theorem we_popAt2 {i : Nat} {dss0 : List (List PyData)} (h : Γ[i]? = some (some (own2 dss0))) (ht : WQ te Γ fun q Γ1 => ∃ j m dss ds d, q = dP (.int j) ∧ Γ1[i]? = some (some (own2 dss)) ∧ ixN dss.length j = some m ∧ dss[m]? = some (ds ++ [d]) ∧
      k (dat d) (Γ1.set i (some (own2 (dss.set m ds))))) : WE (tBM0 K "list" rPop (tOp (rIx K) (tVar i) te)) Γ k := fun ω σ H S Q f => by
  obtain ⟨v, e, _⟩ := S.2 i _ h
  refine ⟨v, e, ht ω σ H S _ fun w q Γ1 ω1 H1 ⟨j, m, dss, ds, d, eq, hi, hj, hm, hk⟩ S1 pq f1 => ?_⟩
  subst eq
  cases DR.int_inv pq
  obtain ⟨v', e', p'⟩ := S1.2 i _ hi
  rw [e] at e'
  cases e'
  obtain ⟨a, bs, rfl, hr, nd, hb⟩ := p'
  have hlen := hb.1
  obtain ⟨b, hbm⟩ : ∃ b, bs[m]? = some b := ⟨bs[m]'(by rw [hlen]; exact (List.getElem?_eq_some_iff.mp hm).1), by simp⟩
  obtain ⟨ys, hys, hds⟩ := hb.2 m b _ hbm hm
  have cb := vw_c hys
  obtain ⟨z, hz, dz⟩ := hds.at (i := ys.length - 1) (d := d) (by rw [hds.length]; simp)
  refine .inl ⟨a, bs.map V.ref, j, .ref b, rfl, rfl, SqL.of (vw_H hr), ?_, .inl ⟨rfl, ys, SqL.of (vw_H hys)⟩, b, ys, z, rfl, rfl, vw_H hys, hz, ?_⟩
  · unfold atI
    rw [List.length_map, hlen, hj]
    show (bs.map V.ref)[m]? = _
    rw [List.getElem?_map, hbm]
    rfl
  · have m0 : Same (vw ω1 H1 0) (vw ω1 (upd H1 b (.lst ys.dropLast)) 0) := mut_same (by rw [cb]; omega)
    have hmem := List.mem_of_getElem? hbm
    obtain ⟨nd1, nd2⟩ := List.nodup_cons.mp nd
    have hab : a ≠ b := fun e => nd1 (e ▸ hmem)
    refine f z _ _ ω1 _ hk (S1.set m0 (fun j' g' hne _ => mut_same (by rw [cb]; omega)) e ⟨a, bs, rfl, vw_mk (vw_c hr) (by rw [upd_ne hab]; exact vw_H hr), nd, by rw [List.length_set]; exact hlen, fun t b' ds' e1 e2 => ?_⟩) (DR.mono m0 d dz) (f1.trans ⟨m0, mut_same (by rw [cb]; omega)⟩)
    rw [List.getElem?_set] at e2
    by_cases htm : m = t
    · subst htm
      rw [hbm] at e1
      cases e1
      rw [if_pos rfl] at e2
      split at e2
      · cases e2
        refine ⟨ys.dropLast, vw_mk cb upd_same, ?_⟩
        have := (hds.mono m0).take ds.length
        rw [List.take_left' rfl] at this
        have e3 : ys.take ds.length = ys.dropLast := by
          rw [List.dropLast_eq_take, hds.length, List.length_append]
          simp
        rw [e3] at this
        exact this
      · cases e2
    · rw [if_neg htm] at e2
      obtain ⟨zs, h1, h2⟩ := hb.2 t b' ds' e1 e2
      have hne : b' ≠ b := fun e => by
        subst e
        have ht := (List.getElem?_eq_some_iff.mp e1).1
        exact htm ((List.getElem?_inj (i := m) (j := t) (List.getElem?_eq_some_iff.mp hbm).1 nd2).mp (hbm.trans e1.symm))
      exact ⟨zs, vw_mk (vw_c h1) (by rw [upd_ne hne]; exact vw_H h1), h2.mono m0⟩
/-- xs[j].remove(y), ints -/
theorem we_remAt2 {i p : Nat} {dss0 : List (List PyData)} (h : Γ[i]? = some (some (own2 dss0))) (ht : WQ te Γ fun q Γ1 => ∃ (j : Int) (m : Nat) (dss : List (List PyData)) (ns : List Int) (n : Int) (t : Nat), q = dP (.int j) ∧ Γ1[i]? = some (some (own2 dss)) ∧ ixN dss.length j = some m ∧ dss[m]? = some (ns.map .int) ∧ Γ1[p]? = some (some (dat (.int n))) ∧
      ns[t]? = some n ∧ (∀ s : Nat, s < t → ns[s]? ≠ some n) ∧ k (dat .none) (Γ1.set i (some (own2 (dss.set m ((ns.eraseIdx t).map .int)))))) : WE (tBM K "list" rRemI (tOp (rIx K) (tVar i) te) (tCons (tVar p) tNil)) Γ k := fun ω σ H S Q f => by
  obtain ⟨v, e, _⟩ := S.2 i _ h
  refine ⟨v, e, ht ω σ H S _ fun w q Γ1 ω1 H1 ⟨j, m, dss, ns, n, t, eq, hi, hj, hm, hp, ht1, ht2, hk⟩ S1 pq f1 => ?_⟩
  subst eq
  cases DR.int_inv pq
  obtain ⟨v', e', p'⟩ := S1.2 i _ hi
  rw [e] at e'
  cases e'
  obtain ⟨a, bs, rfl, hr, nd, hb⟩ := p'
  obtain ⟨y, ey, hy⟩ := S1.2 p _ hp
  cases hy.int_inv
  have hlen := hb.1
  obtain ⟨b, hbm⟩ : ∃ b, bs[m]? = some b := ⟨bs[m]'(by rw [hlen]; exact (List.getElem?_eq_some_iff.mp hm).1), by simp⟩
  obtain ⟨ys, hys, hds⟩ := hb.2 m b _ hbm hm
  have cb := vw_c hys
  have eys := hds.ints
  subst eys
  refine .inl ⟨a, bs.map V.ref, j, .ref b, rfl, rfl, SqL.of (vw_H hr), ?_, .inl ⟨rfl, _, SqL.of (vw_H hys)⟩, _, ey, b, ns, n, t, rfl, rfl, vw_H hys, ht1, ht2, ?_⟩
  · unfold atI
    rw [List.length_map, hlen, hj]
    show (bs.map V.ref)[m]? = _
    rw [List.getElem?_map, hbm]
    rfl
  · have m0 : Same (vw ω1 H1 0) (vw ω1 (upd H1 b (.lst ((ns.eraseIdx t).map V.int))) 0) := mut_same (by rw [cb]; omega)
    have hmem := List.mem_of_getElem? hbm
    obtain ⟨nd1, nd2⟩ := List.nodup_cons.mp nd
    have hab : a ≠ b := fun e => nd1 (e ▸ hmem)
    refine f .non _ _ ω1 _ hk (S1.set m0 (fun j' g' hne _ => mut_same (by rw [cb]; omega)) e ⟨a, bs, rfl, vw_mk (vw_c hr) (by rw [upd_ne hab]; exact vw_H hr), nd, by rw [List.length_set]; exact hlen, fun t' b' ds' e1 e2 => ?_⟩) DR.non (f1.trans ⟨m0, mut_same (by rw [cb]; omega)⟩)
    rw [List.getElem?_set] at e2
    by_cases htm : m = t'
    · subst htm
      rw [hbm] at e1
      cases e1
      rw [if_pos rfl] at e2
      split at e2
      · cases e2
        exact ⟨_, vw_mk cb upd_same, DRs.of_ints⟩
      · cases e2
    · rw [if_neg htm] at e2
      obtain ⟨zs, h1, h2⟩ := hb.2 t' b' ds' e1 e2
      have hne : b' ≠ b := fun e => by
        subst e
        have ht := (List.getElem?_eq_some_iff.mp e1).1
        exact htm ((List.getElem?_inj (i := m) (j := t') (List.getElem?_eq_some_iff.mp hbm).1 nd2).mp (hbm.trans e1.symm))
      exact ⟨zs, vw_mk (vw_c h1) (by rw [upd_ne hne]; exact vw_H h1), h2.mono m0⟩
end
/-- a tuple of two lists of one's own -/
def pairO (xs ys : List PyData) : Gp := ⟨fun A v R => ∃ t a b us ws, v = .ref t ∧ R t = some (.tup [.ref a, .ref b]) ∧ R a = some (.lst us) ∧ R b = some (.lst ws) ∧ a ≠ b ∧ DRs A us xs ∧ DRs A ws ys,
  fun s r ⟨t, a, b, us, ws, e, h1, h2, h3, hn, d1, d2⟩ => ⟨t, a, b, us, ws, e, r _ _ h1, r _ _ h2, r _ _ h3, hn, d1.mono s, d2.mono s⟩⟩
theorem frz_pairO {xs ys : List PyData} : Frz (pairO xs ys) (dP (.tuple [.list xs, .list ys])) := fun A v R A' s r q => by
  obtain ⟨t, a, b, us, ws, rfl, h1, h2, h3, hn, d1, d2⟩ := q
  exact DR.tup (r _ _ h1) (.cons (.lst (r _ _ h2) (d1.mono s)) (.cons (.lst (r _ _ h3) (d2.mono s)) .nil))
section
variable {K : PySem.W.Frag} {P : Nat → Bool} {Γ : Ga} {D : Pe} {k : Gp → Ga → Prop} {te : TE}
/-- (x, e), x an own slot, e a fresh list -/
theorem we_pairO {i : Nat} {xs0 : List PyData} (hi : Γ[i]? = some (some (own xs0))) (h : WE te Γ fun g Γ1 => ∃ xs ys, g = own ys ∧ Γ1[i]? = some (some (own xs)) ∧ k (pairO xs ys) (Γ1.set i none)) : WE (tTup (tCons (tVar i) (tCons te tNil))) Γ k := fun ω σ H S Q f => by
  classical
  obtain ⟨v, e, _⟩ := S.2 i _ hi
  refine ⟨v, e, h ω σ H S _ fun w g Γ1 ω1 H1 ⟨xs, ys, eg, h1, hk⟩ S1 p f1 => ?_⟩
  subst eg
  obtain ⟨v', e', a, us, rfl, ha, hd⟩ := S1.2 i _ h1
  rw [e] at e'
  cases e'
  obtain ⟨b, ws, rfl, hb, hw⟩ := p
  have hne : a ≠ b := fun z => by have c1 := vw_c ha; have c2 := vw_c hb; rw [z, c2] at c1; omega
  refine ⟨by show 2 ≤ sizeLine; decide, fun t ht => ?_⟩
  have hat : a ≠ t := fun z => by rw [← z, vw_H ha] at ht; cases ht
  have hbt : b ≠ t := fun z => by rw [← z, vw_H hb] at ht; cases ht
  let ω2 : Col := fun c => if c = t ∨ c = a then 2 else ω1 c
  have keep : ∀ d, d ≠ i + 3 → Same (vw ω1 H1 d) (vw ω2 (upd H1 t (.tup [.ref a, .ref b])) d) := fun d hdi c o z => by
    have n1 : c ≠ t := fun e => by rw [e] at z; rw [vw_H z] at ht; cases ht
    have n2 : c ≠ a := fun e => by have c1 := vw_c z; rw [e, vw_c ha] at c1; exact hdi c1.symm
    exact vw_mk (by show (if c = t ∨ c = a then 2 else ω1 c) = d; rw [if_neg (by rintro (h | h); exact n1 h; exact n2 h)]; exact vw_c z) (by rw [upd_ne n1]; exact vw_H z)
  refine f (.ref t) _ _ ω2 _ hk ⟨by rw [List.length_set]; exact S1.1, fun j g hj => ?_⟩ ⟨t, a, b, us, ws, rfl, vw_mk (by show (if _ then 2 else _) = 2; rw [if_pos (.inl rfl)]) upd_same, vw_mk (by show (if _ then 2 else _) = 2; rw [if_pos (.inr rfl)]) (by rw [upd_ne hat]; exact vw_H ha), keep 2 (by omega) _ _ hb, hne, hd.mono (keep 0 (by omega)), hw.mono (keep 0 (by omega))⟩ (f1.trans ⟨keep 0 (by omega), keep 1 (by omega)⟩)
  rw [set_eq] at hj
  by_cases c : i = j
  · rw [if_pos c] at hj
    split at hj <;> cases hj
  · rw [if_neg c] at hj
    obtain ⟨z, e1, e2⟩ := S1.2 j g hj
    exact ⟨z, e1, g.mono (keep 0 (by omega)) (keep _ (by omega)) e2⟩
end
end G
namespace G
open PySem L2
theorem wil_enum {K : PySem.W.Frag} {Γ : Ga} {tr : TA} {kd : List PyData → Ga → Prop} (h : WA tr Γ fun as Γ1 => ∃ xs, ArgD as [.list xs] ∧ kd (xs.zipIdx.map fun p => .tuple [.int (p.2 : Int), p.1]) Γ1) : WIL (iEnum K tr) Γ kd :=
  wi_enum (h.imp fun as Γ1 ⟨xs, e, hk⟩ => ⟨xs, e, _, by simp, fun i hi => by
    have e : (xs.zipIdx)[i]? = some (xs.getD i .none, i) := by
      rw [List.getElem?_zipIdx, List.getElem?_eq_getElem hi]
      simp [List.getD_eq_getElem?_getD, List.getElem?_eq_getElem hi]
    rw [List.getD_eq_getElem?_getD, List.getElem?_map, e]
    rfl, hk⟩)
end G
namespace G
open PySem L2
/-- a slot forgotten -/
theorem ws_non {P : Nat → Bool} {Γ : Ga} {D : Pe} (i : Nat) {t : TS} (h : WS P t (Γ.set i none) D) : WS P t Γ D := fun ω σ H S E m => h ω σ H ⟨by rw [List.length_set]; exact S.1, fun j g hj => by
  rw [set_eq] at hj
  by_cases c : i = j
  · rw [if_pos c] at hj
    split at hj <;> cases hj
  · rw [if_neg c] at hj
    exact S.2 j g hj⟩ E m
end G

namespace G
open PySem L2
local macro_rules | `(tactic| walk_at "g1") => `(tactic| first
  | (with_reducible show WE _ _ _; with_reducible first | refine we_var (by with_unfolding_all exact rfl) ?_ | (show WE (tOp _ _ _) _ _; first | refine we_ixS (by with_unfolding_all exact rfl) ?_ | refine we_ixScr (by with_unfolding_all exact rfl) ?_ | refine we_inS (by with_unfolding_all exact rfl) ?_ | refine we_notInS (by with_unfolding_all exact rfl) ?_ | refine we_eqS (by with_unfolding_all exact rfl) ?_ | refine we_neS (by with_unfolding_all exact rfl) ?_ | refine we_opK ?_) | (show WE (tCB _ _) _ _; first | refine we_lenS' (by with_unfolding_all exact rfl) ?_ | refine we_lenScr (by with_unfolding_all exact rfl) ?_ | refine we_cbK ?_) | refine we_int ?_ | refine we_bl ?_ | refine we_non ?_ | refine we_str ?_ | refine we_neg ?_ | refine we_not ?_ | refine we_and ?_ | refine we_or ?_ | refine we_if ?_ | refine we_tup ?_ | refine we_lst ?_ | refine we_call ?_ | refine we_mt (by with_unfolding_all exact rfl) ?_)
  | (with_reducible show WS _ _ _ _; with_reducible first | refine ws_seqA ?_ | refine ws_seqD ?_ | refine ws_asg (by with_unfolding_all exact rfl) ?_ | refine ws_asgG ?_ | refine ws_if ?_ | refine ws_ret ?_ | refine ws_drop ?_ | refine ws_next ?_ | refine ws_retN ?_)
  | (with_reducible show WT _ _ _; with_reducible first | refine wt_test ?_ | refine wt_B ?_ | refine wt_not ?_ | refine wt_and ?_ | refine wt_or ?_ | refine wt_yes ?_)
  | (with_reducible show WA _ _ _; with_reducible first | refine wa_nil ?_ | refine wa_cons (wq_of (we_var (by with_unfolding_all exact rfl) ?_)) | refine wa_slotU (by with_unfolding_all exact rfl) ?_ | refine wa_cons ?_)
  | (with_reducible show OpK _ _ _ _ _; with_reducible first | refine ok_plusI ?_ | refine ok_sub ?_ | refine ok_lt ?_ | refine ok_le ?_ | refine ok_gt ?_ | refine ok_ge ?_ | refine ok_eqI ?_ | refine ok_neI ?_ | refine ok_mod (by first | assumption | decide | omega) ?_ | refine ok_ixL (by with_unfolding_all exact rfl) ?_)
  | (with_reducible show CbK _ _ _ _; with_reducible first | refine ck_lenL ?_ | refine ck_lenT ?_ | refine ck_int ?_ | refine ck_intB ?_ | refine ck_max ?_ | refine ck_min ?_ | refine ck_list ?_)
  | with_reducible refine wq_of ?_
  | (with_reducible show WG _ _ _ _ _; with_reducible first | refine wg_name (by with_unfolding_all exact rfl) ?_ | refine wg_tup (by with_unfolding_all exact rfl) ?_ | refine wg_set (by with_unfolding_all exact rfl) ?_)
  | (with_reducible show WGs _ _ _ _ _; with_reducible first | refine wgs_cons ?_ | refine wgs_nil ?_)
  | with_reducible refine iteT ?_
  | with_reducible refine iteF ?_
  | with_reducible refine ⟨_, frz_per, ?_⟩
  | with_reducible refine ⟨_, frz_own, ?_⟩
  | refine ⟨_, rfl, ?_⟩
  | refine ⟨_, argD1, ?_⟩
  | refine ⟨_, argD2, ?_⟩
  | refine ⟨_, argD0, ?_⟩
  | refine ⟨_, argD3, ?_⟩
  | refine ⟨_, argD4, ?_⟩
  | refine ⟨_, _, rfl, rfl, rfl, ?_⟩
  | refine ⟨_, _, _, rfl, rfl, rfl, ?_⟩
  | refine ⟨(by simp only [List.length_cons, List.length_nil]; decide), ?_⟩
  | refine ⟨rfl, nd1, ?_⟩
  | refine ⟨rfl, nd0, ?_⟩)
local macro_rules | `(tactic| walk_at "go") => `(tactic| repeat walk_at "g1")
local macro_rules | `(tactic| walk_at "g2") => `(tactic| first
  | (with_reducible show WE _ _ _; with_reducible first | refine we_var (by with_unfolding_all exact rfl) ?_ | (show WE (tOp _ _ _) _ _; first | refine we_notN ?_ | refine we_ixS (by with_unfolding_all exact rfl) ?_ | refine we_ixScr (by with_unfolding_all exact rfl) ?_ | refine we_inS (by with_unfolding_all exact rfl) ?_ | refine we_notInS (by with_unfolding_all exact rfl) ?_ | refine we_eqS (by with_unfolding_all exact rfl) ?_ | refine we_neS (by with_unfolding_all exact rfl) ?_ | refine we_opK ?_) | (show WE (tCB _ _) _ _; first | refine we_isInt ?_ | refine we_isBl ?_ | refine we_isLst ?_ | refine we_isTup ?_ | refine we_lenO (by with_unfolding_all exact rfl) ?_ | refine we_lenS' (by with_unfolding_all exact rfl) ?_ | refine we_lenScr (by with_unfolding_all exact rfl) ?_ | refine we_cbK ?_) | refine we_chain ?_ | refine we_slice ?_ | refine we_int ?_ | refine we_bl ?_ | refine we_non ?_ | refine we_str ?_ | refine we_neg ?_ | refine we_not ?_ | refine we_and ?_ | refine we_or ?_ | refine we_if ?_ | refine we_tup ?_ | refine we_lst ?_ | refine we_call ?_ | refine we_mt (by with_unfolding_all exact rfl) ?_)
  | (with_reducible show WS _ _ _ _; with_reducible first | refine ws_seqA ?_ | refine ws_seqD ?_ | refine ws_asg (by with_unfolding_all exact rfl) ?_ | refine ws_asgG ?_ | refine ws_if ?_ | refine ws_ret ?_ | refine ws_drop ?_ | refine ws_next ?_ | refine ws_retN ?_)
  | (with_reducible show WT _ _ _; with_reducible first | refine wt_test ?_ | refine wt_B ?_ | refine wt_not ?_ | refine wt_and ?_ | refine wt_or ?_ | refine wt_yes ?_)
  | (with_reducible show WA _ _ _; with_reducible first | refine wa_nil ?_ | refine wa_cons (wq_of (we_var (by with_unfolding_all exact rfl) ?_)) | refine wa_slotU (by with_unfolding_all exact rfl) ?_ | refine wa_cons ?_)
  | (with_reducible show OpK _ _ _ _ _; with_reducible first | refine ok_isB ?_ | refine ok_notB ?_ | refine ok_plusI ?_ | refine ok_sub ?_ | refine ok_lt ?_ | refine ok_le ?_ | refine ok_gt ?_ | refine ok_ge ?_ | refine ok_eqI ?_ | refine ok_neI ?_ | refine ok_mod (by first | assumption | decide | omega) ?_ | refine ok_ixL (by with_unfolding_all exact rfl) ?_)
  | (with_reducible show CbK _ _ _ _; with_reducible first | refine ck_lenL ?_ | refine ck_lenT ?_ | refine ck_int ?_ | refine ck_intB ?_ | refine ck_max ?_ | refine ck_min ?_ | refine ck_list ?_)
  | with_reducible refine wq_of ?_
  | (with_reducible show WG _ _ _ _ _; with_reducible first | refine wg_name (by with_unfolding_all exact rfl) ?_ | refine wg_tup (by with_unfolding_all exact rfl) ?_ | refine wg_set (by with_unfolding_all exact rfl) ?_)
  | (with_reducible show WGs _ _ _ _ _; with_reducible first | refine wgs_cons ?_ | refine wgs_nil ?_)
  | (with_reducible show WO _ _ _; with_reducible first | refine wo_some ?_ | refine wo_none ?_)
  | refine ⟨_, argD5, ?_⟩
  | refine ⟨_, argD6, ?_⟩
  | refine ⟨_, argD7, ?_⟩
  | refine ⟨_, argD9, ?_⟩
  | with_reducible refine iteT ?_
  | with_reducible refine iteF ?_
  | with_reducible refine ⟨_, frz_per, ?_⟩
  | with_reducible refine ⟨_, frz_own, ?_⟩
  | refine ⟨_, rfl, ?_⟩
  | refine ⟨_, argD1, ?_⟩
  | refine ⟨_, argD2, ?_⟩
  | refine ⟨_, argD0, ?_⟩
  | refine ⟨_, argD3, ?_⟩
  | refine ⟨_, argD4, ?_⟩
  | refine ⟨_, _, rfl, rfl, rfl, ?_⟩
  | refine ⟨_, _, _, rfl, rfl, rfl, ?_⟩
  | refine ⟨(by simp only [List.length_cons, List.length_nil]; decide), ?_⟩
  | refine ⟨rfl, nd1, ?_⟩
  | refine ⟨rfl, nd0, ?_⟩)
local macro_rules | `(tactic| walk_at "w") => `(tactic| first
  | (with_reducible show WE _ _ _; with_reducible first | refine we_var (by with_unfolding_all exact rfl) ?_ | refine we_varF (by with_unfolding_all exact rfl) frz_own ?_ | (show WE (tOp _ _ _) _ _; first | refine we_isNd ?_ | refine we_notNd ?_ | refine we_notN ?_ | refine we_ixS (by with_unfolding_all exact rfl) ?_ | refine we_ixScr (by with_unfolding_all exact rfl) ?_ | refine we_inS (by with_unfolding_all exact rfl) ?_ | refine we_notInS (by with_unfolding_all exact rfl) ?_ | refine we_eqS (by with_unfolding_all exact rfl) ?_ | refine we_neS (by with_unfolding_all exact rfl) ?_ | refine we_opK ?_) | (show WE (tCB _ _) _ _; first | refine we_repr ?_ | refine we_isInt ?_ | refine we_isBl ?_ | refine we_isLst ?_ | refine we_isTup ?_ | refine we_lenO (by with_unfolding_all exact rfl) ?_ | refine we_lenS' (by with_unfolding_all exact rfl) ?_ | refine we_lenScr (by with_unfolding_all exact rfl) ?_ | refine we_cbK ?_) | refine we_dnew ?_ | refine we_lenSetI ?_ | refine we_revL ?_ | refine we_chain ?_ | refine we_slice ?_ | refine we_int ?_ | refine we_bl ?_ | refine we_non ?_ | refine we_str ?_ | refine we_neg ?_ | refine we_not ?_ | refine we_and ?_ | refine we_or ?_ | refine we_if ?_ | refine we_tup ?_ | refine we_lst ?_ | refine we_call ?_ | refine we_mt (by with_unfolding_all exact rfl) ?_)
  | (with_reducible show WS _ _ _ _; with_reducible first | refine ws_seqI ?_ | refine ws_seqA ?_ | refine ws_seqD ?_ | refine ws_asg (by with_unfolding_all exact rfl) ?_ | refine ws_asgG ?_ | refine ws_if ?_ | refine ws_ret ?_ | refine ws_drop ?_ | refine ws_next ?_ | refine ws_retN ?_)
  | (with_reducible show WT _ _ _; with_reducible first | refine wt_truL ?_ | refine wt_test ?_ | refine wt_B ?_ | refine wt_not ?_ | refine wt_and ?_ | refine wt_or ?_ | refine wt_yes ?_)
  | (with_reducible show WA _ _ _; with_reducible first | refine wa_nil ?_ | refine wa_cons (wq_of (we_var (by with_unfolding_all exact rfl) ?_)) | refine wa_slotU (by with_unfolding_all exact rfl) ?_ | refine wa_cons ?_)
  | (with_reducible show OpK _ _ _ _ _; with_reducible first | refine ok_neR ?_ | refine ok_eqR ?_ | refine ok_isB ?_ | refine ok_notB ?_ | refine ok_plusI ?_ | refine ok_sub ?_ | refine ok_lt ?_ | refine ok_le ?_ | refine ok_gt ?_ | refine ok_ge ?_ | refine ok_eqI ?_ | refine ok_neI ?_ | refine ok_mod (by first | assumption | decide | omega) ?_ | refine ok_ixL (by with_unfolding_all exact rfl) ?_)
  | (with_reducible show CbK _ _ _ _; with_reducible first | refine ck_tuple ?_ | refine ck_allF ?_ | refine ck_anyF ?_ | refine ck_abs ?_ | refine ck_sumI ?_ | refine ck_lenL ?_ | refine ck_lenT ?_ | refine ck_int ?_ | refine ck_intB ?_ | refine ck_max ?_ | refine ck_min ?_ | refine ck_list ?_)
  | with_reducible refine wq_of ?_
  | (with_reducible show WG _ _ _ _ _; with_reducible first | refine wg_name (by with_unfolding_all exact rfl) ?_ | refine wg_tup (by with_unfolding_all exact rfl) ?_ | refine wg_set (by with_unfolding_all exact rfl) ?_)
  | (with_reducible show WGs _ _ _ _ _; with_reducible first | refine wgs_cons ?_ | refine wgs_nil ?_)
  | (with_reducible show WO _ _ _; with_reducible first | refine wo_some ?_ | refine wo_none ?_)
  | refine ⟨_, argD5, ?_⟩
  | refine ⟨_, argD6, ?_⟩
  | refine ⟨_, argD7, ?_⟩
  | refine ⟨_, argD9, ?_⟩
  | with_reducible refine iteT ?_
  | with_reducible refine iteF ?_
  | with_reducible refine ⟨_, frz_per, ?_⟩
  | with_reducible refine ⟨_, frz_own, ?_⟩
  | refine ⟨_, rfl, ?_⟩
  | refine ⟨_, argD1, ?_⟩
  | refine ⟨_, argD2, ?_⟩
  | refine ⟨_, argD0, ?_⟩
  | refine ⟨_, argD3, ?_⟩
  | refine ⟨_, argD4, ?_⟩
  | refine ⟨_, _, rfl, rfl, rfl, ?_⟩
  | refine ⟨_, _, _, rfl, rfl, rfl, ?_⟩
  | refine ⟨(by simp only [List.length_cons, List.length_nil]; decide), ?_⟩
  | refine ⟨rfl, nd1, ?_⟩
  | refine ⟨rfl, nd0, ?_⟩
  | refine ⟨_, argD8, ?_⟩
  | refine ⟨_, argD10, ?_⟩)
local macro_rules | `(tactic| walk_at "v") => `(tactic| first
  | (with_reducible show WE _ _ _; with_reducible first | refine we_var (by with_unfolding_all exact rfl) ?_ | refine we_varF (by with_unfolding_all exact rfl) frz_own ?_ | (show WE (tOp _ _ _) _ _; first | refine we_isNd ?_ | refine we_notNd ?_ | refine we_notN ?_ | refine we_ixS (by with_unfolding_all exact rfl) ?_ | refine we_ixScr (by with_unfolding_all exact rfl) ?_ | refine we_inS (by with_unfolding_all exact rfl) ?_ | refine we_notInS (by with_unfolding_all exact rfl) ?_ | refine we_eqS (by with_unfolding_all exact rfl) ?_ | refine we_neS (by with_unfolding_all exact rfl) ?_ | refine we_opK ?_) | (show WE (tCB _ _) _ _; first | refine we_repr ?_ | refine we_lenWeb (by with_unfolding_all exact rfl) (by assumption) ?_ | refine we_isInt ?_ | refine we_isBl ?_ | refine we_isLst ?_ | refine we_isTup ?_ | refine we_lenO (by with_unfolding_all exact rfl) ?_ | refine we_lenS' (by with_unfolding_all exact rfl) ?_ | refine we_lenScr (by with_unfolding_all exact rfl) ?_ | refine we_cbK ?_) | refine we_dnew ?_ | refine we_lenSetI ?_ | refine we_revL ?_ | refine we_nbWeb (by with_unfolding_all exact rfl) (by assumption) (by assumption) ?_ | refine we_tiesWeb (by with_unfolding_all exact rfl) ?_ | refine we_chain ?_ | refine we_slice ?_ | refine we_int ?_ | refine we_bl ?_ | refine we_non ?_ | refine we_str ?_ | refine we_neg ?_ | refine we_not ?_ | refine we_and ?_ | refine we_or ?_ | refine we_if ?_ | refine we_tup ?_ | refine we_lst ?_ | refine we_call ?_ | refine we_mt (by with_unfolding_all exact rfl) ?_)
  | (with_reducible show WS _ _ _ _; with_reducible first | refine ws_seqI ?_ | refine ws_seqA ?_ | refine ws_seqD ?_ | refine ws_asg (by with_unfolding_all exact rfl) ?_ | refine ws_asgG ?_ | refine ws_if ?_ | refine ws_ret ?_ | refine ws_drop ?_ | refine ws_next ?_ | refine ws_retN ?_)
  | (with_reducible show WT _ _ _; with_reducible first | refine wt_truL ?_ | refine wt_test ?_ | refine wt_B ?_ | refine wt_not ?_ | refine wt_and ?_ | refine wt_or ?_ | refine wt_yes ?_)
  | (with_reducible show WA _ _ _; with_reducible first | refine wa_nil ?_ | refine wa_cons (wq_of (we_var (by with_unfolding_all exact rfl) ?_)) | refine wa_slotU (by with_unfolding_all exact rfl) ?_ | refine wa_cons ?_)
  | (with_reducible show OpK _ _ _ _ _; with_reducible first | refine ok_neR ?_ | refine ok_eqR ?_ | refine ok_isB ?_ | refine ok_notB ?_ | refine ok_plusI ?_ | refine ok_sub ?_ | refine ok_lt ?_ | refine ok_le ?_ | refine ok_gt ?_ | refine ok_ge ?_ | refine ok_eqI ?_ | refine ok_neI ?_ | refine ok_mod (by first | assumption | decide | omega) ?_ | refine ok_ixL (by with_unfolding_all exact rfl) ?_)
  | (with_reducible show CbK _ _ _ _; with_reducible first | refine ck_tuple ?_ | refine ck_allF ?_ | refine ck_anyF ?_ | refine ck_abs ?_ | refine ck_sumI ?_ | refine ck_lenL ?_ | refine ck_lenT ?_ | refine ck_int ?_ | refine ck_intB ?_ | refine ck_max ?_ | refine ck_min ?_ | refine ck_list ?_)
  | with_reducible refine wq_of ?_
  | (with_reducible show WG _ _ _ _ _; with_reducible first | refine wg_name (by with_unfolding_all exact rfl) ?_ | refine wg_tup (by with_unfolding_all exact rfl) ?_ | refine wg_set (by with_unfolding_all exact rfl) ?_)
  | (with_reducible show WGs _ _ _ _ _; with_reducible first | refine wgs_cons ?_ | refine wgs_nil ?_)
  | (with_reducible show WO _ _ _; with_reducible first | refine wo_some ?_ | refine wo_none ?_)
  | refine ⟨_, argD5, ?_⟩
  | refine ⟨_, argD6, ?_⟩
  | refine ⟨_, argD7, ?_⟩
  | refine ⟨_, argD9, ?_⟩
  | with_reducible refine iteT ?_
  | with_reducible refine iteF ?_
  | with_reducible refine ⟨_, frz_per, ?_⟩
  | with_reducible refine ⟨_, frz_own, ?_⟩
  | refine ⟨_, rfl, ?_⟩
  | refine ⟨_, argD1, ?_⟩
  | refine ⟨_, argD2, ?_⟩
  | refine ⟨_, argD0, ?_⟩
  | refine ⟨_, argD3, ?_⟩
  | refine ⟨_, argD4, ?_⟩
  | refine ⟨_, _, rfl, rfl, rfl, ?_⟩
  | refine ⟨_, _, _, rfl, rfl, rfl, ?_⟩
  | refine ⟨(by simp only [List.length_cons, List.length_nil]; decide), ?_⟩
  | refine ⟨rfl, nd1, ?_⟩
  | refine ⟨rfl, nd0, ?_⟩
  | refine ⟨_, argD8, ?_⟩
  | refine ⟨_, argD10, ?_⟩)
local macro_rules | `(tactic| walk_at "p") => `(tactic| refine ⟨_, _, rfl, (by omega), (by first | decide | omega), (by first | decide | omega), ?_⟩)
local macro_rules | `(tactic| walk_at "n") => `(tactic| try dsimp only [back, List.set_cons_zero, List.set_cons_succ, List.map_cons, List.map_nil, List.cons_append, List.nil_append])
local macro_rules | `(tactic| walk_at "q") => `(tactic| first | with_reducible refine ws_seqP (ws_par (by with_unfolding_all exact rfl) (by with_unfolding_all exact rfl) ?_) | refine ⟨_, _, rfl, ?_⟩ | walk_at "v")
abbrev t_least_leaf_0 (K : PySem.W.Frag) : TS :=
  (tSeq (tFor (iEnum K (tCons (tVar 0) tNil)) (gTup K 2 (gCons (gName 1) (gCons (gName 2) gNil))) (tIfS (tTest (tOp (rEqD K) (tCB (rLenA K) (tCons (tVar 2) tNil)) (tC (.int 1)))) (tRet (tVar 1)) tNext))
    (tRet (tC .non)))
def t_least_leaf (K : PySem.W.Frag) : TS :=
  (t_least_leaf_0 K)
abbrev N_least_leaf : List Str := ["near", "place", "own"]
def LeafIs (rows : List (List Int)) : Option Nat → Prop
  | none => ∀ r ∈ rows, r.length ≠ 1
  | some i => (∃ r, rows[i]? = some r ∧ r.length = 1) ∧ ∀ j : Nat, j < i → ∀ r, rows[j]? = some r → r.length ≠ 1
def leafD : Option Nat → PyData
  | none => .none
  | some i => .int (i : Int)
abbrev F_least_leaf : Fw := fun gs kk xx => ∃ rows : List (List Int), gs = [dat (.list (rows.map rowI))] ∧ rows.length ≤ 1000 ∧ ∀ o, LeafIs rows o → kk (dat (leafD o)) [none]
abbrev sp_least_leaf (K : PySem.W.Frag) : Sp := SpG 1 F_least_leaf
theorem pure_least_leaf {K : PySem.W.Frag} {vs : List V} {H : Hp} {Q : VK} {E : XK} (h : sp_least_leaf K vs H Q E) : t_least_leaf K { nx := fun _ H' => Q .non H', rt := Q } (start N_least_leaf vs) H := by
  refine body_ok (fun i => false) ?_ h
  rintro gs kk xx ⟨rows, rfl, hl, hk⟩ -
  unfold t_least_leaf
  show WS _ _ [some (dat (.list (rows.map rowI))), none, none] _
  refine ws_seq (ws_forF (fun p : List Int × Nat => .tuple [.int (p.2 : Int), rowI p.1]) (fun pre Γ => ∃ (o1 o2 : Option Gp), Γ = [some (dat (.list (rows.map rowI))), o1, o2] ∧ ∀ p ∈ pre, p.1.length ≠ 1) (wil_enum (wa_cons (wq_of (we_var rfl ⟨_, frz_per, wa_nil ⟨_, argD1, rows.zipIdx, ?_, ⟨_, _, rfl, fun p hp => (nomatch hp)⟩, ?_, ?_⟩⟩)))))
  · rw [List.zipIdx_map, List.map_map]
    rfl
  · rintro _ ⟨o1, o2, rfl, h1⟩
    repeat walk_at "v"
    refine ⟨_, _, Ent.refl, les_none les_nil, hk none fun r hr => ?_⟩
    obtain ⟨i, hi⟩ := List.getElem?_of_mem hr
    exact h1 (r, i) (List.mem_iff_getElem?.mpr ⟨i, by rw [List.getElem?_zipIdx, hi]; simp⟩)
  · rintro pre ⟨r, i⟩ post _ hs ⟨o1, o2, rfl, h1⟩
    have at_ : (rows.zipIdx)[pre.length]? = some (r, i) := by rw [hs]; simp
    rw [List.getElem?_zipIdx] at at_
    obtain ⟨r', hr', e⟩ := Option.map_eq_some_iff.mp at_
    obtain ⟨rfl, e2⟩ := Prod.mk.inj e
    obtain rfl : pre.length = i := by omega
    refine wg_tup rfl (wgs_cons (wg_name rfl (wgs_cons (wg_name rfl (wgs_nil ?_)))))
    walk_at "n"
    refine ws_if ?_
    refine wt_test (wq_of (we_opK (wq_of (we_cbK (wa_cons (wq_of (we_var rfl ⟨_, frz_per, wa_nil ⟨_, argD1, ck_lenL (ds := r'.map .int) ?_⟩⟩)))))))
    repeat walk_at "v"
    rw [List.length_map]
    refine ite_dec (fun h => ?_) fun h => ws_next ⟨some (dat (.int (pre.length : Int))), some (dat (rowI r')), rfl, fun p hp => ?_⟩
    · repeat walk_at "v"
      refine ⟨_, _, Ent.refl, les_none les_nil, hk (some pre.length) ⟨⟨r', hr', by omega⟩, fun j hj r hr => ?_⟩⟩
      have hj2 : (rows.zipIdx)[j]? = some (r, j) := by rw [List.getElem?_zipIdx, hr]; simp
      rw [hs, List.getElem?_append_left hj] at hj2
      exact h1 (r, j) (List.mem_of_getElem? hj2)
    · rcases List.mem_append.mp hp with hp | hp
      · exact h1 p hp
      · rw [List.mem_singleton.mp hp]
        show r'.length ≠ 1
        omega
abbrev t_core_0 (K : PySem.W.Frag) (a : Ad) (E : XK) : TS :=
  (tSeq (tDrop (tBM K "list" (rRemI) (tOp (rIx K) (tVar 1) (tVar 4)) (tCons (tVar 3) tNil)))
    (tSeq (tDrop (tBM K "list" (rAppend) (tVar 2) (tCons (tVar 3) tNil)))
    (tAsg (tCall (sp_least_leaf K) [] E0 (tCons (tVar 1) tNil)) (gName 3))))
abbrev t_core_1 (K : PySem.W.Frag) (a : Ad) (E : XK) : TS :=
  (tRet (tTup (tCons (tVar 2) (tCons (tLc (iRng1 (tCons (tCB (rLenOwn a.C_Web (sp_Web_len_ K a) E0) (tCons (tVar 0) tNil)) tNil)) (gName 5) (tTest (tOp (rNotInD K) (tVar 5) (tVar 2))) (tVar 5) [5]) tNil))))
abbrev t_core_2 (K : PySem.W.Frag) (a : Ad) (E : XK) : TS :=
  (tSeq (tWhile (tTest (tOp (rNotN0) (tVar 3) (tC .non))) (tSeq (tAsg (tBM0 K "list" (rPop) (tOp (rIx K) (tVar 1) (tVar 3))) (gName 4))
    (t_core_0 K a E)))
    (t_core_1 K a E))
abbrev t_core_3 (K : PySem.W.Frag) (a : Ad) (E : XK) : TS :=
  (tSeq (tAsg (tLc (iRng1 (tCons (tCB (rLenOwn a.C_Web (sp_Web_len_ K a) E0) (tCons (tVar 0) tNil)) tNil)) (gName 5) tYes (tMeth a.C_Web "neighbours" (sp_Web_neighbours K a) [] E0 (tVar 0) (tCons (tVar 5) tNil)) [5]) (gName 1))
    (tSeq (tAsg (tLst tNil) (gName 2))
    (tSeq (tAsg (tCall (sp_least_leaf K) [] E0 (tCons (tVar 1) tNil)) (gName 3))
    (t_core_2 K a E))))
def t_core (K : PySem.W.Frag) (a : Ad) (E : XK) : TS :=
  (t_core_3 K a E)
abbrev N_core : List Str := ["web", "near", "struck", "leaf", "other", "place"]
def leftL (n : Nat) (ss : List Int) : List Int := ((List.range n).map fun i : Nat => (i : Int)).filter fun x => decide (x ∉ ss)
abbrev F_core (a : Ad) : Fw := fun gs kk xx => ∃ (n : Nat) (ts : List (Int × Int)), gs = [per (objP a.C_Web (webF n ts))] ∧ n ≤ 60 ∧ Valid n ts ∧ ts.Nodup ∧ ∀ ss, CoreIs n ts ss → kk (pairO (ss.map .int) ((leftL n ss).map .int)) [none]
abbrev sp_core (K : PySem.W.Frag) (a : Ad) : Sp := SpG 1 (F_core a)
theorem row0 {n : Nat} {ts : List (Int × Int)} : (List.range n).map (fun i : Nat => nb ts (i : Int)) = rowsR n ts [] := by
  unfold rowsR rem
  refine List.map_congr_left fun i _ => ?_
  rw [if_neg (by simp)]
  exact (List.filter_eq_self.mpr fun x _ => by simp).symm
theorem pure_core {K : PySem.W.Frag} {a : Ad} (c : Clf K a) {vs : List V} {H : Hp} {Q : VK} {E : XK} (h : sp_core K a vs H Q E) :
    t_core K a E { nx := fun _ H' => Q .non H', rt := Q } (start N_core vs) H := by
  refine body_okX (fun _ => false) ?_ h
  rintro gs kk xx ⟨n, ts, rfl, hn, hv, hnd, hk⟩ -
  unfold t_core
  refine wsx_of ?_
  show WS _ _ [some (per (objP a.C_Web (webF n ts))), none, none, none, none, none] _
  refine ws_seq (ws_asg rfl (we_lcO (fun i dss Γ => Γ = [some (per (objP a.C_Web (webF n ts))), none, none, none, none, none] ∧ dss = ((List.range i).map fun j : Nat => (nb ts (j : Int)).map PyData.int)) (wi_range1 (wa_cons (wq_of (we_lenWeb (n := n) (ts := ts) rfl (by omega) ?_))))))
  repeat walk_at "v"
  have hnbl : ∀ w : Int, (nb ts w).length ≤ n := fun w => len_rng (n := n) (nb_nd hv hnd) fun y hy => nb_rng hv hy
  refine ⟨by omega, by omega, by omega, ⟨rfl, rfl⟩, ?_, ?_⟩
  rotate_left
  · rintro i dss _ hi ⟨rfl, rfl⟩ -
    refine wg_name rfl ?_
    walk_at "n"
    refine we_nbWeb rfl (by omega) hv ?_
    repeat walk_at "v"
    refine ⟨rfl, ⟨by omega, by omega⟩, _, rfl, rfl, ?_⟩
    rw [List.range_succ, List.map_append, Int.zero_add]
    rfl
  rintro dss _ ⟨rfl, rfl⟩
  rw [Int.toNat_natCast, show (List.range n).map (fun j : Nat => (nb ts (j : Int)).map PyData.int) = (rowsR n ts []).map rowN from by rw [← row0, List.map_map]; rfl]
  walk_at "n"
  refine ws_seqA ?_
  iterate 2 walk_at "v"
  refine wa_nil ⟨[], argD0, by simp, ?_⟩
  walk_at "n"
  have fz : ∀ qss : List (List Int), Frz (own2 (qss.map rowN)) (dP (.list (qss.map rowI))) := fun qss => by
    have e := frz_own2 (dss := qss.map rowN)
    rw [List.map_map] at e
    exact e
  have st : ∀ (qss : List (List Int)) (ss : List PyData) (o3 o4 : Option Gp), Still [some (per (objP a.C_Web (webF n ts))), some (own2 (qss.map rowN)), some (own ss), o3, o4, none] [none, some (dat (.list (qss.map rowI))), none, none, none, none] :=
    fun qss ss o3 o4 => (StillL.non (.frz (fz qss) (.non (.non (.non (.non .nil)))))).still
  refine ws_seq (ws_asg rfl (we_still (st (rowsR n ts []) [] none none) (we_call (wa_cons (wq_of (we_var rfl ⟨_, frz_per, wa_nil ⟨rfl, nd0, rowsR n ts [], rfl, by rw [rowsR_len]; omega, fun o ho => ?_⟩⟩))))))
  refine ⟨_, rfl, by cases o <;> rfl, ?_⟩
  walk_at "n"
  refine ws_seq (ws_while (fun m Γ => ∃ (gs : List Int) (o : Option Nat) (o4 : Option Gp), Γ = [some (per (objP a.C_Web (webF n ts))), some (own2 ((rowsR n ts gs).map rowN)), some (own (gs.map .int)), some (dat (leafD o)), o4, none] ∧ LeafIs (rowsR n ts gs) o ∧ (∀ v ∈ gs, 0 ≤ v ∧ v < n) ∧ gs.Nodup ∧
      (∀ pre v post, gs = pre ++ v :: post → (rem ts pre v).length = 1 ∧ ∀ u : Int, 0 ≤ u → u < v → (rem ts pre u).length ≠ 1) ∧ m = n - gs.length) ⟨n, [], o, _, rfl, ho, (fun v hv => nomatch hv), List.nodup_nil, (fun pre v post e => by cases pre <;> cases e), rfl⟩ ?_)
  rintro m _ ⟨gs, o, o4, rfl, hl, hrg, hgn, hst, rfl⟩
  have hgl := len_rng hgn hrg
  cases o with
  | none =>
    refine wt_test (wq_of (we_notNd (wq_of (we_var rfl ⟨_, frz_per, _, rfl, _, frz_per, false, rfl, iteF ?_⟩))))
    refine ws_ret (we_pairO (i := 2) rfl (we_lcS (fun i : Nat => .int (i : Int)) (fun i : Nat => !decide ((i : Int) ∈ gs)) (wil_range1 (wa_cons (wq_of (we_lenWeb (n := n) (ts := ts) rfl (by omega) ?_))))))
    repeat walk_at "v"
    refine ⟨by omega, by omega, List.range n, by rw [Int.toNat_natCast], rfl, by rw [List.length_range]; omega, fun i hi => ?_, ?_⟩
    · refine wg_name rfl ?_
      walk_at "n"
      repeat walk_at "v"
      refine ⟨⟨lay_int.shaped, lay_ints.shaped⟩, ?_⟩
      rw [any_ints]
      refine ⟨_, frz_per, _, rfl, rfl, ?_⟩
      refine ite_ndec (fun h => ?_) fun h => rfl
      repeat walk_at "v"
      exact ⟨rfl, rfl⟩
    · refine ⟨gs.map .int, _, rfl, rfl, _, _, Ent.refl, les_none les_nil, ?_⟩
      have e : ((List.range n).filter fun i : Nat => !decide ((i : Int) ∈ gs)).map (fun i : Nat => PyData.int (i : Int)) = (leftL n gs).map .int := by
        unfold leftL
        rw [List.filter_map, List.map_map]
        congr 1
        refine List.filter_congr fun i _ => ?_
        show (!decide ((i : Int) ∈ gs)) = decide ((i : Int) ∉ gs)
        by_cases c : (i : Int) ∈ gs <;> simp [c]
      rw [e]
      refine hk gs ⟨hrg, hgn, hst, fun u u0 u1 => ?_⟩
      have := hl (rem ts gs u) (List.mem_iff_getElem?.mpr ⟨u.toNat, by rw [rowsR_at (by omega), Int.toNat_of_nonneg u0]⟩)
      exact this
  | some v =>
    obtain ⟨⟨r, hr, hr1⟩, hless⟩ := hl
    have hvn : v < n := by have := (List.getElem?_eq_some_iff.mp hr).1; rwa [rowsR_len] at this
    rw [rowsR_at hvn] at hr
    cases hr
    obtain ⟨x, hx⟩ := List.length_eq_one_iff.mp hr1
    have hxm : x ∈ rem ts gs (v : Int) := by rw [hx]; simp
    have hxr := nb_rng hv (mem_rem.mp hxm).2.1
    obtain ⟨o, rfl⟩ : ∃ o : Nat, x = (o : Int) := ⟨x.toNat, by omega⟩
    have hon : o < n := by omega
    have hov : o ≠ v := fun e => by
      subst e
      rcases (mem_nb hv).mp (mem_rem.mp hxm).2.1 with h | h <;> (have := hv _ h; dsimp only at this; omega)
    obtain ⟨t, ht⟩ := List.getElem?_of_mem (rem_sym hv hxm)
    have hrn := rem_nd hv hnd (gs := gs) (v := (o : Int))
    have hvg : (v : Int) ∉ gs := (mem_rem.mp hxm).1
    refine wt_test (wq_of (we_notNd (wq_of (we_var rfl ⟨_, frz_per, _, rfl, _, frz_per, true, rfl, iteT ?_⟩))))
    refine ws_seq (ws_asg rfl (we_popAt2 (i := 1) rfl (wq_of (we_var rfl ⟨_, frz_per, (v : Int), v, (rowsR n ts gs).map rowN, [], .int (o : Int), rfl, rfl, ixN_in (by omega) (by rw [List.length_map, rowsR_len]; omega), by rw [List.getElem?_map, rowsR_at hvn, hx]; rfl, ?_⟩))))
    rw [show ((rowsR n ts gs).map rowN).set v [] = ((rowsR n ts gs).set v []).map rowN from by rw [List.map_set]; rfl]
    walk_at "n"
    refine ws_seq (ws_drop (we_remAt2 (i := 1) (p := 3) rfl (wq_of (we_var rfl ⟨_, frz_per, (o : Int), o, ((rowsR n ts gs).set v []).map rowN, rem ts gs (o : Int), (v : Int), t, rfl, rfl, ixN_in (by omega) (by rw [List.length_map, List.length_set, rowsR_len]; omega), by rw [List.getElem?_map, List.getElem?_set_ne (Ne.symm hov), rowsR_at hon]; rfl, rfl, ht, fun s hs e => ?_, ?_⟩))))
    · have h1 := (List.getElem?_eq_some_iff.mp e).1
      have := (List.getElem?_inj (i := s) (j := t) h1 hrn).mp (e.trans ht.symm)
      omega
    rw [show (((rowsR n ts gs).set v []).map rowN).set o (((rem ts gs (o : Int)).eraseIdx t).map .int) = (rowsR n ts (gs ++ [(v : Int)])).map rowN from by
      rw [← rows_step hv hnd hx hon ht]; simp only [List.map_set]]
    walk_at "n"
    have hgl2 : (gs ++ [(v : Int)]).length ≤ n := by
      refine len_rng (n := n) (List.nodup_append.mpr ⟨hgn, by simp, fun a ha b hb e => hvg (by rw [← List.mem_singleton.mp hb, ← e]; exact ha)⟩) fun y hy => ?_
      rcases List.mem_append.mp hy with hy | hy
      · exact hrg y hy
      · rw [List.mem_singleton.mp hy]; omega
    rw [List.length_append, List.length_singleton] at hgl2
    show WS _ _ [some (per (objP a.C_Web (webF n ts))), some (own2 ((rowsR n ts (gs ++ [(v : Int)])).map rowN)), some (own (gs.map .int)), some (dat (.int (v : Int))), some (dat (.int (o : Int))), none] _
    refine ws_seqD (ws_drop ?_)
    repeat walk_at "v"
    refine ⟨_, _, _, _, rfl, argD1, mo_append (by rw [List.length_map]; omega), ?_⟩
    rw [show gs.map PyData.int ++ [PyData.int (v : Int)] = (gs ++ [(v : Int)]).map .int from by rw [List.map_append]; rfl]
    walk_at "n"
    refine ws_asg rfl (we_still (st (rowsR n ts (gs ++ [(v : Int)])) ((gs ++ [(v : Int)]).map .int) (some (dat (.int (v : Int)))) (some (dat (.int (o : Int))))) (we_call (wa_cons (wq_of (we_var rfl ⟨_, frz_per, wa_nil ⟨rfl, nd0, rowsR n ts (gs ++ [(v : Int)]), rfl, by rw [rowsR_len]; omega, fun o2 ho2 => ?_⟩⟩)))))
    refine ⟨_, rfl, by cases o2 <;> rfl, ?_⟩
    refine ⟨n - (gs ++ [(v : Int)]).length, by rw [List.length_append, List.length_singleton]; omega, gs ++ [(v : Int)], o2, some (dat (.int (o : Int))), rfl, ho2, fun y hy => ?_, List.nodup_append.mpr ⟨hgn, by simp, fun a ha b hb e => hvg (by rw [← List.mem_singleton.mp hb, ← e]; exact ha)⟩, fun pre y post e => ?_, rfl⟩
    · rcases List.mem_append.mp hy with hy | hy
      · exact hrg y hy
      · rw [List.mem_singleton.mp hy]; omega
    · rcases List.eq_nil_or_concat post with rfl | ⟨post', z, rfl⟩
      · obtain ⟨e1, e2⟩ := List.append_inj' e rfl
        cases e2
        subst e1
        refine ⟨hr1, fun u u0 u1 => ?_⟩
        exact hless u.toNat (by omega) _ (by rw [rowsR_at (by omega), Int.toNat_of_nonneg u0])
      · rw [List.concat_eq_append, show pre ++ y :: (post' ++ [z]) = (pre ++ y :: post') ++ [z] by simp] at e
        obtain ⟨e1, e2⟩ := List.append_inj' e rfl
        exact hst pre y post' e1
end G

namespace G
open PySem L2
local macro_rules | `(tactic| walk_at "g1") => `(tactic| first
  | (with_reducible show WE _ _ _; with_reducible first | refine we_var (by with_unfolding_all exact rfl) ?_ | (show WE (tOp _ _ _) _ _; first | refine we_ixS (by with_unfolding_all exact rfl) ?_ | refine we_ixScr (by with_unfolding_all exact rfl) ?_ | refine we_inS (by with_unfolding_all exact rfl) ?_ | refine we_notInS (by with_unfolding_all exact rfl) ?_ | refine we_eqS (by with_unfolding_all exact rfl) ?_ | refine we_neS (by with_unfolding_all exact rfl) ?_ | refine we_opK ?_) | (show WE (tCB _ _) _ _; first | refine we_lenS' (by with_unfolding_all exact rfl) ?_ | refine we_lenScr (by with_unfolding_all exact rfl) ?_ | refine we_cbK ?_) | refine we_int ?_ | refine we_bl ?_ | refine we_non ?_ | refine we_str ?_ | refine we_neg ?_ | refine we_not ?_ | refine we_and ?_ | refine we_or ?_ | refine we_if ?_ | refine we_tup ?_ | refine we_lst ?_ | refine we_call ?_ | refine we_mt (by with_unfolding_all exact rfl) ?_)
  | (with_reducible show WS _ _ _ _; with_reducible first | refine ws_seqA ?_ | refine ws_seqD ?_ | refine ws_asg (by with_unfolding_all exact rfl) ?_ | refine ws_asgG ?_ | refine ws_if ?_ | refine ws_ret ?_ | refine ws_drop ?_ | refine ws_next ?_ | refine ws_retN ?_)
  | (with_reducible show WT _ _ _; with_reducible first | refine wt_test ?_ | refine wt_B ?_ | refine wt_not ?_ | refine wt_and ?_ | refine wt_or ?_ | refine wt_yes ?_)
  | (with_reducible show WA _ _ _; with_reducible first | refine wa_nil ?_ | refine wa_cons (wq_of (we_var (by with_unfolding_all exact rfl) ?_)) | refine wa_slotU (by with_unfolding_all exact rfl) ?_ | refine wa_cons ?_)
  | (with_reducible show OpK _ _ _ _ _; with_reducible first | refine ok_plusI ?_ | refine ok_sub ?_ | refine ok_lt ?_ | refine ok_le ?_ | refine ok_gt ?_ | refine ok_ge ?_ | refine ok_eqI ?_ | refine ok_neI ?_ | refine ok_mod (by first | assumption | decide | omega) ?_ | refine ok_ixL (by with_unfolding_all exact rfl) ?_)
  | (with_reducible show CbK _ _ _ _; with_reducible first | refine ck_lenL ?_ | refine ck_lenT ?_ | refine ck_int ?_ | refine ck_intB ?_ | refine ck_max ?_ | refine ck_min ?_ | refine ck_list ?_)
  | with_reducible refine wq_of ?_
  | (with_reducible show WG _ _ _ _ _; with_reducible first | refine wg_name (by with_unfolding_all exact rfl) ?_ | refine wg_tup (by with_unfolding_all exact rfl) ?_ | refine wg_set (by with_unfolding_all exact rfl) ?_)
  | (with_reducible show WGs _ _ _ _ _; with_reducible first | refine wgs_cons ?_ | refine wgs_nil ?_)
  | with_reducible refine iteT ?_
  | with_reducible refine iteF ?_
  | with_reducible refine ⟨_, frz_per, ?_⟩
  | with_reducible refine ⟨_, frz_own, ?_⟩
  | refine ⟨_, rfl, ?_⟩
  | refine ⟨_, argD1, ?_⟩
  | refine ⟨_, argD2, ?_⟩
  | refine ⟨_, argD0, ?_⟩
  | refine ⟨_, argD3, ?_⟩
  | refine ⟨_, argD4, ?_⟩
  | refine ⟨_, _, rfl, rfl, rfl, ?_⟩
  | refine ⟨_, _, _, rfl, rfl, rfl, ?_⟩
  | refine ⟨(by simp only [List.length_cons, List.length_nil]; decide), ?_⟩
  | refine ⟨rfl, nd1, ?_⟩
  | refine ⟨rfl, nd0, ?_⟩)
local macro_rules | `(tactic| walk_at "go") => `(tactic| repeat walk_at "g1")
local macro_rules | `(tactic| walk_at "g2") => `(tactic| first
  | (with_reducible show WE _ _ _; with_reducible first | refine we_var (by with_unfolding_all exact rfl) ?_ | (show WE (tOp _ _ _) _ _; first | refine we_notN ?_ | refine we_ixS (by with_unfolding_all exact rfl) ?_ | refine we_ixScr (by with_unfolding_all exact rfl) ?_ | refine we_inS (by with_unfolding_all exact rfl) ?_ | refine we_notInS (by with_unfolding_all exact rfl) ?_ | refine we_eqS (by with_unfolding_all exact rfl) ?_ | refine we_neS (by with_unfolding_all exact rfl) ?_ | refine we_opK ?_) | (show WE (tCB _ _) _ _; first | refine we_isInt ?_ | refine we_isBl ?_ | refine we_isLst ?_ | refine we_isTup ?_ | refine we_lenO (by with_unfolding_all exact rfl) ?_ | refine we_lenS' (by with_unfolding_all exact rfl) ?_ | refine we_lenScr (by with_unfolding_all exact rfl) ?_ | refine we_cbK ?_) | refine we_chain ?_ | refine we_slice ?_ | refine we_int ?_ | refine we_bl ?_ | refine we_non ?_ | refine we_str ?_ | refine we_neg ?_ | refine we_not ?_ | refine we_and ?_ | refine we_or ?_ | refine we_if ?_ | refine we_tup ?_ | refine we_lst ?_ | refine we_call ?_ | refine we_mt (by with_unfolding_all exact rfl) ?_)
  | (with_reducible show WS _ _ _ _; with_reducible first | refine ws_seqA ?_ | refine ws_seqD ?_ | refine ws_asg (by with_unfolding_all exact rfl) ?_ | refine ws_asgG ?_ | refine ws_if ?_ | refine ws_ret ?_ | refine ws_drop ?_ | refine ws_next ?_ | refine ws_retN ?_)
  | (with_reducible show WT _ _ _; with_reducible first | refine wt_test ?_ | refine wt_B ?_ | refine wt_not ?_ | refine wt_and ?_ | refine wt_or ?_ | refine wt_yes ?_)
  | (with_reducible show WA _ _ _; with_reducible first | refine wa_nil ?_ | refine wa_cons (wq_of (we_var (by with_unfolding_all exact rfl) ?_)) | refine wa_slotU (by with_unfolding_all exact rfl) ?_ | refine wa_cons ?_)
  | (with_reducible show OpK _ _ _ _ _; with_reducible first | refine ok_isB ?_ | refine ok_notB ?_ | refine ok_plusI ?_ | refine ok_sub ?_ | refine ok_lt ?_ | refine ok_le ?_ | refine ok_gt ?_ | refine ok_ge ?_ | refine ok_eqI ?_ | refine ok_neI ?_ | refine ok_mod (by first | assumption | decide | omega) ?_ | refine ok_ixL (by with_unfolding_all exact rfl) ?_)
  | (with_reducible show CbK _ _ _ _; with_reducible first | refine ck_lenL ?_ | refine ck_lenT ?_ | refine ck_int ?_ | refine ck_intB ?_ | refine ck_max ?_ | refine ck_min ?_ | refine ck_list ?_)
  | with_reducible refine wq_of ?_
  | (with_reducible show WG _ _ _ _ _; with_reducible first | refine wg_name (by with_unfolding_all exact rfl) ?_ | refine wg_tup (by with_unfolding_all exact rfl) ?_ | refine wg_set (by with_unfolding_all exact rfl) ?_)
  | (with_reducible show WGs _ _ _ _ _; with_reducible first | refine wgs_cons ?_ | refine wgs_nil ?_)
  | (with_reducible show WO _ _ _; with_reducible first | refine wo_some ?_ | refine wo_none ?_)
  | refine ⟨_, argD5, ?_⟩
  | refine ⟨_, argD6, ?_⟩
  | refine ⟨_, argD7, ?_⟩
  | refine ⟨_, argD9, ?_⟩
  | with_reducible refine iteT ?_
  | with_reducible refine iteF ?_
  | with_reducible refine ⟨_, frz_per, ?_⟩
  | with_reducible refine ⟨_, frz_own, ?_⟩
  | refine ⟨_, rfl, ?_⟩
  | refine ⟨_, argD1, ?_⟩
  | refine ⟨_, argD2, ?_⟩
  | refine ⟨_, argD0, ?_⟩
  | refine ⟨_, argD3, ?_⟩
  | refine ⟨_, argD4, ?_⟩
  | refine ⟨_, _, rfl, rfl, rfl, ?_⟩
  | refine ⟨_, _, _, rfl, rfl, rfl, ?_⟩
  | refine ⟨(by simp only [List.length_cons, List.length_nil]; decide), ?_⟩
  | refine ⟨rfl, nd1, ?_⟩
  | refine ⟨rfl, nd0, ?_⟩)
local macro_rules | `(tactic| walk_at "w") => `(tactic| first
  | (with_reducible show WE _ _ _; with_reducible first | refine we_var (by with_unfolding_all exact rfl) ?_ | refine we_varF (by with_unfolding_all exact rfl) frz_own ?_ | (show WE (tOp _ _ _) _ _; first | refine we_isNd ?_ | refine we_notNd ?_ | refine we_notN ?_ | refine we_ixS (by with_unfolding_all exact rfl) ?_ | refine we_ixScr (by with_unfolding_all exact rfl) ?_ | refine we_inS (by with_unfolding_all exact rfl) ?_ | refine we_notInS (by with_unfolding_all exact rfl) ?_ | refine we_eqS (by with_unfolding_all exact rfl) ?_ | refine we_neS (by with_unfolding_all exact rfl) ?_ | refine we_opK ?_) | (show WE (tCB _ _) _ _; first | refine we_repr ?_ | refine we_isInt ?_ | refine we_isBl ?_ | refine we_isLst ?_ | refine we_isTup ?_ | refine we_lenO (by with_unfolding_all exact rfl) ?_ | refine we_lenS' (by with_unfolding_all exact rfl) ?_ | refine we_lenScr (by with_unfolding_all exact rfl) ?_ | refine we_cbK ?_) | refine we_dnew ?_ | refine we_lenSetI ?_ | refine we_revL ?_ | refine we_chain ?_ | refine we_slice ?_ | refine we_int ?_ | refine we_bl ?_ | refine we_non ?_ | refine we_str ?_ | refine we_neg ?_ | refine we_not ?_ | refine we_and ?_ | refine we_or ?_ | refine we_if ?_ | refine we_tup ?_ | refine we_lst ?_ | refine we_call ?_ | refine we_mt (by with_unfolding_all exact rfl) ?_)
  | (with_reducible show WS _ _ _ _; with_reducible first | refine ws_seqI ?_ | refine ws_seqA ?_ | refine ws_seqD ?_ | refine ws_asg (by with_unfolding_all exact rfl) ?_ | refine ws_asgG ?_ | refine ws_if ?_ | refine ws_ret ?_ | refine ws_drop ?_ | refine ws_next ?_ | refine ws_retN ?_)
  | (with_reducible show WT _ _ _; with_reducible first | refine wt_truL ?_ | refine wt_test ?_ | refine wt_B ?_ | refine wt_not ?_ | refine wt_and ?_ | refine wt_or ?_ | refine wt_yes ?_)
  | (with_reducible show WA _ _ _; with_reducible first | refine wa_nil ?_ | refine wa_cons (wq_of (we_var (by with_unfolding_all exact rfl) ?_)) | refine wa_slotU (by with_unfolding_all exact rfl) ?_ | refine wa_cons ?_)
  | (with_reducible show OpK _ _ _ _ _; with_reducible first | refine ok_neR ?_ | refine ok_eqR ?_ | refine ok_isB ?_ | refine ok_notB ?_ | refine ok_plusI ?_ | refine ok_sub ?_ | refine ok_lt ?_ | refine ok_le ?_ | refine ok_gt ?_ | refine ok_ge ?_ | refine ok_eqI ?_ | refine ok_neI ?_ | refine ok_mod (by first | assumption | decide | omega) ?_ | refine ok_ixL (by with_unfolding_all exact rfl) ?_)
  | (with_reducible show CbK _ _ _ _; with_reducible first | refine ck_tuple ?_ | refine ck_allF ?_ | refine ck_anyF ?_ | refine ck_abs ?_ | refine ck_sumI ?_ | refine ck_lenL ?_ | refine ck_lenT ?_ | refine ck_int ?_ | refine ck_intB ?_ | refine ck_max ?_ | refine ck_min ?_ | refine ck_list ?_)
  | with_reducible refine wq_of ?_
  | (with_reducible show WG _ _ _ _ _; with_reducible first | refine wg_name (by with_unfolding_all exact rfl) ?_ | refine wg_tup (by with_unfolding_all exact rfl) ?_ | refine wg_set (by with_unfolding_all exact rfl) ?_)
  | (with_reducible show WGs _ _ _ _ _; with_reducible first | refine wgs_cons ?_ | refine wgs_nil ?_)
  | (with_reducible show WO _ _ _; with_reducible first | refine wo_some ?_ | refine wo_none ?_)
  | refine ⟨_, argD5, ?_⟩
  | refine ⟨_, argD6, ?_⟩
  | refine ⟨_, argD7, ?_⟩
  | refine ⟨_, argD9, ?_⟩
  | with_reducible refine iteT ?_
  | with_reducible refine iteF ?_
  | with_reducible refine ⟨_, frz_per, ?_⟩
  | with_reducible refine ⟨_, frz_own, ?_⟩
  | refine ⟨_, rfl, ?_⟩
  | refine ⟨_, argD1, ?_⟩
  | refine ⟨_, argD2, ?_⟩
  | refine ⟨_, argD0, ?_⟩
  | refine ⟨_, argD3, ?_⟩
  | refine ⟨_, argD4, ?_⟩
  | refine ⟨_, _, rfl, rfl, rfl, ?_⟩
  | refine ⟨_, _, _, rfl, rfl, rfl, ?_⟩
  | refine ⟨(by simp only [List.length_cons, List.length_nil]; decide), ?_⟩
  | refine ⟨rfl, nd1, ?_⟩
  | refine ⟨rfl, nd0, ?_⟩
  | refine ⟨_, argD8, ?_⟩
  | refine ⟨_, argD10, ?_⟩)
local macro_rules | `(tactic| walk_at "v") => `(tactic| first
  | (with_reducible show WE _ _ _; with_reducible first | refine we_var (by with_unfolding_all exact rfl) ?_ | refine we_varF (by with_unfolding_all exact rfl) frz_own ?_ | (show WE (tOp _ _ _) _ _; first | refine we_isNd ?_ | refine we_notNd ?_ | refine we_notN ?_ | refine we_ixS (by with_unfolding_all exact rfl) ?_ | refine we_ixScr (by with_unfolding_all exact rfl) ?_ | refine we_inS (by with_unfolding_all exact rfl) ?_ | refine we_notInS (by with_unfolding_all exact rfl) ?_ | refine we_eqS (by with_unfolding_all exact rfl) ?_ | refine we_neS (by with_unfolding_all exact rfl) ?_ | refine we_opK ?_) | (show WE (tCB _ _) _ _; first | refine we_repr ?_ | refine we_lenWeb (by with_unfolding_all exact rfl) (by assumption) ?_ | refine we_isInt ?_ | refine we_isBl ?_ | refine we_isLst ?_ | refine we_isTup ?_ | refine we_lenO (by with_unfolding_all exact rfl) ?_ | refine we_lenS' (by with_unfolding_all exact rfl) ?_ | refine we_lenScr (by with_unfolding_all exact rfl) ?_ | refine we_cbK ?_) | refine we_dnew ?_ | refine we_lenSetI ?_ | refine we_revL ?_ | refine we_nbWeb (by with_unfolding_all exact rfl) (by assumption) (by assumption) ?_ | refine we_tiesWeb (by with_unfolding_all exact rfl) ?_ | refine we_chain ?_ | refine we_slice ?_ | refine we_int ?_ | refine we_bl ?_ | refine we_non ?_ | refine we_str ?_ | refine we_neg ?_ | refine we_not ?_ | refine we_and ?_ | refine we_or ?_ | refine we_if ?_ | refine we_tup ?_ | refine we_lst ?_ | refine we_call ?_ | refine we_mt (by with_unfolding_all exact rfl) ?_)
  | (with_reducible show WS _ _ _ _; with_reducible first | refine ws_seqI ?_ | refine ws_seqA ?_ | refine ws_seqD ?_ | refine ws_asg (by with_unfolding_all exact rfl) ?_ | refine ws_asgG ?_ | refine ws_if ?_ | refine ws_ret ?_ | refine ws_drop ?_ | refine ws_next ?_ | refine ws_retN ?_)
  | (with_reducible show WT _ _ _; with_reducible first | refine wt_truL ?_ | refine wt_test ?_ | refine wt_B ?_ | refine wt_not ?_ | refine wt_and ?_ | refine wt_or ?_ | refine wt_yes ?_)
  | (with_reducible show WA _ _ _; with_reducible first | refine wa_nil ?_ | refine wa_cons (wq_of (we_var (by with_unfolding_all exact rfl) ?_)) | refine wa_slotU (by with_unfolding_all exact rfl) ?_ | refine wa_cons ?_)
  | (with_reducible show OpK _ _ _ _ _; with_reducible first | refine ok_neR ?_ | refine ok_eqR ?_ | refine ok_isB ?_ | refine ok_notB ?_ | refine ok_plusI ?_ | refine ok_sub ?_ | refine ok_lt ?_ | refine ok_le ?_ | refine ok_gt ?_ | refine ok_ge ?_ | refine ok_eqI ?_ | refine ok_neI ?_ | refine ok_mod (by first | assumption | decide | omega) ?_ | refine ok_ixL (by with_unfolding_all exact rfl) ?_)
  | (with_reducible show CbK _ _ _ _; with_reducible first | refine ck_tuple ?_ | refine ck_allF ?_ | refine ck_anyF ?_ | refine ck_abs ?_ | refine ck_sumI ?_ | refine ck_lenL ?_ | refine ck_lenT ?_ | refine ck_int ?_ | refine ck_intB ?_ | refine ck_max ?_ | refine ck_min ?_ | refine ck_list ?_)
  | with_reducible refine wq_of ?_
  | (with_reducible show WG _ _ _ _ _; with_reducible first | refine wg_name (by with_unfolding_all exact rfl) ?_ | refine wg_tup (by with_unfolding_all exact rfl) ?_ | refine wg_set (by with_unfolding_all exact rfl) ?_)
  | (with_reducible show WGs _ _ _ _ _; with_reducible first | refine wgs_cons ?_ | refine wgs_nil ?_)
  | (with_reducible show WO _ _ _; with_reducible first | refine wo_some ?_ | refine wo_none ?_)
  | refine ⟨_, argD5, ?_⟩
  | refine ⟨_, argD6, ?_⟩
  | refine ⟨_, argD7, ?_⟩
  | refine ⟨_, argD9, ?_⟩
  | with_reducible refine iteT ?_
  | with_reducible refine iteF ?_
  | with_reducible refine ⟨_, frz_per, ?_⟩
  | with_reducible refine ⟨_, frz_own, ?_⟩
  | refine ⟨_, rfl, ?_⟩
  | refine ⟨_, argD1, ?_⟩
  | refine ⟨_, argD2, ?_⟩
  | refine ⟨_, argD0, ?_⟩
  | refine ⟨_, argD3, ?_⟩
  | refine ⟨_, argD4, ?_⟩
  | refine ⟨_, _, rfl, rfl, rfl, ?_⟩
  | refine ⟨_, _, _, rfl, rfl, rfl, ?_⟩
  | refine ⟨(by simp only [List.length_cons, List.length_nil]; decide), ?_⟩
  | refine ⟨rfl, nd1, ?_⟩
  | refine ⟨rfl, nd0, ?_⟩
  | refine ⟨_, argD8, ?_⟩
  | refine ⟨_, argD10, ?_⟩)
local macro_rules | `(tactic| walk_at "p") => `(tactic| refine ⟨_, _, rfl, (by omega), (by first | decide | omega), (by first | decide | omega), ?_⟩)
local macro_rules | `(tactic| walk_at "n") => `(tactic| try dsimp only [back, List.set_cons_zero, List.set_cons_succ, List.map_cons, List.map_nil, List.cons_append, List.nil_append])
local macro_rules | `(tactic| walk_at "q") => `(tactic| first | with_reducible refine ws_seqP (ws_par (by with_unfolding_all exact rfl) (by with_unfolding_all exact rfl) ?_) | refine ⟨_, _, rfl, ?_⟩ | walk_at "v")
local macro_rules | `(tactic| walk_at "j") => `(tactic| first
  | (with_reducible show WA _ _ _; with_reducible refine wa_slotJ (by with_unfolding_all exact rfl) ?_)
  | walk_at "v")
theorem mem_leftL {n : Nat} {ss : List Int} {x : Int} : x ∈ leftL n ss ↔ (0 ≤ x ∧ x < n) ∧ x ∉ ss := by
  unfold leftL
  rw [List.mem_filter, mem_rangeI, decide_eq_true_eq]
theorem leftL_lt {n : Nat} {ss : List Int} : (leftL n ss).Pairwise (· < ·) := (rangeI_lt n).filter _
def t_core_parts (K : PySem.W.Frag) (a : Ad) (E : XK) : TS :=
  (tRet (tCall (sp_parts_among K a) [] E (tCons (tVar 0) (tCons (tOp (rIx K) (tCall (sp_core K a) [] E (tCons (tVar 0) tNil)) (tC (.int 1))) tNil))))
abbrev N_core_parts : List Str := ["web"]
abbrev F_core_parts (a : Ad) : Fw := fun gs kk xx => ∃ (n : Nat) (ts : List (Int × Int)), gs = [per (objP a.C_Web (webF n ts))] ∧ n ≤ 60 ∧ Valid n ts ∧ ts.Nodup ∧ ∀ ss, CoreIs n ts ss → kk (own ((partsI ts n (leftL n ss)).map rowI)) [none]
abbrev sp_core_parts (K : PySem.W.Frag) (a : Ad) : Sp := SpG 1 (F_core_parts a)
theorem pure_core_parts {K : PySem.W.Frag} {a : Ad} (c : Clf K a) {vs : List V} {H : Hp} {Q : VK} {E : XK} (h : sp_core_parts K a vs H Q E) :
    t_core_parts K a E { nx := fun _ H' => Q .non H', rt := Q } (start N_core_parts vs) H := by
  refine body_okX (fun _ => false) ?_ h
  rintro gs kk xx ⟨n, ts, rfl, hn, hv, hnd, hk⟩ -
  unfold t_core_parts
  refine wsx_of ?_
  show WS _ _ [some (per (objP a.C_Web (webF n ts)))] _
  refine ws_ret (we_call (wa_cons (wq_of (we_var rfl ⟨_, frz_per, wa_cons (wq_of (we_opK (wq_of (we_call (wa_cons (wq_of (we_var rfl ⟨_, frz_per, wa_nil ⟨rfl, nd0, n, ts, rfl, hn, hv, hnd, fun ss hss => ?_⟩⟩)))))))⟩))))
  refine ⟨_, frz_pairO, _, rfl, ?_⟩
  repeat walk_at "v"
  refine ok_ixT (d := .list ((leftL n ss).map .int)) rfl ?_
  repeat walk_at "v"
  refine ⟨n, ts, leftL n ss, rfl, hn, hv, hnd, leftL_lt, fun p hp => (mem_leftL.mp hp).1, ?_⟩
  exact ⟨_, _, Ent.refl, les_none les_nil, hk ss hss⟩
end G

namespace G
open PySem L2
local macro_rules | `(tactic| walk_at "g1") => `(tactic| first
  | (with_reducible show WE _ _ _; with_reducible first | refine we_var (by with_unfolding_all exact rfl) ?_ | (show WE (tOp _ _ _) _ _; first | refine we_ixS (by with_unfolding_all exact rfl) ?_ | refine we_ixScr (by with_unfolding_all exact rfl) ?_ | refine we_inS (by with_unfolding_all exact rfl) ?_ | refine we_notInS (by with_unfolding_all exact rfl) ?_ | refine we_eqS (by with_unfolding_all exact rfl) ?_ | refine we_neS (by with_unfolding_all exact rfl) ?_ | refine we_opK ?_) | (show WE (tCB _ _) _ _; first | refine we_lenS' (by with_unfolding_all exact rfl) ?_ | refine we_lenScr (by with_unfolding_all exact rfl) ?_ | refine we_cbK ?_) | refine we_int ?_ | refine we_bl ?_ | refine we_non ?_ | refine we_str ?_ | refine we_neg ?_ | refine we_not ?_ | refine we_and ?_ | refine we_or ?_ | refine we_if ?_ | refine we_tup ?_ | refine we_lst ?_ | refine we_call ?_ | refine we_mt (by with_unfolding_all exact rfl) ?_)
  | (with_reducible show WS _ _ _ _; with_reducible first | refine ws_seqA ?_ | refine ws_seqD ?_ | refine ws_asg (by with_unfolding_all exact rfl) ?_ | refine ws_asgG ?_ | refine ws_if ?_ | refine ws_ret ?_ | refine ws_drop ?_ | refine ws_next ?_ | refine ws_retN ?_)
  | (with_reducible show WT _ _ _; with_reducible first | refine wt_test ?_ | refine wt_B ?_ | refine wt_not ?_ | refine wt_and ?_ | refine wt_or ?_ | refine wt_yes ?_)
  | (with_reducible show WA _ _ _; with_reducible first | refine wa_nil ?_ | refine wa_cons (wq_of (we_var (by with_unfolding_all exact rfl) ?_)) | refine wa_slotU (by with_unfolding_all exact rfl) ?_ | refine wa_cons ?_)
  | (with_reducible show OpK _ _ _ _ _; with_reducible first | refine ok_plusI ?_ | refine ok_sub ?_ | refine ok_lt ?_ | refine ok_le ?_ | refine ok_gt ?_ | refine ok_ge ?_ | refine ok_eqI ?_ | refine ok_neI ?_ | refine ok_mod (by first | assumption | decide | omega) ?_ | refine ok_ixL (by with_unfolding_all exact rfl) ?_)
  | (with_reducible show CbK _ _ _ _; with_reducible first | refine ck_lenL ?_ | refine ck_lenT ?_ | refine ck_int ?_ | refine ck_intB ?_ | refine ck_max ?_ | refine ck_min ?_ | refine ck_list ?_)
  | with_reducible refine wq_of ?_
  | (with_reducible show WG _ _ _ _ _; with_reducible first | refine wg_name (by with_unfolding_all exact rfl) ?_ | refine wg_tup (by with_unfolding_all exact rfl) ?_ | refine wg_set (by with_unfolding_all exact rfl) ?_)
  | (with_reducible show WGs _ _ _ _ _; with_reducible first | refine wgs_cons ?_ | refine wgs_nil ?_)
  | with_reducible refine iteT ?_
  | with_reducible refine iteF ?_
  | with_reducible refine ⟨_, frz_per, ?_⟩
  | with_reducible refine ⟨_, frz_own, ?_⟩
  | refine ⟨_, rfl, ?_⟩
  | refine ⟨_, argD1, ?_⟩
  | refine ⟨_, argD2, ?_⟩
  | refine ⟨_, argD0, ?_⟩
  | refine ⟨_, argD3, ?_⟩
  | refine ⟨_, argD4, ?_⟩
  | refine ⟨_, _, rfl, rfl, rfl, ?_⟩
  | refine ⟨_, _, _, rfl, rfl, rfl, ?_⟩
  | refine ⟨(by simp only [List.length_cons, List.length_nil]; decide), ?_⟩
  | refine ⟨rfl, nd1, ?_⟩
  | refine ⟨rfl, nd0, ?_⟩)
local macro_rules | `(tactic| walk_at "go") => `(tactic| repeat walk_at "g1")
local macro_rules | `(tactic| walk_at "g2") => `(tactic| first
  | (with_reducible show WE _ _ _; with_reducible first | refine we_var (by with_unfolding_all exact rfl) ?_ | (show WE (tOp _ _ _) _ _; first | refine we_notN ?_ | refine we_ixS (by with_unfolding_all exact rfl) ?_ | refine we_ixScr (by with_unfolding_all exact rfl) ?_ | refine we_inS (by with_unfolding_all exact rfl) ?_ | refine we_notInS (by with_unfolding_all exact rfl) ?_ | refine we_eqS (by with_unfolding_all exact rfl) ?_ | refine we_neS (by with_unfolding_all exact rfl) ?_ | refine we_opK ?_) | (show WE (tCB _ _) _ _; first | refine we_isInt ?_ | refine we_isBl ?_ | refine we_isLst ?_ | refine we_isTup ?_ | refine we_lenO (by with_unfolding_all exact rfl) ?_ | refine we_lenS' (by with_unfolding_all exact rfl) ?_ | refine we_lenScr (by with_unfolding_all exact rfl) ?_ | refine we_cbK ?_) | refine we_chain ?_ | refine we_slice ?_ | refine we_int ?_ | refine we_bl ?_ | refine we_non ?_ | refine we_str ?_ | refine we_neg ?_ | refine we_not ?_ | refine we_and ?_ | refine we_or ?_ | refine we_if ?_ | refine we_tup ?_ | refine we_lst ?_ | refine we_call ?_ | refine we_mt (by with_unfolding_all exact rfl) ?_)
  | (with_reducible show WS _ _ _ _; with_reducible first | refine ws_seqA ?_ | refine ws_seqD ?_ | refine ws_asg (by with_unfolding_all exact rfl) ?_ | refine ws_asgG ?_ | refine ws_if ?_ | refine ws_ret ?_ | refine ws_drop ?_ | refine ws_next ?_ | refine ws_retN ?_)
  | (with_reducible show WT _ _ _; with_reducible first | refine wt_test ?_ | refine wt_B ?_ | refine wt_not ?_ | refine wt_and ?_ | refine wt_or ?_ | refine wt_yes ?_)
  | (with_reducible show WA _ _ _; with_reducible first | refine wa_nil ?_ | refine wa_cons (wq_of (we_var (by with_unfolding_all exact rfl) ?_)) | refine wa_slotU (by with_unfolding_all exact rfl) ?_ | refine wa_cons ?_)
  | (with_reducible show OpK _ _ _ _ _; with_reducible first | refine ok_isB ?_ | refine ok_notB ?_ | refine ok_plusI ?_ | refine ok_sub ?_ | refine ok_lt ?_ | refine ok_le ?_ | refine ok_gt ?_ | refine ok_ge ?_ | refine ok_eqI ?_ | refine ok_neI ?_ | refine ok_mod (by first | assumption | decide | omega) ?_ | refine ok_ixL (by with_unfolding_all exact rfl) ?_)
  | (with_reducible show CbK _ _ _ _; with_reducible first | refine ck_lenL ?_ | refine ck_lenT ?_ | refine ck_int ?_ | refine ck_intB ?_ | refine ck_max ?_ | refine ck_min ?_ | refine ck_list ?_)
  | with_reducible refine wq_of ?_
  | (with_reducible show WG _ _ _ _ _; with_reducible first | refine wg_name (by with_unfolding_all exact rfl) ?_ | refine wg_tup (by with_unfolding_all exact rfl) ?_ | refine wg_set (by with_unfolding_all exact rfl) ?_)
  | (with_reducible show WGs _ _ _ _ _; with_reducible first | refine wgs_cons ?_ | refine wgs_nil ?_)
  | (with_reducible show WO _ _ _; with_reducible first | refine wo_some ?_ | refine wo_none ?_)
  | refine ⟨_, argD5, ?_⟩
  | refine ⟨_, argD6, ?_⟩
  | refine ⟨_, argD7, ?_⟩
  | refine ⟨_, argD9, ?_⟩
  | with_reducible refine iteT ?_
  | with_reducible refine iteF ?_
  | with_reducible refine ⟨_, frz_per, ?_⟩
  | with_reducible refine ⟨_, frz_own, ?_⟩
  | refine ⟨_, rfl, ?_⟩
  | refine ⟨_, argD1, ?_⟩
  | refine ⟨_, argD2, ?_⟩
  | refine ⟨_, argD0, ?_⟩
  | refine ⟨_, argD3, ?_⟩
  | refine ⟨_, argD4, ?_⟩
  | refine ⟨_, _, rfl, rfl, rfl, ?_⟩
  | refine ⟨_, _, _, rfl, rfl, rfl, ?_⟩
  | refine ⟨(by simp only [List.length_cons, List.length_nil]; decide), ?_⟩
  | refine ⟨rfl, nd1, ?_⟩
  | refine ⟨rfl, nd0, ?_⟩)
local macro_rules | `(tactic| walk_at "w") => `(tactic| first
  | (with_reducible show WE _ _ _; with_reducible first | refine we_var (by with_unfolding_all exact rfl) ?_ | refine we_varF (by with_unfolding_all exact rfl) frz_own ?_ | (show WE (tOp _ _ _) _ _; first | refine we_isNd ?_ | refine we_notNd ?_ | refine we_notN ?_ | refine we_ixS (by with_unfolding_all exact rfl) ?_ | refine we_ixScr (by with_unfolding_all exact rfl) ?_ | refine we_inS (by with_unfolding_all exact rfl) ?_ | refine we_notInS (by with_unfolding_all exact rfl) ?_ | refine we_eqS (by with_unfolding_all exact rfl) ?_ | refine we_neS (by with_unfolding_all exact rfl) ?_ | refine we_opK ?_) | (show WE (tCB _ _) _ _; first | refine we_repr ?_ | refine we_isInt ?_ | refine we_isBl ?_ | refine we_isLst ?_ | refine we_isTup ?_ | refine we_lenO (by with_unfolding_all exact rfl) ?_ | refine we_lenS' (by with_unfolding_all exact rfl) ?_ | refine we_lenScr (by with_unfolding_all exact rfl) ?_ | refine we_cbK ?_) | refine we_dnew ?_ | refine we_lenSetI ?_ | refine we_revL ?_ | refine we_chain ?_ | refine we_slice ?_ | refine we_int ?_ | refine we_bl ?_ | refine we_non ?_ | refine we_str ?_ | refine we_neg ?_ | refine we_not ?_ | refine we_and ?_ | refine we_or ?_ | refine we_if ?_ | refine we_tup ?_ | refine we_lst ?_ | refine we_call ?_ | refine we_mt (by with_unfolding_all exact rfl) ?_)
  | (with_reducible show WS _ _ _ _; with_reducible first | refine ws_seqI ?_ | refine ws_seqA ?_ | refine ws_seqD ?_ | refine ws_asg (by with_unfolding_all exact rfl) ?_ | refine ws_asgG ?_ | refine ws_if ?_ | refine ws_ret ?_ | refine ws_drop ?_ | refine ws_next ?_ | refine ws_retN ?_)
  | (with_reducible show WT _ _ _; with_reducible first | refine wt_truL ?_ | refine wt_test ?_ | refine wt_B ?_ | refine wt_not ?_ | refine wt_and ?_ | refine wt_or ?_ | refine wt_yes ?_)
  | (with_reducible show WA _ _ _; with_reducible first | refine wa_nil ?_ | refine wa_cons (wq_of (we_var (by with_unfolding_all exact rfl) ?_)) | refine wa_slotU (by with_unfolding_all exact rfl) ?_ | refine wa_cons ?_)
  | (with_reducible show OpK _ _ _ _ _; with_reducible first | refine ok_neR ?_ | refine ok_eqR ?_ | refine ok_isB ?_ | refine ok_notB ?_ | refine ok_plusI ?_ | refine ok_sub ?_ | refine ok_lt ?_ | refine ok_le ?_ | refine ok_gt ?_ | refine ok_ge ?_ | refine ok_eqI ?_ | refine ok_neI ?_ | refine ok_mod (by first | assumption | decide | omega) ?_ | refine ok_ixL (by with_unfolding_all exact rfl) ?_)
  | (with_reducible show CbK _ _ _ _; with_reducible first | refine ck_tuple ?_ | refine ck_allF ?_ | refine ck_anyF ?_ | refine ck_abs ?_ | refine ck_sumI ?_ | refine ck_lenL ?_ | refine ck_lenT ?_ | refine ck_int ?_ | refine ck_intB ?_ | refine ck_max ?_ | refine ck_min ?_ | refine ck_list ?_)
  | with_reducible refine wq_of ?_
  | (with_reducible show WG _ _ _ _ _; with_reducible first | refine wg_name (by with_unfolding_all exact rfl) ?_ | refine wg_tup (by with_unfolding_all exact rfl) ?_ | refine wg_set (by with_unfolding_all exact rfl) ?_)
  | (with_reducible show WGs _ _ _ _ _; with_reducible first | refine wgs_cons ?_ | refine wgs_nil ?_)
  | (with_reducible show WO _ _ _; with_reducible first | refine wo_some ?_ | refine wo_none ?_)
  | refine ⟨_, argD5, ?_⟩
  | refine ⟨_, argD6, ?_⟩
  | refine ⟨_, argD7, ?_⟩
  | refine ⟨_, argD9, ?_⟩
  | with_reducible refine iteT ?_
  | with_reducible refine iteF ?_
  | with_reducible refine ⟨_, frz_per, ?_⟩
  | with_reducible refine ⟨_, frz_own, ?_⟩
  | refine ⟨_, rfl, ?_⟩
  | refine ⟨_, argD1, ?_⟩
  | refine ⟨_, argD2, ?_⟩
  | refine ⟨_, argD0, ?_⟩
  | refine ⟨_, argD3, ?_⟩
  | refine ⟨_, argD4, ?_⟩
  | refine ⟨_, _, rfl, rfl, rfl, ?_⟩
  | refine ⟨_, _, _, rfl, rfl, rfl, ?_⟩
  | refine ⟨(by simp only [List.length_cons, List.length_nil]; decide), ?_⟩
  | refine ⟨rfl, nd1, ?_⟩
  | refine ⟨rfl, nd0, ?_⟩
  | refine ⟨_, argD8, ?_⟩
  | refine ⟨_, argD10, ?_⟩)
local macro_rules | `(tactic| walk_at "v") => `(tactic| first
  | (with_reducible show WE _ _ _; with_reducible first | refine we_var (by with_unfolding_all exact rfl) ?_ | refine we_varF (by with_unfolding_all exact rfl) frz_own ?_ | (show WE (tOp _ _ _) _ _; first | refine we_isNd ?_ | refine we_notNd ?_ | refine we_notN ?_ | refine we_ixS (by with_unfolding_all exact rfl) ?_ | refine we_ixScr (by with_unfolding_all exact rfl) ?_ | refine we_inS (by with_unfolding_all exact rfl) ?_ | refine we_notInS (by with_unfolding_all exact rfl) ?_ | refine we_eqS (by with_unfolding_all exact rfl) ?_ | refine we_neS (by with_unfolding_all exact rfl) ?_ | refine we_opK ?_) | (show WE (tCB _ _) _ _; first | refine we_repr ?_ | refine we_lenWeb (by with_unfolding_all exact rfl) (by assumption) ?_ | refine we_isInt ?_ | refine we_isBl ?_ | refine we_isLst ?_ | refine we_isTup ?_ | refine we_lenO (by with_unfolding_all exact rfl) ?_ | refine we_lenS' (by with_unfolding_all exact rfl) ?_ | refine we_lenScr (by with_unfolding_all exact rfl) ?_ | refine we_cbK ?_) | refine we_dnew ?_ | refine we_lenSetI ?_ | refine we_revL ?_ | refine we_nbWeb (by with_unfolding_all exact rfl) (by assumption) (by assumption) ?_ | refine we_tiesWeb (by with_unfolding_all exact rfl) ?_ | refine we_chain ?_ | refine we_slice ?_ | refine we_int ?_ | refine we_bl ?_ | refine we_non ?_ | refine we_str ?_ | refine we_neg ?_ | refine we_not ?_ | refine we_and ?_ | refine we_or ?_ | refine we_if ?_ | refine we_tup ?_ | refine we_lst ?_ | refine we_call ?_ | refine we_mt (by with_unfolding_all exact rfl) ?_)
  | (with_reducible show WS _ _ _ _; with_reducible first | refine ws_seqI ?_ | refine ws_seqA ?_ | refine ws_seqD ?_ | refine ws_asg (by with_unfolding_all exact rfl) ?_ | refine ws_asgG ?_ | refine ws_if ?_ | refine ws_ret ?_ | refine ws_drop ?_ | refine ws_next ?_ | refine ws_retN ?_)
  | (with_reducible show WT _ _ _; with_reducible first | refine wt_truL ?_ | refine wt_test ?_ | refine wt_B ?_ | refine wt_not ?_ | refine wt_and ?_ | refine wt_or ?_ | refine wt_yes ?_)
  | (with_reducible show WA _ _ _; with_reducible first | refine wa_nil ?_ | refine wa_cons (wq_of (we_var (by with_unfolding_all exact rfl) ?_)) | refine wa_slotU (by with_unfolding_all exact rfl) ?_ | refine wa_cons ?_)
  | (with_reducible show OpK _ _ _ _ _; with_reducible first | refine ok_neR ?_ | refine ok_eqR ?_ | refine ok_isB ?_ | refine ok_notB ?_ | refine ok_plusI ?_ | refine ok_sub ?_ | refine ok_lt ?_ | refine ok_le ?_ | refine ok_gt ?_ | refine ok_ge ?_ | refine ok_eqI ?_ | refine ok_neI ?_ | refine ok_mod (by first | assumption | decide | omega) ?_ | refine ok_ixL (by with_unfolding_all exact rfl) ?_)
  | (with_reducible show CbK _ _ _ _; with_reducible first | refine ck_tuple ?_ | refine ck_allF ?_ | refine ck_anyF ?_ | refine ck_abs ?_ | refine ck_sumI ?_ | refine ck_lenL ?_ | refine ck_lenT ?_ | refine ck_int ?_ | refine ck_intB ?_ | refine ck_max ?_ | refine ck_min ?_ | refine ck_list ?_)
  | with_reducible refine wq_of ?_
  | (with_reducible show WG _ _ _ _ _; with_reducible first | refine wg_name (by with_unfolding_all exact rfl) ?_ | refine wg_tup (by with_unfolding_all exact rfl) ?_ | refine wg_set (by with_unfolding_all exact rfl) ?_)
  | (with_reducible show WGs _ _ _ _ _; with_reducible first | refine wgs_cons ?_ | refine wgs_nil ?_)
  | (with_reducible show WO _ _ _; with_reducible first | refine wo_some ?_ | refine wo_none ?_)
  | refine ⟨_, argD5, ?_⟩
  | refine ⟨_, argD6, ?_⟩
  | refine ⟨_, argD7, ?_⟩
  | refine ⟨_, argD9, ?_⟩
  | with_reducible refine iteT ?_
  | with_reducible refine iteF ?_
  | with_reducible refine ⟨_, frz_per, ?_⟩
  | with_reducible refine ⟨_, frz_own, ?_⟩
  | refine ⟨_, rfl, ?_⟩
  | refine ⟨_, argD1, ?_⟩
  | refine ⟨_, argD2, ?_⟩
  | refine ⟨_, argD0, ?_⟩
  | refine ⟨_, argD3, ?_⟩
  | refine ⟨_, argD4, ?_⟩
  | refine ⟨_, _, rfl, rfl, rfl, ?_⟩
  | refine ⟨_, _, _, rfl, rfl, rfl, ?_⟩
  | refine ⟨(by simp only [List.length_cons, List.length_nil]; decide), ?_⟩
  | refine ⟨rfl, nd1, ?_⟩
  | refine ⟨rfl, nd0, ?_⟩
  | refine ⟨_, argD8, ?_⟩
  | refine ⟨_, argD10, ?_⟩)
local macro_rules | `(tactic| walk_at "p") => `(tactic| refine ⟨_, _, rfl, (by omega), (by first | decide | omega), (by first | decide | omega), ?_⟩)
local macro_rules | `(tactic| walk_at "n") => `(tactic| try dsimp only [back, List.set_cons_zero, List.set_cons_succ, List.map_cons, List.map_nil, List.cons_append, List.nil_append])
local macro_rules | `(tactic| walk_at "q") => `(tactic| first | with_reducible refine ws_seqP (ws_par (by with_unfolding_all exact rfl) (by with_unfolding_all exact rfl) ?_) | refine ⟨_, _, rfl, ?_⟩ | walk_at "v")
local macro_rules | `(tactic| walk_at "j") => `(tactic| first
  | (with_reducible show WA _ _ _; with_reducible refine wa_slotJ (by with_unfolding_all exact rfl) ?_)
  | walk_at "v")
/-- whether just one place of the part of p is left -/
noncomputable def treeB (ts : List (Int × Int)) (n : Nat) (ss : List Int) (p : Int) : Bool := decide (((partC (Eb ts) n p).filter fun x => decide (x ∉ ss)).length = 1)
abbrev t_is_in_tree_0 (K : PySem.W.Frag) (a : Ad) (E : XK) : TS :=
  (tRet (tOp (rEqD K) (tCB (rLenA K) (tCons (tLc (iList K (tVar 3)) (gName 5) (tTest (tOp (rInD K) (tVar 5) (tVar 2))) (tVar 5) [5]) tNil)) (tC (.int 1))))
abbrev t_is_in_tree_1 (K : PySem.W.Frag) (a : Ad) (E : XK) : TS :=
  (tSeq (tAsg (tOp (rIx K) (tLc (iList K (tMeth a.C_Web "parts" (sp_Web_parts K a) [] E0 (tVar 0) tNil)) (gName 4) (tTest (tOp (rInD K) (tVar 1) (tVar 4))) (tVar 4) [4]) (tC (.int 0))) (gName 3))
    (t_is_in_tree_0 K a E))
def t_is_in_tree (K : PySem.W.Frag) (a : Ad) (E : XK) : TS :=
  (tSeq (tAsg (tOp (rIx K) (tCall (sp_core K a) [] E (tCons (tVar 0) tNil)) (tC (.int 1))) (gName 2))
    (t_is_in_tree_1 K a E))
abbrev N_is_in_tree : List Str := ["web", "place", "left", "own", "part", "other"]
abbrev F_is_in_tree (a : Ad) : Fw := fun gs kk xx => ∃ (n : Nat) (ts : List (Int × Int)) (p : Int), gs = [per (objP a.C_Web (webF n ts)), dat (.int p)] ∧ n ≤ 60 ∧ Valid n ts ∧ ts.Nodup ∧ (0 ≤ p ∧ p < n) ∧ ∀ ss, CoreIs n ts ss → kk (dat (.bool (treeB ts n ss p))) [none, none]
abbrev sp_is_in_tree (K : PySem.W.Frag) (a : Ad) : Sp := SpG 2 (F_is_in_tree a)
theorem pure_is_in_tree {K : PySem.W.Frag} {a : Ad} (c : Clf K a) {vs : List V} {H : Hp} {Q : VK} {E : XK} (h : sp_is_in_tree K a vs H Q E) :
    t_is_in_tree K a E { nx := fun _ H' => Q .non H', rt := Q } (start N_is_in_tree vs) H := by
  refine body_okX (fun _ => false) ?_ h
  rintro gs kk xx ⟨n, ts, p, rfl, hn, hv, hnd, hp, hk⟩ -
  unfold t_is_in_tree
  refine wsx_of ?_
  show WS _ _ [some (per (objP a.C_Web (webF n ts))), some (dat (.int p)), none, none, none, none] _
  refine ws_seq (ws_asg rfl (we_opK (wq_of (we_call (wa_cons (wq_of (we_var rfl ⟨_, frz_per, wa_nil ⟨rfl, nd0, n, ts, rfl, hn, hv, hnd, fun ss hss => ?_⟩⟩)))))))
  refine ⟨_, frz_pairO, _, rfl, ?_⟩
  repeat walk_at "v"
  refine ok_ixT (d := .list ((leftL n ss).map .int)) rfl ?_
  walk_at "n"
  refine ws_seq (ws_asg rfl (we_opK (wq_of ?_)))
  refine we_lcS rowI (fun ms => decide (p ∈ ms)) (wil_list (wq_of (we_meth rfl (webF_no (by decide +kernel) (by decide +kernel)) (wa_nil ⟨rfl, rfl, rfl, n, ts, rfl, hn, hv, ?_⟩))))
  have hpl : (partsC (Eb ts) n).length ≤ n := partsC_len
  refine ⟨_, frz_own2, _, rfl, partsC (Eb ts) n, by rw [List.map_map]; rfl, rfl, by omega, fun ms hm => ?_, ?_⟩
  · refine wg_name rfl ?_
    walk_at "n"
    repeat walk_at "v"
    refine ok_inI ⟨_, frz_per, _, rfl, rfl, ?_⟩
    refine ite_dec (fun _ => ?_) fun _ => rfl
    repeat walk_at "v"
    exact ⟨rfl, rfl⟩
  rw [parts_with (eb_rng hv) (eb_sym hv) hp]
  repeat walk_at "v"
  have hpc : (partC (Eb ts) n p).length ≤ n := partC_len
  refine we_lcS .int (fun x => decide (x ∈ leftL n ss)) (wil_list (wq_of (we_var rfl ⟨_, frz_per, _, rfl, partC (Eb ts) n p, rfl, rfl, by omega, fun x hx => ?_, ?_⟩)))
  · refine wg_name rfl ?_
    walk_at "n"
    repeat walk_at "v"
    refine ok_inI ⟨_, frz_per, _, rfl, rfl, ?_⟩
    refine ite_dec (fun _ => ?_) fun _ => rfl
    repeat walk_at "v"
    exact ⟨rfl, rfl⟩
  repeat walk_at "v"
  refine ⟨_, _, Ent.refl, les_none (les_none les_nil), ?_⟩
  have e : decide (((List.map PyData.int ((partC (Eb ts) n p).filter fun x => decide (x ∈ leftL n ss))).length : Int) = 1) = treeB ts n ss p := by
    unfold treeB
    rw [List.length_map]
    have h1 : ((partC (Eb ts) n p).filter fun x => decide (x ∈ leftL n ss)) = (partC (Eb ts) n p).filter fun x => decide (x ∉ ss) := List.filter_congr fun x hx => by
      have := (mem_partC.mp hx).1
      rw [decide_eq_decide, mem_leftL]
      exact ⟨fun h => h.2, fun h => ⟨this, h⟩⟩
    rw [h1, decide_eq_decide]
    omega
  rw [e]
  exact hk ss hss
end G

/-! ### lists of things that stand still; isinstance of an object with a built-in; of an error with many classes; str(int) -/
namespace G
open PySem L2
section
variable {K : PySem.W.Frag} {P : Nat → Bool} {Γ : Ga} {D : Pe} {k : Gp → Ga → Prop} {te ta tb : TE} {tr : TA} {g : TG} {tt : TS}
theorem we_isiO {C : Addr} {m : String} (i : InsC K C) (h : WQ ta Γ fun q Γ1 => ∃ ds, q = objP C ds ∧ ∃ b, PySem.W.kitOne K (.ref C) (.type m) = some b ∧ k (dat (.bool b)) Γ1) : WE (tCB (rIsiA K) (tCons ta (tCons (tC (.ty m)) tNil))) Γ k := fun ω σ H S Q f => h ω σ H S _ fun v q Γ1 ω1 H1 ⟨ds, e, b, hb, hk⟩ S1 p f1 => by
  subst e
  obtain ⟨a, dx, fs, rfl, ha, hfs⟩ := p
  exact ⟨.ref a, .ty m, .ref C, .type m, b, rfl, .ty m, .base (.ins (vw_H ha) i.cl i.ha i.hn i.ht i.hm), hb, f _ _ Γ1 ω1 H1 hk S1 (DR.bl b) f1⟩
/-- a display of things that stand still -/
theorem PRs.ofArgs {σ : L2.St} {A : Hp} : ∀ {qs : List Per} {vs : List V}, ArgsOk σ A (qs.map Arg.q) vs → PRs A vs qs
  | [], _, h => by cases h; exact .nil
  | q :: qs, _, h => by
    cases h with
    | cons a b =>
    have ih := PRs.ofArgs b
    refine ⟨by simp [ih.1], fun i x r e1 e2 => ?_⟩
    cases i with
    | zero => cases e1; cases e2; exact a
    | succ i => exact ih.2 i x r (by simpa using e1) (by simpa using e2)
theorem we_lstQ (h : WA tr Γ fun as Γ1 => ∃ qs : List Per, as = qs.map Arg.q ∧ qs.length ≤ 100000 ∧ k (lsG qs) Γ1) : WE (tLst tr) Γ k := fun ω σ H S Q f => h ω σ H S _ fun vs as Γ1 ω1 H1 ⟨qs, e, hl, hk⟩ S1 a f1 => by
  subst e
  have hd := PRs.ofArgs a
  exact ⟨by rw [hd.length]; exact Nat.le_trans hl (by decide), fun p hp => f _ _ Γ1 (paint ω1 p 2) _ hk (S1.new 2 hp) ⟨p, vs, rfl, paint_at, hd.mono (paint_same hp 0)⟩ (f1.trans (paint_fr hp))⟩
theorem PRs.append {A : Hp} {xs ys : List V} {qs rs : List Per} (h : PRs A xs qs) (h' : PRs A ys rs) : PRs A (xs ++ ys) (qs ++ rs) := by
  refine ⟨by simp [h.1, h'.1], fun i x q a b => ?_⟩
  by_cases hi : i < xs.length
  · rw [List.getElem?_append_left hi] at a
    rw [List.getElem?_append_left (by rw [← h.1]; exact hi)] at b
    exact h.2 i x q a b
  · rw [List.getElem?_append_right (by omega)] at a
    rw [List.getElem?_append_right (by rw [← h.1]; omega), ← h.1] at b
    exact h'.2 _ x q a b
theorem PRs.of_drs {A : Hp} : ∀ {ds : List PyData} {vs : List V}, DRs A vs ds → PRs A vs (ds.map dP)
  | [], _, h => by cases h; exact .nil
  | d :: ds, _, h => by
    cases h with
    | cons a b =>
    have ih := PRs.of_drs b
    refine ⟨by simp [ih.1], fun i x r e1 e2 => ?_⟩
    cases i with
    | zero => cases e1; cases e2; exact a
    | succ i => exact ih.2 i x r (by simpa using e1) (by simpa using e2)
/-- q is a list of the qs -/
def LsQ (q : Per) (qs : List Per) : Prop := ∀ A v, q.q A v → (lsP qs).q A v
theorem lsQ_p {qs : List Per} : LsQ (lsP qs) qs := fun _ _ h => h
theorem lsQ_d {ds : List PyData} : LsQ (dP (.list ds)) (ds.map dP) := fun A v h => by
  obtain ⟨a, xs, e, ha, hd⟩ := DR.lst_inv h
  exact ⟨a, xs, e, ha, PRs.of_drs hd⟩
theorem we_catQ (h : WQ ta Γ fun q Γ1 => ∃ qs, LsQ q qs ∧ WQ tb Γ1 fun q' Γ2 => ∃ rs, LsQ q' rs ∧ qs.length + rs.length ≤ 100000 ∧ k (lsG (qs ++ rs)) Γ2) : WE (tOp (rPlus K) ta tb) Γ k :=
  we_op (h.imp fun q Γ1 ⟨qs, e1, h1⟩ => h1.imp fun q' Γ2 ⟨rs, e2, hl, hk⟩ ω σ H v w S pv pw Q f => by
    obtain ⟨a, xs, rfl, ha, hd⟩ := e1 _ _ pv
    obtain ⟨b, ys, rfl, hb, he⟩ := e2 _ _ pw
    exact .inr (.inl ⟨a, b, xs, ys, rfl, rfl, vw_H ha, vw_H hb, by rw [hd.length, he.length]; exact Nat.le_trans hl (by decide), fun p hp =>
      f _ _ Γ2 (paint ω p 2) _ hk (S.new 2 hp) ⟨p, xs ++ ys, rfl, paint_at, (hd.append he).mono (paint_same hp 0)⟩ (paint_fr hp)⟩))
theorem we_ixQ (h : WQ ta Γ fun q Γ1 => ∃ qs, LsQ q qs ∧ WQ tb Γ1 fun q' Γ2 => ∃ (i : Int) (r : Per), q' = dP (.int i) ∧ 0 ≤ i ∧ qs[i.toNat]? = some r ∧ k (per r) Γ2) : WE (tOp (rIx K) ta tb) Γ k :=
  we_op (h.imp fun q Γ1 ⟨qs, e1, h1⟩ => h1.imp fun q' Γ2 ⟨i, r, e2, h0, hr, hk⟩ ω σ H v w S pv pw Q f => by
    subst e2
    cases DR.int_inv pw
    obtain ⟨a, xs, rfl, ha, hd⟩ := e1 _ _ pv
    have hi : i.toNat < xs.length := by rw [hd.length]; exact (List.getElem?_eq_some_iff.mp hr).1
    refine .inl ⟨a, xs, i, xs[i.toNat], rfl, rfl, SqL.of (vw_H ha), ?_, f _ (per r) Γ2 ω H hk S (hd.2 i.toNat _ r (by simp) hr) Fr.refl⟩
    unfold atI ixN
    rw [if_pos h0, if_pos (by omega)]
    simp)
/-- for x in a list of things that stand still -/
theorem ws_forQ (Pv : Nat → Ga → Prop) (qs : List Per) (h : WQ te Γ fun q Γ1 => LsQ q qs ∧ Pv 0 Γ1 ∧ (∀ Γ2, Pv qs.length Γ2 → D.nx Γ2) ∧ ∀ i r Γ2, qs[i]? = some r → Pv i Γ2 → WG P g r Γ2 fun Γ3 => WS P tt Γ3 (D.lp (Pv (i + 1)))) : WS P (tFor (iList K te) g tt) Γ D := by
  refine ws_forP (fun ω σ H S R f => ?_)
  refine h ω σ H S _ fun v q Γ1 ω1 H1 ⟨eq, h0, hd, hs⟩ S1 p f1 => ?_
  obtain ⟨a, xs, rfl, ha, hx⟩ := eq _ _ p
  refine ⟨a, rfl, ⟨xs, SqL.of (vw_H ha)⟩, f (Itl K a) qs.length (fun i => qs.getD i (dP .none)) Γ1 ω1 H1 ⟨Pv, h0, hd, fun i Γ2 hi hp => hs i _ Γ2 (show qs[i]? = some (qs.getD i (dP .none)) by rw [List.getD_eq_getElem?_getD, List.getElem?_eq_getElem hi]; rfl) hp⟩ S1 (fun i H' s => ?_) f1⟩
  have hq : H' a = some (.lst xs) := s _ _ ha
  refine ⟨fun hi => ?_, fun hi => ⟨xs, SqL.of hq, by rw [hx.length]; exact hi⟩⟩
  have hix : i < xs.length := by rw [hx.length]; exact hi
  refine ⟨⟨xs, xs[i], SqL.of hq, by simp [hix]⟩, fun x H'' y => .inl ?_⟩
  obtain ⟨e, y⟩ := y
  refine ⟨e, ?_⟩
  have hx2 := y xs (SqL.of hq)
  have hg : qs[i]? = some (qs.getD i (dP .none)) := by rw [List.getD_eq_getElem?_getD, List.getElem?_eq_getElem hi]; rfl
  exact hx.2 i x _ hx2 hg
/-- isinstance(e, (C1, ..)) -/
def tCs : List Addr → TA
  | [] => tNil
  | C :: Cs => tCons (tC (.ref C)) (tCs Cs)
theorem tCs_run {σ : L2.St} {H : Hp} : ∀ {Cs : List Addr} {Q : List V → Hp → Prop}, Q (Cs.map V.ref) H → tCs Cs σ H Q
  | [], Q, h => h
  | C :: Cs, Q, h => tCs_run (Cs := Cs) (Q := fun xs H2 => Q (V.ref C :: xs) H2) h
theorem clsV_all : ∀ {Cs : List Addr}, Paired ClsV (Cs.map V.ref) (Cs.map Value.ref)
  | [] => .nil
  | C :: Cs => .cons (.own C) clsV_all
theorem we_isEn {i : Nat} {D : Addr} {Cs : List Addr} {b : Bool} (h : Γ[i]? = some (some (per (excP (.ref D))))) (C : ExcC K D) (hl : Cs.length ≤ 1000) (e : PySem.W.kitAny K (.ref D) (Cs.map Value.ref) = some b) (hk : k (dat (.bool b)) Γ) :
    WE (tCB (rIsE2 K) (tCons (tVar i) (tCons (tTup (tCs Cs)) tNil))) Γ k := fun ω σ H S Q f => by
  obtain ⟨v, ev, a, rfl, ha⟩ := S.2 i _ h
  refine ⟨_, ev, tCs_run ⟨by rw [List.length_map]; exact Nat.le_trans hl (by decide), fun p hp => ?_⟩⟩
  have S1 := S.new 0 (o := .tup (Cs.map V.ref)) hp
  exact ⟨a, D, p, Cs.map V.ref, Cs.map Value.ref, b, rfl, by rw [upd_ne (ne_of_none (vw_H ha) hp)]; exact vw_H ha, C, upd_same, clsV_all, e, f _ _ Γ _ _ hk S1 (DR.bl b) (paint_fr hp)⟩
theorem bt_str : bootBuiltins "str" = some (.type "str") := by decide +kernel
/-- str(int) -/
def rStrI : List V → Hp → VK → Prop := fun xs H Q => ∃ i, xs = [.int i] ∧ i.natAbs.log2 < 1920 ∧ Q (.str (toString i)) H
theorem c_strI {X : Cx} : CallR X (.type "str") rStrI := call_str_int
theorem ck_strI {i : Int} (h : i.natAbs.log2 < 1920) (hk : k (dat (.str (toString i))) Γ) : CbK rStrI [.int i] k Γ := ck_of (q := dP (.str (toString i))) (fun A H vs s h' Q f => by
  cases h' with | cons a b =>
  cases b
  cases DR.int_inv a
  exact ⟨i, rfl, h, f _ (DR.str _)⟩) hk
end
/-- a def that is never called -/
def tVoid : TS := fun _ _ _ => False
theorem pss_void {X : Cx} {st : List Stmt} : PSs X st tVoid := ⟨fun _ _ _ _ _ _ h => h.elim⟩
end G

/-! ### x.m(..), which may raise, as a statement -/
namespace G
open PySem L2
theorem wsx_meth {P : Nat → Bool} {Γ : Ga} {D : Pe} {tr : TA} {n : Nat} {F : Fw} {C : Addr} {m : Str} {Ex : XK} {kx : Value → Ga → Prop} {i : Nat} {ds : List (Str × PyData)} (h : Γ[i]? = some (some (per (objP C ds)))) (nm : lookD m ds = none)
    (ha : WA tr Γ fun as Γ1 => Γ1[i]? = some (some (per (objP C ds))) ∧ as.length + 1 = n ∧ slots as = [] ∧ F (per (objP C ds) :: (qsOf as).map per) (fun _ _ => D.nx Γ1) fun cl _ => kx cl Γ1) :
    WSX P (tDrop (tMeth C m (SpG n F) [] Ex (tVar i) tr)) Ex Γ D kx := fun ω σ H S x E me => by
  obtain ⟨v, e, hp⟩ := S.2 i _ h
  obtain ⟨a, dx, fs, rfl, hA, hf⟩ := id hp
  refine ⟨_, e, a, dx, fs, rfl, vw_H hA, Fds.none hf nm, ha ω σ H S _ fun vs as Γ1 ω1 H1 ⟨h1, hn, hs, hF⟩ S1 ax f1 => ?_⟩
  obtain ⟨v1, e1, hp1⟩ := S1.2 i _ h1
  rw [e] at e1
  cases e1
  obtain ⟨l1, l2, l3⟩ := args_q hs ax
  rw [List.append_nil]
  refine call_per (qs := objP C ds :: qsOf as) (k := fun _ Γ' => D.nx Γ') (kx := fun cl => kx cl Γ1) S1 (fun j q v h3 h4 => ?_) (by simp [l1]) (by simp [l1, ← l2, hn]) hF (fun v g ω' H' hk S' p f2 => me.nx Γ1 ω' σ H' hk S' (f1.trans f2) Pin.refl) fun cl ω' H' hx S' f2 => x cl Γ1 ω' σ H' hx S' (f1.trans f2) Pin.refl
  match j, h3, h4 with
  | 0, h3, h4 =>
    cases h3
    cases h4
    exact hp1
  | j + 1, h3, h4 => exact l3 j q v (by simpa using h3) (by simpa using h4)
end G

namespace G
open PySem L2
local macro_rules | `(tactic| walk_at "g1") => `(tactic| first
  | (with_reducible show WE _ _ _; with_reducible first | refine we_var (by with_unfolding_all exact rfl) ?_ | (show WE (tOp _ _ _) _ _; first | refine we_ixS (by with_unfolding_all exact rfl) ?_ | refine we_ixScr (by with_unfolding_all exact rfl) ?_ | refine we_inS (by with_unfolding_all exact rfl) ?_ | refine we_notInS (by with_unfolding_all exact rfl) ?_ | refine we_eqS (by with_unfolding_all exact rfl) ?_ | refine we_neS (by with_unfolding_all exact rfl) ?_ | refine we_opK ?_) | (show WE (tCB _ _) _ _; first | refine we_lenS' (by with_unfolding_all exact rfl) ?_ | refine we_lenScr (by with_unfolding_all exact rfl) ?_ | refine we_cbK ?_) | refine we_int ?_ | refine we_bl ?_ | refine we_non ?_ | refine we_str ?_ | refine we_neg ?_ | refine we_not ?_ | refine we_and ?_ | refine we_or ?_ | refine we_if ?_ | refine we_tup ?_ | refine we_lst ?_ | refine we_call ?_ | refine we_mt (by with_unfolding_all exact rfl) ?_)
  | (with_reducible show WS _ _ _ _; with_reducible first | refine ws_seqA ?_ | refine ws_seqD ?_ | refine ws_asg (by with_unfolding_all exact rfl) ?_ | refine ws_asgG ?_ | refine ws_if ?_ | refine ws_ret ?_ | refine ws_drop ?_ | refine ws_next ?_ | refine ws_retN ?_)
  | (with_reducible show WT _ _ _; with_reducible first | refine wt_test ?_ | refine wt_B ?_ | refine wt_not ?_ | refine wt_and ?_ | refine wt_or ?_ | refine wt_yes ?_)
  | (with_reducible show WA _ _ _; with_reducible first | refine wa_nil ?_ | refine wa_cons (wq_of (we_var (by with_unfolding_all exact rfl) ?_)) | refine wa_slotU (by with_unfolding_all exact rfl) ?_ | refine wa_cons ?_)
  | (with_reducible show OpK _ _ _ _ _; with_reducible first | refine ok_plusI ?_ | refine ok_sub ?_ | refine ok_lt ?_ | refine ok_le ?_ | refine ok_gt ?_ | refine ok_ge ?_ | refine ok_eqI ?_ | refine ok_neI ?_ | refine ok_mod (by first | assumption | decide | omega) ?_ | refine ok_ixL (by with_unfolding_all exact rfl) ?_)
  | (with_reducible show CbK _ _ _ _; with_reducible first | refine ck_lenL ?_ | refine ck_lenT ?_ | refine ck_int ?_ | refine ck_intB ?_ | refine ck_max ?_ | refine ck_min ?_ | refine ck_list ?_)
  | with_reducible refine wq_of ?_
  | (with_reducible show WG _ _ _ _ _; with_reducible first | refine wg_name (by with_unfolding_all exact rfl) ?_ | refine wg_tup (by with_unfolding_all exact rfl) ?_ | refine wg_set (by with_unfolding_all exact rfl) ?_)
  | (with_reducible show WGs _ _ _ _ _; with_reducible first | refine wgs_cons ?_ | refine wgs_nil ?_)
  | with_reducible refine iteT ?_
  | with_reducible refine iteF ?_
  | with_reducible refine ⟨_, frz_per, ?_⟩
  | with_reducible refine ⟨_, frz_own, ?_⟩
  | refine ⟨_, rfl, ?_⟩
  | refine ⟨_, argD1, ?_⟩
  | refine ⟨_, argD2, ?_⟩
  | refine ⟨_, argD0, ?_⟩
  | refine ⟨_, argD3, ?_⟩
  | refine ⟨_, argD4, ?_⟩
  | refine ⟨_, _, rfl, rfl, rfl, ?_⟩
  | refine ⟨_, _, _, rfl, rfl, rfl, ?_⟩
  | refine ⟨(by simp only [List.length_cons, List.length_nil]; decide), ?_⟩
  | refine ⟨rfl, nd1, ?_⟩
  | refine ⟨rfl, nd0, ?_⟩)
local macro_rules | `(tactic| walk_at "go") => `(tactic| repeat walk_at "g1")
local macro_rules | `(tactic| walk_at "g2") => `(tactic| first
  | (with_reducible show WE _ _ _; with_reducible first | refine we_var (by with_unfolding_all exact rfl) ?_ | (show WE (tOp _ _ _) _ _; first | refine we_notN ?_ | refine we_ixS (by with_unfolding_all exact rfl) ?_ | refine we_ixScr (by with_unfolding_all exact rfl) ?_ | refine we_inS (by with_unfolding_all exact rfl) ?_ | refine we_notInS (by with_unfolding_all exact rfl) ?_ | refine we_eqS (by with_unfolding_all exact rfl) ?_ | refine we_neS (by with_unfolding_all exact rfl) ?_ | refine we_opK ?_) | (show WE (tCB _ _) _ _; first | refine we_isInt ?_ | refine we_isBl ?_ | refine we_isLst ?_ | refine we_isTup ?_ | refine we_lenO (by with_unfolding_all exact rfl) ?_ | refine we_lenS' (by with_unfolding_all exact rfl) ?_ | refine we_lenScr (by with_unfolding_all exact rfl) ?_ | refine we_cbK ?_) | refine we_chain ?_ | refine we_slice ?_ | refine we_int ?_ | refine we_bl ?_ | refine we_non ?_ | refine we_str ?_ | refine we_neg ?_ | refine we_not ?_ | refine we_and ?_ | refine we_or ?_ | refine we_if ?_ | refine we_tup ?_ | refine we_lst ?_ | refine we_call ?_ | refine we_mt (by with_unfolding_all exact rfl) ?_)
  | (with_reducible show WS _ _ _ _; with_reducible first | refine ws_seqA ?_ | refine ws_seqD ?_ | refine ws_asg (by with_unfolding_all exact rfl) ?_ | refine ws_asgG ?_ | refine ws_if ?_ | refine ws_ret ?_ | refine ws_drop ?_ | refine ws_next ?_ | refine ws_retN ?_)
  | (with_reducible show WT _ _ _; with_reducible first | refine wt_test ?_ | refine wt_B ?_ | refine wt_not ?_ | refine wt_and ?_ | refine wt_or ?_ | refine wt_yes ?_)
  | (with_reducible show WA _ _ _; with_reducible first | refine wa_nil ?_ | refine wa_cons (wq_of (we_var (by with_unfolding_all exact rfl) ?_)) | refine wa_slotU (by with_unfolding_all exact rfl) ?_ | refine wa_cons ?_)
  | (with_reducible show OpK _ _ _ _ _; with_reducible first | refine ok_isB ?_ | refine ok_notB ?_ | refine ok_plusI ?_ | refine ok_sub ?_ | refine ok_lt ?_ | refine ok_le ?_ | refine ok_gt ?_ | refine ok_ge ?_ | refine ok_eqI ?_ | refine ok_neI ?_ | refine ok_mod (by first | assumption | decide | omega) ?_ | refine ok_ixL (by with_unfolding_all exact rfl) ?_)
  | (with_reducible show CbK _ _ _ _; with_reducible first | refine ck_lenL ?_ | refine ck_lenT ?_ | refine ck_int ?_ | refine ck_intB ?_ | refine ck_max ?_ | refine ck_min ?_ | refine ck_list ?_)
  | with_reducible refine wq_of ?_
  | (with_reducible show WG _ _ _ _ _; with_reducible first | refine wg_name (by with_unfolding_all exact rfl) ?_ | refine wg_tup (by with_unfolding_all exact rfl) ?_ | refine wg_set (by with_unfolding_all exact rfl) ?_)
  | (with_reducible show WGs _ _ _ _ _; with_reducible first | refine wgs_cons ?_ | refine wgs_nil ?_)
  | (with_reducible show WO _ _ _; with_reducible first | refine wo_some ?_ | refine wo_none ?_)
  | refine ⟨_, argD5, ?_⟩
  | refine ⟨_, argD6, ?_⟩
  | refine ⟨_, argD7, ?_⟩
  | refine ⟨_, argD9, ?_⟩
  | with_reducible refine iteT ?_
  | with_reducible refine iteF ?_
  | with_reducible refine ⟨_, frz_per, ?_⟩
  | with_reducible refine ⟨_, frz_own, ?_⟩
  | refine ⟨_, rfl, ?_⟩
  | refine ⟨_, argD1, ?_⟩
  | refine ⟨_, argD2, ?_⟩
  | refine ⟨_, argD0, ?_⟩
  | refine ⟨_, argD3, ?_⟩
  | refine ⟨_, argD4, ?_⟩
  | refine ⟨_, _, rfl, rfl, rfl, ?_⟩
  | refine ⟨_, _, _, rfl, rfl, rfl, ?_⟩
  | refine ⟨(by simp only [List.length_cons, List.length_nil]; decide), ?_⟩
  | refine ⟨rfl, nd1, ?_⟩
  | refine ⟨rfl, nd0, ?_⟩)
local macro_rules | `(tactic| walk_at "w") => `(tactic| first
  | (with_reducible show WE _ _ _; with_reducible first | refine we_var (by with_unfolding_all exact rfl) ?_ | refine we_varF (by with_unfolding_all exact rfl) frz_own ?_ | (show WE (tOp _ _ _) _ _; first | refine we_isNd ?_ | refine we_notNd ?_ | refine we_notN ?_ | refine we_ixS (by with_unfolding_all exact rfl) ?_ | refine we_ixScr (by with_unfolding_all exact rfl) ?_ | refine we_inS (by with_unfolding_all exact rfl) ?_ | refine we_notInS (by with_unfolding_all exact rfl) ?_ | refine we_eqS (by with_unfolding_all exact rfl) ?_ | refine we_neS (by with_unfolding_all exact rfl) ?_ | refine we_opK ?_) | (show WE (tCB _ _) _ _; first | refine we_repr ?_ | refine we_isInt ?_ | refine we_isBl ?_ | refine we_isLst ?_ | refine we_isTup ?_ | refine we_lenO (by with_unfolding_all exact rfl) ?_ | refine we_lenS' (by with_unfolding_all exact rfl) ?_ | refine we_lenScr (by with_unfolding_all exact rfl) ?_ | refine we_cbK ?_) | refine we_dnew ?_ | refine we_lenSetI ?_ | refine we_revL ?_ | refine we_chain ?_ | refine we_slice ?_ | refine we_int ?_ | refine we_bl ?_ | refine we_non ?_ | refine we_str ?_ | refine we_neg ?_ | refine we_not ?_ | refine we_and ?_ | refine we_or ?_ | refine we_if ?_ | refine we_tup ?_ | refine we_lst ?_ | refine we_call ?_ | refine we_mt (by with_unfolding_all exact rfl) ?_)
  | (with_reducible show WS _ _ _ _; with_reducible first | refine ws_seqI ?_ | refine ws_seqA ?_ | refine ws_seqD ?_ | refine ws_asg (by with_unfolding_all exact rfl) ?_ | refine ws_asgG ?_ | refine ws_if ?_ | refine ws_ret ?_ | refine ws_drop ?_ | refine ws_next ?_ | refine ws_retN ?_)
  | (with_reducible show WT _ _ _; with_reducible first | refine wt_truL ?_ | refine wt_test ?_ | refine wt_B ?_ | refine wt_not ?_ | refine wt_and ?_ | refine wt_or ?_ | refine wt_yes ?_)
  | (with_reducible show WA _ _ _; with_reducible first | refine wa_nil ?_ | refine wa_cons (wq_of (we_var (by with_unfolding_all exact rfl) ?_)) | refine wa_slotU (by with_unfolding_all exact rfl) ?_ | refine wa_cons ?_)
  | (with_reducible show OpK _ _ _ _ _; with_reducible first | refine ok_neR ?_ | refine ok_eqR ?_ | refine ok_isB ?_ | refine ok_notB ?_ | refine ok_plusI ?_ | refine ok_sub ?_ | refine ok_lt ?_ | refine ok_le ?_ | refine ok_gt ?_ | refine ok_ge ?_ | refine ok_eqI ?_ | refine ok_neI ?_ | refine ok_mod (by first | assumption | decide | omega) ?_ | refine ok_ixL (by with_unfolding_all exact rfl) ?_)
  | (with_reducible show CbK _ _ _ _; with_reducible first | refine ck_tuple ?_ | refine ck_allF ?_ | refine ck_anyF ?_ | refine ck_abs ?_ | refine ck_sumI ?_ | refine ck_lenL ?_ | refine ck_lenT ?_ | refine ck_int ?_ | refine ck_intB ?_ | refine ck_max ?_ | refine ck_min ?_ | refine ck_list ?_)
  | with_reducible refine wq_of ?_
  | (with_reducible show WG _ _ _ _ _; with_reducible first | refine wg_name (by with_unfolding_all exact rfl) ?_ | refine wg_tup (by with_unfolding_all exact rfl) ?_ | refine wg_set (by with_unfolding_all exact rfl) ?_)
  | (with_reducible show WGs _ _ _ _ _; with_reducible first | refine wgs_cons ?_ | refine wgs_nil ?_)
  | (with_reducible show WO _ _ _; with_reducible first | refine wo_some ?_ | refine wo_none ?_)
  | refine ⟨_, argD5, ?_⟩
  | refine ⟨_, argD6, ?_⟩
  | refine ⟨_, argD7, ?_⟩
  | refine ⟨_, argD9, ?_⟩
  | with_reducible refine iteT ?_
  | with_reducible refine iteF ?_
  | with_reducible refine ⟨_, frz_per, ?_⟩
  | with_reducible refine ⟨_, frz_own, ?_⟩
  | refine ⟨_, rfl, ?_⟩
  | refine ⟨_, argD1, ?_⟩
  | refine ⟨_, argD2, ?_⟩
  | refine ⟨_, argD0, ?_⟩
  | refine ⟨_, argD3, ?_⟩
  | refine ⟨_, argD4, ?_⟩
  | refine ⟨_, _, rfl, rfl, rfl, ?_⟩
  | refine ⟨_, _, _, rfl, rfl, rfl, ?_⟩
  | refine ⟨(by simp only [List.length_cons, List.length_nil]; decide), ?_⟩
  | refine ⟨rfl, nd1, ?_⟩
  | refine ⟨rfl, nd0, ?_⟩
  | refine ⟨_, argD8, ?_⟩
  | refine ⟨_, argD10, ?_⟩)
/-! ### a value that may be a web: is it a count, its neighbours -/
/-- what is no place -/
def BadV (n : Nat) (a : Ad) (q : Per) : Prop := (∃ d, q = dP d ∧ placeB n d = false) ∨ ∃ ds, q = objP a.C_Web ds
abbrev t_is_count2_0 (K : PySem.W.Frag) (a : Ad) : TS :=
  (tRet (tAndV (tCB (rIsiA K) (tCons (tVar 0) (tCons (tC (.ty "int")) tNil))) (tAndV (tNotV (tCB (rIsiA K) (tCons (tVar 0) (tCons (tC (.ty "bool")) tNil)))) (tOp (rGeI) (tVar 0) (tC (.int 0))))))
def t_is_count2 (K : PySem.W.Frag) (a : Ad) : TS :=
  (t_is_count2_0 K a)
abbrev N_is_count2 : List Str := ["value"]
abbrev F_is_count2 (a : Ad) : Fw := fun gs kk _ => (∃ d, gs = [dat d] ∧ kk (dat (.bool (cntD d))) [none]) ∨ ∃ ds, gs = [per (objP a.C_Web ds)] ∧ kk (dat (.bool false)) [none]
abbrev sp_is_count2 (K : PySem.W.Frag) (a : Ad) : Sp := SpG 1 (F_is_count2 a)
theorem pure_is_count2 {K : PySem.W.Frag} {a : Ad} (c : Clf K a) (wi : PySem.W.kitOne K (.ref a.C_Web) (.type "int") = some false) {vs : List V} {H : Hp} {Q : VK} {E : XK} (h : sp_is_count2 K a vs H Q E) : t_is_count2 K a { nx := fun _ H' => Q .non H', rt := Q } (start N_is_count2 vs) H := by
  refine body_ok (fun _ => false) ?_ h
  rintro gs kk xx (⟨d, rfl, hk⟩ | ⟨ds, rfl, hk⟩) -
  · unfold t_is_count2
    repeat walk_at "w"
    have out : ∀ {b : Bool}, cntD d = b → ∃ g' Γp, Ent (dat (.bool b)) g' ∧ Les (mask (fun _ => false) 1 (List.map some [dat d] ++ List.replicate (N_is_count2.length - 1) none)) Γp ∧ kk g' Γp := fun {b} e => ⟨_, [none], Ent.refl, les_none les_nil, e ▸ hk⟩
    refine ite_b (fun e => ?_) fun e => out (by cases d <;> first | rfl | exact Bool.noConfusion e)
    repeat walk_at "w"
    refine ite_b (fun e2 => ?_) fun e2 => out (by cases d <;> first | rfl | exact Bool.noConfusion e | exact Bool.noConfusion e2)
    cases d with
    | int n =>
      repeat walk_at "w"
      exact out rfl
    | bool b => exact Bool.noConfusion e2
    | none => exact Bool.noConfusion e
    | str s => exact Bool.noConfusion e
    | list s => exact Bool.noConfusion e
    | tuple s => exact Bool.noConfusion e
    | dict s => exact Bool.noConfusion e
  · unfold t_is_count2
    refine ws_ret (we_and (wq_of (we_isiO c.ins (wq_of (we_var rfl ⟨_, frz_per, ds, rfl, false, wi, _, frz_per, _, rfl, ?_⟩)))))
    exact iteF ⟨_, [none], Ent.refl, les_none les_nil, hk⟩
abbrev t_Web_neighbours2_0 (K : PySem.W.Frag) (a : Ad) (E : XK) : TS :=
  (tSeq (tIfS (tOr (tNot (tB (tCall (sp_is_count2 K a) [] E0 (tCons (tVar 1) tNil)))) (tTest (tOp (rGeI) (tVar 1) (tCB (rLenA K) (tCons (tFld K (tVar 0) "_near") tNil))))) (tRaise E (.ref a.C_InvalidPlace)) tNext)
    (tRet (tCB (rListOf K) (tCons (tOp (rIx K) (tFld K (tVar 0) "_near") (tVar 1)) tNil))))
def t_Web_neighbours2 (K : PySem.W.Frag) (a : Ad) (E : XK) : TS :=
  (t_Web_neighbours2_0 K a E)
abbrev N_Web_neighbours2 : List Str := ["self", "place"]
abbrev F_Web_neighbours2 (a : Ad) : Fw := fun gs kk xx => ∃ (n : Nat) (ts : List (Int × Int)) (q : Per), gs = [per (objP a.C_Web (webF n ts)), per q] ∧ n < 100000 ∧ Valid n ts ∧
  ((∃ w : Nat, q = dP (.int w) ∧ w < n ∧ kk (own ((nb ts w).map .int)) [none, none]) ∨ (BadV n a q ∧ xx (.ref a.C_InvalidPlace) [none, none]))
abbrev sp_Web_neighbours2 (K : PySem.W.Frag) (a : Ad) : Sp := SpG 2 (F_Web_neighbours2 a)
theorem pure_Web_neighbours2 {K : PySem.W.Frag} {a : Ad} (c : Clf K a) {vs : List V} {H : Hp} {Q : VK} {E : XK} (h : sp_Web_neighbours2 K a vs H Q E) : t_Web_neighbours2 K a E { nx := fun _ H' => Q .non H', rt := Q } (start N_Web_neighbours2 vs) H := by
  refine body_okX (fun _ => false) ?_ h
  rintro gs kk xx ⟨n, ts, q, rfl, hn, hv, hq⟩ -
  unfold t_Web_neighbours2
  show WSX _ _ _ [some (per (objP a.C_Web (webF n ts))), some (per q)] _ _
  have hnl : ((nearL n ts).map PyData.list).length = n := by rw [List.length_map, nearL_len]
  have hnr : (nearL n ts).map PyData.list = (nearC n ts).map rowI := by
    rw [nearL_eq ts hv]
    unfold rowsD rowI
    rw [List.map_map]
    rfl
  refine wsx_seq (wsx_if (wt_or (wt_not (wt_B (wq_of ?_)))))
  rcases hq with ⟨w, rfl, hw, hk⟩ | ⟨⟨d, rfl, hb⟩ | ⟨ds, rfl⟩, hx⟩
  · refine we_call (wa_cons (wq_of (we_var rfl ⟨_, frz_per, wa_nil ⟨rfl, nd0, .inl ⟨.int (w : Int), rfl, _, frz_per, _, rfl, ?_⟩⟩⟩)))
    rw [show cntD (.int (w : Int)) = true from (decide_eq_true (Int.natCast_nonneg w) : decide (0 ≤ (w : Int)) = true)]
    refine iteF ?_
    repeat walk_at "w"
    refine we_fldP c.cl_Web c.nN rfl webF_near ?_
    repeat walk_at "w"
    rw [hnl]
    refine ite_dec (fun h => by omega) fun h => ?_
    refine wsx_of (ws_next (wsx_of ?_))
    repeat walk_at "w"
    refine we_fldP c.cl_Web c.nN rfl webF_near ?_
    repeat walk_at "w"
    rw [hnr]
    refine ok_ixL (atI_in (by omega) (d := .list ((nb ts w).map .int)) (by rw [List.getElem?_map, Int.toNat_natCast, nearC_at (by omega)]; rfl)) ?_
    repeat walk_at "w"
    exact ⟨_, [none, none], Ent.refl, les_none (les_none les_nil), hk⟩
  · refine we_call (wa_cons (wq_of (we_var rfl ⟨_, frz_per, wa_nil ⟨rfl, nd0, .inl ⟨d, rfl, _, frz_per, _, rfl, ?_⟩⟩⟩)))
    cases hc : cntD d with
    | false => exact iteT (iteT (wsx_raise ⟨[none, none], les_none (les_none les_nil), hx⟩))
    | true =>
      obtain ⟨w, rfl⟩ : ∃ w : Nat, d = .int w := by
        cases d <;> first | exact Bool.noConfusion hc | skip
        rename_i i
        exact ⟨i.toNat, by rw [Int.toNat_of_nonneg (of_decide_eq_true hc)]⟩
      have hw : ¬ w < n := fun h => by
        have : (decide (0 ≤ (w : Int)) && decide ((w : Int) < n)) = false := hb
        rw [decide_eq_true (by omega : 0 ≤ (w : Int)), decide_eq_true (by omega : (w : Int) < n)] at this
        cases this
      refine iteF ?_
      repeat walk_at "w"
      refine we_fldP c.cl_Web c.nN rfl webF_near ?_
      repeat walk_at "w"
      rw [hnl]
      refine ite_dec (fun h => ?_) fun h => by omega
      exact wsx_raise ⟨[none, none], les_none (les_none les_nil), hx⟩
  · refine we_call (wa_cons (wq_of (we_var rfl ⟨_, frz_per, wa_nil ⟨rfl, nd0, .inr ⟨ds, rfl, _, frz_per, _, rfl, ?_⟩⟩⟩)))
    exact iteT (iteT (wsx_raise ⟨[none, none], les_none (les_none les_nil), hx⟩))
end G

namespace G
open PySem L2
local macro_rules | `(tactic| walk_at "g1") => `(tactic| first
  | (with_reducible show WE _ _ _; with_reducible first | refine we_var (by with_unfolding_all exact rfl) ?_ | (show WE (tOp _ _ _) _ _; first | refine we_ixS (by with_unfolding_all exact rfl) ?_ | refine we_ixScr (by with_unfolding_all exact rfl) ?_ | refine we_inS (by with_unfolding_all exact rfl) ?_ | refine we_notInS (by with_unfolding_all exact rfl) ?_ | refine we_eqS (by with_unfolding_all exact rfl) ?_ | refine we_neS (by with_unfolding_all exact rfl) ?_ | refine we_opK ?_) | (show WE (tCB _ _) _ _; first | refine we_lenS' (by with_unfolding_all exact rfl) ?_ | refine we_lenScr (by with_unfolding_all exact rfl) ?_ | refine we_cbK ?_) | refine we_int ?_ | refine we_bl ?_ | refine we_non ?_ | refine we_str ?_ | refine we_neg ?_ | refine we_not ?_ | refine we_and ?_ | refine we_or ?_ | refine we_if ?_ | refine we_tup ?_ | refine we_lst ?_ | refine we_call ?_ | refine we_mt (by with_unfolding_all exact rfl) ?_)
  | (with_reducible show WS _ _ _ _; with_reducible first | refine ws_seqA ?_ | refine ws_seqD ?_ | refine ws_asg (by with_unfolding_all exact rfl) ?_ | refine ws_asgG ?_ | refine ws_if ?_ | refine ws_ret ?_ | refine ws_drop ?_ | refine ws_next ?_ | refine ws_retN ?_)
  | (with_reducible show WT _ _ _; with_reducible first | refine wt_test ?_ | refine wt_B ?_ | refine wt_not ?_ | refine wt_and ?_ | refine wt_or ?_ | refine wt_yes ?_)
  | (with_reducible show WA _ _ _; with_reducible first | refine wa_nil ?_ | refine wa_cons (wq_of (we_var (by with_unfolding_all exact rfl) ?_)) | refine wa_slotU (by with_unfolding_all exact rfl) ?_ | refine wa_cons ?_)
  | (with_reducible show OpK _ _ _ _ _; with_reducible first | refine ok_plusI ?_ | refine ok_sub ?_ | refine ok_lt ?_ | refine ok_le ?_ | refine ok_gt ?_ | refine ok_ge ?_ | refine ok_eqI ?_ | refine ok_neI ?_ | refine ok_mod (by first | assumption | decide | omega) ?_ | refine ok_ixL (by with_unfolding_all exact rfl) ?_)
  | (with_reducible show CbK _ _ _ _; with_reducible first | refine ck_lenL ?_ | refine ck_lenT ?_ | refine ck_int ?_ | refine ck_intB ?_ | refine ck_max ?_ | refine ck_min ?_ | refine ck_list ?_)
  | with_reducible refine wq_of ?_
  | (with_reducible show WG _ _ _ _ _; with_reducible first | refine wg_name (by with_unfolding_all exact rfl) ?_ | refine wg_tup (by with_unfolding_all exact rfl) ?_ | refine wg_set (by with_unfolding_all exact rfl) ?_)
  | (with_reducible show WGs _ _ _ _ _; with_reducible first | refine wgs_cons ?_ | refine wgs_nil ?_)
  | with_reducible refine iteT ?_
  | with_reducible refine iteF ?_
  | with_reducible refine ⟨_, frz_per, ?_⟩
  | with_reducible refine ⟨_, frz_own, ?_⟩
  | refine ⟨_, rfl, ?_⟩
  | refine ⟨_, argD1, ?_⟩
  | refine ⟨_, argD2, ?_⟩
  | refine ⟨_, argD0, ?_⟩
  | refine ⟨_, argD3, ?_⟩
  | refine ⟨_, argD4, ?_⟩
  | refine ⟨_, _, rfl, rfl, rfl, ?_⟩
  | refine ⟨_, _, _, rfl, rfl, rfl, ?_⟩
  | refine ⟨(by simp only [List.length_cons, List.length_nil]; decide), ?_⟩
  | refine ⟨rfl, nd1, ?_⟩
  | refine ⟨rfl, nd0, ?_⟩)
local macro_rules | `(tactic| walk_at "go") => `(tactic| repeat walk_at "g1")
local macro_rules | `(tactic| walk_at "g2") => `(tactic| first
  | (with_reducible show WE _ _ _; with_reducible first | refine we_var (by with_unfolding_all exact rfl) ?_ | (show WE (tOp _ _ _) _ _; first | refine we_notN ?_ | refine we_ixS (by with_unfolding_all exact rfl) ?_ | refine we_ixScr (by with_unfolding_all exact rfl) ?_ | refine we_inS (by with_unfolding_all exact rfl) ?_ | refine we_notInS (by with_unfolding_all exact rfl) ?_ | refine we_eqS (by with_unfolding_all exact rfl) ?_ | refine we_neS (by with_unfolding_all exact rfl) ?_ | refine we_opK ?_) | (show WE (tCB _ _) _ _; first | refine we_isInt ?_ | refine we_isBl ?_ | refine we_isLst ?_ | refine we_isTup ?_ | refine we_lenO (by with_unfolding_all exact rfl) ?_ | refine we_lenS' (by with_unfolding_all exact rfl) ?_ | refine we_lenScr (by with_unfolding_all exact rfl) ?_ | refine we_cbK ?_) | refine we_chain ?_ | refine we_slice ?_ | refine we_int ?_ | refine we_bl ?_ | refine we_non ?_ | refine we_str ?_ | refine we_neg ?_ | refine we_not ?_ | refine we_and ?_ | refine we_or ?_ | refine we_if ?_ | refine we_tup ?_ | refine we_lst ?_ | refine we_call ?_ | refine we_mt (by with_unfolding_all exact rfl) ?_)
  | (with_reducible show WS _ _ _ _; with_reducible first | refine ws_seqA ?_ | refine ws_seqD ?_ | refine ws_asg (by with_unfolding_all exact rfl) ?_ | refine ws_asgG ?_ | refine ws_if ?_ | refine ws_ret ?_ | refine ws_drop ?_ | refine ws_next ?_ | refine ws_retN ?_)
  | (with_reducible show WT _ _ _; with_reducible first | refine wt_test ?_ | refine wt_B ?_ | refine wt_not ?_ | refine wt_and ?_ | refine wt_or ?_ | refine wt_yes ?_)
  | (with_reducible show WA _ _ _; with_reducible first | refine wa_nil ?_ | refine wa_cons (wq_of (we_var (by with_unfolding_all exact rfl) ?_)) | refine wa_slotU (by with_unfolding_all exact rfl) ?_ | refine wa_cons ?_)
  | (with_reducible show OpK _ _ _ _ _; with_reducible first | refine ok_isB ?_ | refine ok_notB ?_ | refine ok_plusI ?_ | refine ok_sub ?_ | refine ok_lt ?_ | refine ok_le ?_ | refine ok_gt ?_ | refine ok_ge ?_ | refine ok_eqI ?_ | refine ok_neI ?_ | refine ok_mod (by first | assumption | decide | omega) ?_ | refine ok_ixL (by with_unfolding_all exact rfl) ?_)
  | (with_reducible show CbK _ _ _ _; with_reducible first | refine ck_lenL ?_ | refine ck_lenT ?_ | refine ck_int ?_ | refine ck_intB ?_ | refine ck_max ?_ | refine ck_min ?_ | refine ck_list ?_)
  | with_reducible refine wq_of ?_
  | (with_reducible show WG _ _ _ _ _; with_reducible first | refine wg_name (by with_unfolding_all exact rfl) ?_ | refine wg_tup (by with_unfolding_all exact rfl) ?_ | refine wg_set (by with_unfolding_all exact rfl) ?_)
  | (with_reducible show WGs _ _ _ _ _; with_reducible first | refine wgs_cons ?_ | refine wgs_nil ?_)
  | (with_reducible show WO _ _ _; with_reducible first | refine wo_some ?_ | refine wo_none ?_)
  | refine ⟨_, argD5, ?_⟩
  | refine ⟨_, argD6, ?_⟩
  | refine ⟨_, argD7, ?_⟩
  | refine ⟨_, argD9, ?_⟩
  | with_reducible refine iteT ?_
  | with_reducible refine iteF ?_
  | with_reducible refine ⟨_, frz_per, ?_⟩
  | with_reducible refine ⟨_, frz_own, ?_⟩
  | refine ⟨_, rfl, ?_⟩
  | refine ⟨_, argD1, ?_⟩
  | refine ⟨_, argD2, ?_⟩
  | refine ⟨_, argD0, ?_⟩
  | refine ⟨_, argD3, ?_⟩
  | refine ⟨_, argD4, ?_⟩
  | refine ⟨_, _, rfl, rfl, rfl, ?_⟩
  | refine ⟨_, _, _, rfl, rfl, rfl, ?_⟩
  | refine ⟨(by simp only [List.length_cons, List.length_nil]; decide), ?_⟩
  | refine ⟨rfl, nd1, ?_⟩
  | refine ⟨rfl, nd0, ?_⟩)
local macro_rules | `(tactic| walk_at "w") => `(tactic| first
  | (with_reducible show WE _ _ _; with_reducible first | refine we_var (by with_unfolding_all exact rfl) ?_ | refine we_varF (by with_unfolding_all exact rfl) frz_own ?_ | (show WE (tOp _ _ _) _ _; first | refine we_isNd ?_ | refine we_notNd ?_ | refine we_notN ?_ | refine we_ixS (by with_unfolding_all exact rfl) ?_ | refine we_ixScr (by with_unfolding_all exact rfl) ?_ | refine we_inS (by with_unfolding_all exact rfl) ?_ | refine we_notInS (by with_unfolding_all exact rfl) ?_ | refine we_eqS (by with_unfolding_all exact rfl) ?_ | refine we_neS (by with_unfolding_all exact rfl) ?_ | refine we_opK ?_) | (show WE (tCB _ _) _ _; first | refine we_repr ?_ | refine we_isInt ?_ | refine we_isBl ?_ | refine we_isLst ?_ | refine we_isTup ?_ | refine we_lenO (by with_unfolding_all exact rfl) ?_ | refine we_lenS' (by with_unfolding_all exact rfl) ?_ | refine we_lenScr (by with_unfolding_all exact rfl) ?_ | refine we_cbK ?_) | refine we_dnew ?_ | refine we_lenSetI ?_ | refine we_revL ?_ | refine we_chain ?_ | refine we_slice ?_ | refine we_int ?_ | refine we_bl ?_ | refine we_non ?_ | refine we_str ?_ | refine we_neg ?_ | refine we_not ?_ | refine we_and ?_ | refine we_or ?_ | refine we_if ?_ | refine we_tup ?_ | refine we_lst ?_ | refine we_call ?_ | refine we_mt (by with_unfolding_all exact rfl) ?_)
  | (with_reducible show WS _ _ _ _; with_reducible first | refine ws_seqI ?_ | refine ws_seqA ?_ | refine ws_seqD ?_ | refine ws_asg (by with_unfolding_all exact rfl) ?_ | refine ws_asgG ?_ | refine ws_if ?_ | refine ws_ret ?_ | refine ws_drop ?_ | refine ws_next ?_ | refine ws_retN ?_)
  | (with_reducible show WT _ _ _; with_reducible first | refine wt_truL ?_ | refine wt_test ?_ | refine wt_B ?_ | refine wt_not ?_ | refine wt_and ?_ | refine wt_or ?_ | refine wt_yes ?_)
  | (with_reducible show WA _ _ _; with_reducible first | refine wa_nil ?_ | refine wa_cons (wq_of (we_var (by with_unfolding_all exact rfl) ?_)) | refine wa_slotU (by with_unfolding_all exact rfl) ?_ | refine wa_cons ?_)
  | (with_reducible show OpK _ _ _ _ _; with_reducible first | refine ok_neR ?_ | refine ok_eqR ?_ | refine ok_isB ?_ | refine ok_notB ?_ | refine ok_plusI ?_ | refine ok_sub ?_ | refine ok_lt ?_ | refine ok_le ?_ | refine ok_gt ?_ | refine ok_ge ?_ | refine ok_eqI ?_ | refine ok_neI ?_ | refine ok_mod (by first | assumption | decide | omega) ?_ | refine ok_ixL (by with_unfolding_all exact rfl) ?_)
  | (with_reducible show CbK _ _ _ _; with_reducible first | refine ck_tuple ?_ | refine ck_allF ?_ | refine ck_anyF ?_ | refine ck_abs ?_ | refine ck_sumI ?_ | refine ck_lenL ?_ | refine ck_lenT ?_ | refine ck_int ?_ | refine ck_intB ?_ | refine ck_max ?_ | refine ck_min ?_ | refine ck_list ?_)
  | with_reducible refine wq_of ?_
  | (with_reducible show WG _ _ _ _ _; with_reducible first | refine wg_name (by with_unfolding_all exact rfl) ?_ | refine wg_tup (by with_unfolding_all exact rfl) ?_ | refine wg_set (by with_unfolding_all exact rfl) ?_)
  | (with_reducible show WGs _ _ _ _ _; with_reducible first | refine wgs_cons ?_ | refine wgs_nil ?_)
  | (with_reducible show WO _ _ _; with_reducible first | refine wo_some ?_ | refine wo_none ?_)
  | refine ⟨_, argD5, ?_⟩
  | refine ⟨_, argD6, ?_⟩
  | refine ⟨_, argD7, ?_⟩
  | refine ⟨_, argD9, ?_⟩
  | with_reducible refine iteT ?_
  | with_reducible refine iteF ?_
  | with_reducible refine ⟨_, frz_per, ?_⟩
  | with_reducible refine ⟨_, frz_own, ?_⟩
  | refine ⟨_, rfl, ?_⟩
  | refine ⟨_, argD1, ?_⟩
  | refine ⟨_, argD2, ?_⟩
  | refine ⟨_, argD0, ?_⟩
  | refine ⟨_, argD3, ?_⟩
  | refine ⟨_, argD4, ?_⟩
  | refine ⟨_, _, rfl, rfl, rfl, ?_⟩
  | refine ⟨_, _, _, rfl, rfl, rfl, ?_⟩
  | refine ⟨(by simp only [List.length_cons, List.length_nil]; decide), ?_⟩
  | refine ⟨rfl, nd1, ?_⟩
  | refine ⟨rfl, nd0, ?_⟩
  | refine ⟨_, argD8, ?_⟩
  | refine ⟨_, argD10, ?_⟩)
local macro_rules | `(tactic| walk_at "v") => `(tactic| first
  | (with_reducible show WE _ _ _; with_reducible first | refine we_var (by with_unfolding_all exact rfl) ?_ | refine we_varF (by with_unfolding_all exact rfl) frz_own ?_ | (show WE (tOp _ _ _) _ _; first | refine we_isNd ?_ | refine we_notNd ?_ | refine we_notN ?_ | refine we_ixS (by with_unfolding_all exact rfl) ?_ | refine we_ixScr (by with_unfolding_all exact rfl) ?_ | refine we_inS (by with_unfolding_all exact rfl) ?_ | refine we_notInS (by with_unfolding_all exact rfl) ?_ | refine we_eqS (by with_unfolding_all exact rfl) ?_ | refine we_neS (by with_unfolding_all exact rfl) ?_ | refine we_opK ?_) | (show WE (tCB _ _) _ _; first | refine we_repr ?_ | refine we_lenWeb (by with_unfolding_all exact rfl) (by assumption) ?_ | refine we_isInt ?_ | refine we_isBl ?_ | refine we_isLst ?_ | refine we_isTup ?_ | refine we_lenO (by with_unfolding_all exact rfl) ?_ | refine we_lenS' (by with_unfolding_all exact rfl) ?_ | refine we_lenScr (by with_unfolding_all exact rfl) ?_ | refine we_cbK ?_) | refine we_dnew ?_ | refine we_lenSetI ?_ | refine we_revL ?_ | refine we_nbWeb (by with_unfolding_all exact rfl) (by assumption) (by assumption) ?_ | refine we_tiesWeb (by with_unfolding_all exact rfl) ?_ | refine we_chain ?_ | refine we_slice ?_ | refine we_int ?_ | refine we_bl ?_ | refine we_non ?_ | refine we_str ?_ | refine we_neg ?_ | refine we_not ?_ | refine we_and ?_ | refine we_or ?_ | refine we_if ?_ | refine we_tup ?_ | refine we_lst ?_ | refine we_call ?_ | refine we_mt (by with_unfolding_all exact rfl) ?_)
  | (with_reducible show WS _ _ _ _; with_reducible first | refine ws_seqI ?_ | refine ws_seqA ?_ | refine ws_seqD ?_ | refine ws_asg (by with_unfolding_all exact rfl) ?_ | refine ws_asgG ?_ | refine ws_if ?_ | refine ws_ret ?_ | refine ws_drop ?_ | refine ws_next ?_ | refine ws_retN ?_)
  | (with_reducible show WT _ _ _; with_reducible first | refine wt_truL ?_ | refine wt_test ?_ | refine wt_B ?_ | refine wt_not ?_ | refine wt_and ?_ | refine wt_or ?_ | refine wt_yes ?_)
  | (with_reducible show WA _ _ _; with_reducible first | refine wa_nil ?_ | refine wa_cons (wq_of (we_var (by with_unfolding_all exact rfl) ?_)) | refine wa_slotU (by with_unfolding_all exact rfl) ?_ | refine wa_cons ?_)
  | (with_reducible show OpK _ _ _ _ _; with_reducible first | refine ok_neR ?_ | refine ok_eqR ?_ | refine ok_isB ?_ | refine ok_notB ?_ | refine ok_plusI ?_ | refine ok_sub ?_ | refine ok_lt ?_ | refine ok_le ?_ | refine ok_gt ?_ | refine ok_ge ?_ | refine ok_eqI ?_ | refine ok_neI ?_ | refine ok_mod (by first | assumption | decide | omega) ?_ | refine ok_ixL (by with_unfolding_all exact rfl) ?_)
  | (with_reducible show CbK _ _ _ _; with_reducible first | refine ck_tuple ?_ | refine ck_allF ?_ | refine ck_anyF ?_ | refine ck_abs ?_ | refine ck_sumI ?_ | refine ck_lenL ?_ | refine ck_lenT ?_ | refine ck_int ?_ | refine ck_intB ?_ | refine ck_max ?_ | refine ck_min ?_ | refine ck_list ?_)
  | with_reducible refine wq_of ?_
  | (with_reducible show WG _ _ _ _ _; with_reducible first | refine wg_name (by with_unfolding_all exact rfl) ?_ | refine wg_tup (by with_unfolding_all exact rfl) ?_ | refine wg_set (by with_unfolding_all exact rfl) ?_)
  | (with_reducible show WGs _ _ _ _ _; with_reducible first | refine wgs_cons ?_ | refine wgs_nil ?_)
  | (with_reducible show WO _ _ _; with_reducible first | refine wo_some ?_ | refine wo_none ?_)
  | refine ⟨_, argD5, ?_⟩
  | refine ⟨_, argD6, ?_⟩
  | refine ⟨_, argD7, ?_⟩
  | refine ⟨_, argD9, ?_⟩
  | with_reducible refine iteT ?_
  | with_reducible refine iteF ?_
  | with_reducible refine ⟨_, frz_per, ?_⟩
  | with_reducible refine ⟨_, frz_own, ?_⟩
  | refine ⟨_, rfl, ?_⟩
  | refine ⟨_, argD1, ?_⟩
  | refine ⟨_, argD2, ?_⟩
  | refine ⟨_, argD0, ?_⟩
  | refine ⟨_, argD3, ?_⟩
  | refine ⟨_, argD4, ?_⟩
  | refine ⟨_, _, rfl, rfl, rfl, ?_⟩
  | refine ⟨_, _, _, rfl, rfl, rfl, ?_⟩
  | refine ⟨(by simp only [List.length_cons, List.length_nil]; decide), ?_⟩
  | refine ⟨rfl, nd1, ?_⟩
  | refine ⟨rfl, nd0, ?_⟩
  | refine ⟨_, argD8, ?_⟩
  | refine ⟨_, argD10, ?_⟩)
local macro_rules | `(tactic| walk_at "p") => `(tactic| refine ⟨_, _, rfl, (by omega), (by first | decide | omega), (by first | decide | omega), ?_⟩)
local macro_rules | `(tactic| walk_at "n") => `(tactic| try dsimp only [back, List.set_cons_zero, List.set_cons_succ, List.map_cons, List.map_nil, List.cons_append, List.nil_append])
local macro_rules | `(tactic| walk_at "q") => `(tactic| first | with_reducible refine ws_seqP (ws_par (by with_unfolding_all exact rfl) (by with_unfolding_all exact rfl) ?_) | refine ⟨_, _, rfl, ?_⟩ | walk_at "v")
local macro_rules | `(tactic| walk_at "j") => `(tactic| first
  | (with_reducible show WA _ _ _; with_reducible refine wa_slotJ (by with_unfolding_all exact rfl) ?_)
  | walk_at "v")
/-! ### the parts of a core that are one place each -/
abbrev F_even_ring : Fw := fun _ _ _ => False
abbrev sp_even_ring (K : PySem.W.Frag) : Sp := SpG 2 F_even_ring
def t_even_ring (K : PySem.W.Frag) : TS :=
  tVoid
abbrev N_even_ring : List Str := ["near", "least", "ring"]
theorem pure_even_ring {K : PySem.W.Frag} {vs : List V} {H : Hp} {Q : VK} {E : XK} (h : sp_even_ring K vs H Q E) : t_even_ring K { nx := fun _ H' => Q .non H', rt := Q } (start N_even_ring vs) H := by
  obtain ⟨_, _, _, _, _, hf, _⟩ := h
  exact hf.elim
abbrev F_three_ways : Fw := fun _ _ _ => False
abbrev sp_three_ways (K : PySem.W.Frag) : Sp := SpG 3 F_three_ways
def t_three_ways (K : PySem.W.Frag) : TS :=
  tVoid
abbrev N_three_ways : List Str := ["near", "s", "t", "ways", "between", "many", "first", "way"]
theorem pure_three_ways {K : PySem.W.Frag} {vs : List V} {H : Hp} {Q : VK} {E : XK} (h : sp_three_ways K vs H Q E) : t_three_ways K { nx := fun _ H' => Q .non H', rt := Q } (start N_three_ways vs) H := by
  obtain ⟨_, _, _, _, _, hf, _⟩ := h
  exact hf.elim
abbrev F_walk : Fw := fun _ _ _ => False
def oneD (p : Int) : PyData := .tuple [.str "one", .int p]
abbrev t_form_0 (K : PySem.W.Frag) (a : Ad) (E : XK) : TS :=
  (tRet (tCall (sp_three_ways K) [] E0 (tCons (tVar 2) (tCons (tOp (rIx K) (tVar 3) (tC (.int 0))) (tCons (tOp (rIx K) (tVar 3) (tC (.int 1))) tNil)))))
abbrev t_form_1 (K : PySem.W.Frag) (a : Ad) (E : XK) : TS :=
  (tSeq (tIfS (tTest (tOp (rEqD K) (tLc (iList K (tVar 3)) (gName 4) tYes (tCB (rLenA K) (tCons (tDGet (tVar 2) (tVar 4)) tNil)) [4]) (tLst (tCons (tC (.int 3)) (tCons (tC (.int 3)) tNil))))) (t_form_0 K a E) tNext)
    (tRet (tC .non)))
abbrev t_form_2 (K : PySem.W.Frag) (a : Ad) (E : XK) : TS :=
  (tSeq (tIfS (tNot (tTru K (tVar 3))) (tRet (tCall (sp_even_ring K) [] E0 (tCons (tVar 2) (tCons (tOp (rIx K) (tVar 1) (tC (.int 0))) tNil)))) tNext)
    (t_form_1 K a E))
abbrev t_form_3 (K : PySem.W.Frag) (a : Ad) (E : XK) : TS :=
  (tSeq (tAsg (tLc (iList K (tVar 1)) (gName 4) (tTest (tOp (rGtI) (tCB (rLenA K) (tCons (tDGet (tVar 2) (tVar 4)) tNil)) (tC (.int 2)))) (tVar 4) [4]) (gName 3))
    (t_form_2 K a E))
abbrev t_form_4 (K : PySem.W.Frag) (a : Ad) (E : XK) : TS :=
  (tSeq (tIfS (tTest (tOp (rEqD K) (tCB (rLenA K) (tCons (tVar 1) tNil)) (tC (.int 1)))) (tRet (tTup (tCons (tC (.str "one")) (tCons (tOp (rIx K) (tVar 1) (tC (.int 0))) tNil)))) tNext)
    (tSeq (tAsg (tCall (sp_near_among K a) [] E (tCons (tVar 0) (tCons (tVar 1) tNil))) (gName 2))
    (t_form_3 K a E)))
def t_form (K : PySem.W.Frag) (a : Ad) (E : XK) : TS :=
  (t_form_4 K a E)
abbrev N_form : List Str := ["web", "places", "near", "hubs", "place"]
abbrev F_form (a : Ad) : Fw := fun gs kk xx => ∃ (n : Nat) (ts : List (Int × Int)) (p : Int), gs = [per (objP a.C_Web (webF n ts)), dat (rowI [p])] ∧ kk (dat (oneD p)) [none, none]
abbrev sp_form (K : PySem.W.Frag) (a : Ad) : Sp := SpG 2 (F_form a)
theorem pure_form {K : PySem.W.Frag} {a : Ad} (c : Clf K a) {vs : List V} {H : Hp} {Q : VK} {E : XK} (h : sp_form K a vs H Q E) :
    t_form K a E { nx := fun _ H' => Q .non H', rt := Q } (start N_form vs) H := by
  refine body_okX (fun _ => false) ?_ h
  rintro gs kk xx ⟨n, ts, p, rfl, hk⟩ -
  unfold t_form
  refine wsx_of ?_
  show WS _ _ [some (per (objP a.C_Web (webF n ts))), some (dat (.list ([p].map .int))), none, none, none] _
  refine ws_seqI (ws_if ?_)
  repeat walk_at "v"
  refine ite_dec (fun _ => ?_) fun h => absurd rfl h
  repeat walk_at "v"
  exact ⟨_, _, Ent.refl, les_none (les_none les_nil), hk⟩
abbrev t_good_parts_0 (K : PySem.W.Frag) (a : Ad) (E : XK) : TS :=
  (tRet (tLc (iList K (tCall (sp_core_parts K a) [] E (tCons (tVar 0) tNil))) (gName 1) tYes (tCall (sp_form K a) [] E0 (tCons (tVar 0) (tCons (tVar 1) tNil))) [1]))
def t_good_parts (K : PySem.W.Frag) (a : Ad) (E : XK) : TS :=
  (t_good_parts_0 K a E)
abbrev N_good_parts : List Str := ["web", "places"]
abbrev F_good_parts (a : Ad) : Fw := fun gs kk xx => ∃ (n : Nat) (ts : List (Int × Int)), gs = [per (objP a.C_Web (webF n ts))] ∧ n ≤ 60 ∧ Valid n ts ∧ ts.Nodup ∧ ∀ ss, CoreIs n ts ss → ∃ ps : List Int, partsI ts n (leftL n ss) = ps.map (fun p => [p]) ∧ kk (own (ps.map oneD)) [none]
abbrev sp_good_parts (K : PySem.W.Frag) (a : Ad) : Sp := SpG 1 (F_good_parts a)
theorem pure_good_parts {K : PySem.W.Frag} {a : Ad} (c : Clf K a) {vs : List V} {H : Hp} {Q : VK} {E : XK} (h : sp_good_parts K a vs H Q E) :
    t_good_parts K a E { nx := fun _ H' => Q .non H', rt := Q } (start N_good_parts vs) H := by
  refine body_okX (fun _ => false) ?_ h
  rintro gs kk xx ⟨n, ts, rfl, hn, hv, hnd, hk⟩ -
  unfold t_good_parts
  refine wsx_of ?_
  show WS _ _ [some (per (objP a.C_Web (webF n ts))), none] _
  refine ws_ret (we_lcM (fun p => rowI [p]) oneD id (wil_list (wq_of (we_call (wa_cons (wq_of (we_var rfl ⟨_, frz_per, wa_nil ⟨rfl, nd0, n, ts, rfl, hn, hv, hnd, fun ss hss => ?_⟩⟩)))))))
  obtain ⟨ps, e, hk2⟩ := hk ss hss
  have hl : ps.length ≤ n := by
    have h1 := partsI_few (ts := ts) (n := n) (ps := leftL n ss)
    rw [e, List.length_map] at h1
    exact Nat.le_trans h1 (by unfold leftL; exact Nat.le_trans (List.length_filter_le _ _) (by simp))
  rw [e, List.map_map]
  refine ⟨_, frz_own, _, rfl, ps, rfl, rfl, by omega, fun p hp => ?_, ?_⟩
  · refine wg_name rfl ?_
    walk_at "n"
    refine wq_of (we_call (wa_cons (wq_of (we_var rfl ⟨_, frz_per, wa_cons (wq_of (we_var rfl ⟨_, frz_per, wa_nil ⟨rfl, nd0, n, ts, p, rfl, _, frz_per, rfl, rfl⟩⟩))⟩))))
  · rw [List.map_id]
    exact ⟨_, _, Ent.refl, les_none les_nil, hk2⟩
theorem lay_one {p : Int} : Lay 1 (oneD p) := lay_tuple fun d hd => by
  simp at hd
  rcases hd with rfl | rfl
  · exact lay_str (by decide +kernel)
  · exact lay_int
theorem any_one {ps : List Int} : ((ps.map oneD).any fun z => PyData.eqv z .none) = false := by
  rw [List.any_map, List.any_eq_false]
  intro p _ h
  simp [oneD, PyData.eqv] at h
abbrev t_free_0 (K : PySem.W.Frag) (a : Ad) (E : XK) : TS :=
  (tRet (tAndV (tCall (sp_is_in_tree K a) [] E (tCons (tVar 0) (tCons (tVar 1) tNil))) (tOp (rNotInD K) (tC .non) (tCall (sp_good_parts K a) [] E (tCons (tVar 0) tNil)))))
def t_free (K : PySem.W.Frag) (a : Ad) (E : XK) : TS :=
  (tSeq (tDrop (tMeth a.C_Web "neighbours" (sp_Web_neighbours2 K a) [] E (tVar 0) (tCons (tVar 1) tNil)))
    (t_free_0 K a E))
abbrev N_free : List Str := ["web", "place"]
abbrev F_free (a : Ad) : Fw := fun gs kk xx => ∃ (n : Nat) (ts : List (Int × Int)) (q : Per), gs = [per (objP a.C_Web (webF n ts)), per q] ∧ n ≤ 60 ∧ Valid n ts ∧ ts.Nodup ∧
  ((∃ (p : Nat) (b : Bool), q = dP (.int p) ∧ p < n ∧ (∀ ss, CoreIs n ts ss → treeB ts n ss p = b ∧ (b = true → ∃ ps : List Int, partsI ts n (leftL n ss) = ps.map fun p => [p])) ∧ kk (dat (.bool b)) [none, none]) ∨ (BadV n a q ∧ xx (.ref a.C_InvalidPlace) [none, none]))
abbrev sp_free (K : PySem.W.Frag) (a : Ad) : Sp := SpG 2 (F_free a)
theorem pure_free {K : PySem.W.Frag} {a : Ad} (c : Clf K a) {vs : List V} {H : Hp} {Q : VK} {E : XK} (h : sp_free K a vs H Q E) :
    t_free K a E { nx := fun _ H' => Q .non H', rt := Q } (start N_free vs) H := by
  refine body_okX (fun _ => false) ?_ h
  rintro gs kk xx ⟨n, ts, q, rfl, hn, hv, hnd, hq⟩ -
  unfold t_free
  show WSX _ _ _ [some (per (objP a.C_Web (webF n ts))), some (per q)] _ _
  refine wsx_seq (wsx_meth rfl (webF_no (by decide +kernel) (by decide +kernel)) (wa_cons (wq_of (we_var rfl ⟨_, frz_per, wa_nil ⟨rfl, rfl, rfl, n, ts, q, rfl, by omega, hv, ?_⟩⟩))))
  rcases hq with ⟨p, b, rfl, hp, hb, hk⟩ | ⟨hb, hx⟩
  · refine .inl ⟨p, rfl, hp, wsx_of ?_⟩
    show WS _ _ [some (per (objP a.C_Web (webF n ts))), some (dat (.int (p : Int)))] _
    refine ws_ret (we_and (wq_of (we_call (wa_cons (wq_of (we_var rfl ⟨_, frz_per, wa_cons (wq_of (we_var rfl ⟨_, frz_per, wa_nil ⟨rfl, nd0, n, ts, (p : Int), rfl, hn, hv, hnd, ⟨by omega, by omega⟩, fun ss hss => ?_⟩⟩))⟩))))))
    obtain ⟨e1, e2⟩ := hb ss hss
    rw [e1]
    refine ⟨_, frz_per, b, rfl, ?_⟩
    cases b with
    | false => exact iteF ⟨_, _, Ent.refl, les_none (les_none les_nil), hk⟩
    | true =>
      refine iteT (we_opK (wq_of (we_non ⟨_, frz_per, _, rfl, wq_of (we_call (wa_cons (wq_of (we_var rfl ⟨_, frz_per, wa_nil ⟨rfl, nd0, n, ts, rfl, hn, hv, hnd, fun ss hss => ?_⟩⟩))))⟩)))
      obtain ⟨ps, e⟩ := (hb ss hss).2 rfl
      refine ⟨ps, e, _, frz_own, _, rfl, ?_⟩
      refine ok_notIn lay_none.shaped (lay_list fun d hd => by obtain ⟨p, _, rfl⟩ := List.mem_map.mp hd; exact lay_one).shaped ?_
      rw [any_one]
      exact ⟨_, _, Ent.refl, les_none (les_none les_nil), hk⟩
  · exact .inr ⟨hb, ⟨_, les_none (les_none les_nil), hx⟩⟩
end G

namespace G
/-! ### what is left of a group: its ring, or one place -/
structure Grown (n : Nat) (ts : List (Int × Int)) (I K : Int → Prop) (p : Int → Int) (rk : Int → Nat) : Prop where
  rng : ∀ x, I x → 0 ≤ x ∧ x < n
  bnd : ∀ x, I x → rk x < n
  par : ∀ x, I x → ¬ K x → I (p x) ∧ rk (p x) < rk x ∧ p x ∈ nb ts x
  adj : ∀ x y, I x → y ∈ nb ts x → I y ∧ ((¬ K x ∧ y = p x) ∨ (¬ K y ∧ p y = x) ∨ (K x ∧ K y))
theorem along {P : List Int → Prop} {ss : List Int} (h0 : P []) (hs : ∀ pre v post, ss = pre ++ v :: post → P pre → P (pre ++ [v])) : P ss := by
  have h : ∀ post pre : List Int, ss = pre ++ post → P pre → P ss := by
    intro post
    induction post with
    | nil => intro pre e h; rw [List.append_nil] at e; rw [e]; exact h
    | cons v post ih => intro pre e h; exact ih (pre ++ [v]) (by rw [e]; simp) (hs pre v post e h)
  exact h ss [] rfl h0
def Good (I K R : Int → Prop) (p : Int → Int) (pre : List Int) : Prop := ∀ x, I x → x ∉ pre → ¬ R x → ¬ K x ∧ p x ∉ pre
theorem nb_sym {n : Nat} {ts : List (Int × Int)} (hv : Valid n ts) {x y : Int} (h : y ∈ nb ts x) : x ∈ nb ts y := (mem_nb hv).mpr ((mem_nb hv).mp h).symm
theorem nb_irr {n : Nat} {ts : List (Int × Int)} (hv : Valid n ts) {x : Int} (h : x ∈ nb ts x) : False := by
  rcases (mem_nb hv).mp h with h | h <;> (have := hv _ h; dsimp only at this; omega)
theorem len1 {l : List Int} (h : l.length = 1) {x y : Int} (hx : x ∈ l) (hy : y ∈ l) : x = y := by
  match l, h with
  | [z], _ => rw [List.mem_singleton.mp hx, List.mem_singleton.mp hy]
section
variable {n : Nat} {ts : List (Int × Int)} {I K R : Int → Prop} {p : Int → Int} {rk : Int → Nat}
theorem good_step (hv : Valid n ts) (g : Grown n ts I K p rk) {pre : List Int} {v : Int} (h : Good I K R p pre) (h1 : (rem ts pre v).length = 1) (hR : ¬ R v) : Good I K R p (pre ++ [v]) := fun x hx hxp hxR => by
  have hxp' : x ∉ pre := fun e => hxp (List.mem_append_left _ e)
  have hxv : x ≠ v := fun e => hxp (by rw [e]; simp)
  obtain ⟨a, b⟩ := h x hx hxp' hxR
  refine ⟨a, fun e => ?_⟩
  rcases List.mem_append.mp e with e | e
  · exact b e
  · have e : p x = v := List.mem_singleton.mp e
    obtain ⟨c1, c2, c3⟩ := g.par x hx a
    rw [e] at b c1 c2 c3
    obtain ⟨d1, d2⟩ := h v c1 b hR
    obtain ⟨f1, f2, f3⟩ := g.par v c1 d1
    have k1 : x ∈ rem ts pre v := mem_rem.mpr ⟨b, nb_sym hv c3, hxp'⟩
    have k2 : p v ∈ rem ts pre v := mem_rem.mpr ⟨b, f3, d2⟩
    have := len1 h1 k1 k2
    subst this
    omega
theorem good_end (hv : Valid n ts) (hn : ts.Nodup) (g : Grown n ts I K p rk) {ss : List Int} (hc : CoreIs n ts ss) (h : Good I K R p ss) (hR : ∀ y, I y → R y → ¬ K y → p y ∈ ss) : ∀ x, I x → x ∉ ss → R x := by
  have key : ∀ m : Nat, ∀ x, I x → x ∉ ss → ¬ R x → n - rk x = m → False := by
    intro m
    induction m using Nat.strongRecOn with
    | ind m ih =>
      intro x hx hxs hxR hm
      obtain ⟨a, b⟩ := h x hx hxs hxR
      obtain ⟨c1, c2, c3⟩ := g.par x hx a
      have hr := g.rng x hx
      have hl := hc.stop x hr.1 hr.2
      have k1 : p x ∈ rem ts ss x := mem_rem.mpr ⟨hxs, c3, b⟩
      have hnd : (rem ts ss x).Nodup := rem_nd hv hn
      obtain ⟨y, hy, hyp⟩ : ∃ y, y ∈ rem ts ss x ∧ y ≠ p x := by
        match hq : rem ts ss x with
        | [] => rw [hq] at k1; cases k1
        | [z] => rw [hq] at hl; exact absurd rfl hl
        | z :: w :: r =>
          rw [hq] at hnd
          have hzw : z ≠ w := fun e => (List.nodup_cons.mp hnd).1 (by rw [e]; simp)
          by_cases e : z = p x
          · exact ⟨w, by simp, fun e2 => hzw (e.trans e2.symm)⟩
          · exact ⟨z, by simp, e⟩
      obtain ⟨_, m2, m3⟩ := mem_rem.mp hy
      obtain ⟨hyI, ho⟩ := g.adj x y hx m2
      rcases ho with ⟨_, e⟩ | ⟨e1, e2⟩ | ⟨e, _⟩
      · exact hyp e
      · have hyR : ¬ R y := fun e => hxs (e2 ▸ hR y hyI e e1)
        obtain ⟨_, r2, _⟩ := g.par y hyI e1
        rw [e2] at r2
        have := g.bnd y hyI
        exact ih (n - rk y) (by omega) y hyI m3 hyR rfl
      · exact a e
  exact fun x hx hxs => Classical.byContradiction fun hxR => key _ x hx hxs hxR rfl
/-- a ring: what is left is the ring -/
theorem left_ring (hv : Valid n ts) (hn : ts.Nodup) (g : Grown n ts I K p rk) (hK : ∀ x, K x → ∃ y z, y ≠ z ∧ K y ∧ K z ∧ y ∈ nb ts x ∧ z ∈ nb ts x) {ss : List Int} (hc : CoreIs n ts ss) : ∀ x, I x → (x ∉ ss ↔ K x) := by
  have h1 : ∀ x, K x → x ∉ ss := by
    refine along (P := fun pre => ∀ x, K x → x ∉ pre) (fun x _ h => by cases h) fun pre v post e ih x hx hm => ?_
    rcases List.mem_append.mp hm with hm | hm
    · exact ih x hx hm
    · have e2 : x = v := List.mem_singleton.mp hm
      subst e2
      obtain ⟨y, z, hyz, ky, kz, ny, nz⟩ := hK x hx
      exact hyz (len1 (hc.step pre x post e).1 (mem_rem.mpr ⟨ih x hx, ny, ih y ky⟩) (mem_rem.mpr ⟨ih x hx, nz, ih z kz⟩))
  have h2 : Good I K K p ss := by
    refine along (P := Good I K K p) (fun x _ _ hk => ⟨hk, fun h => by cases h⟩) fun pre v post e ih => ?_
    refine good_step hv g ih (hc.step pre v post e).1 fun hk => h1 v hk ?_
    rw [e]; simp
  exact fun x hx => ⟨fun hs => good_end hv hn g hc h2 (fun y _ a b => absurd a b) x hx hs, h1 x⟩
/-- no ring: one place is left -/
theorem left_tree (hv : Valid n ts) (hn : ts.Nodup) (g : Grown n ts I K p rk) {f : Int} (hf : I f) (hK : ∀ x, K x ↔ x = f) {ss : List Int} (hc : CoreIs n ts ss) : ∃ r, I r ∧ ∀ x, I x → (x ∉ ss ↔ x = r) := by
  obtain ⟨r, hr, hrs, hg, hp⟩ : ∃ r, I r ∧ r ∉ ss ∧ Good I K (fun x => x = r) p ss ∧ (¬ K r → p r ∈ ss) := by
    refine along (P := fun pre => ∃ r, I r ∧ r ∉ pre ∧ Good I K (fun x => x = r) p pre ∧ (¬ K r → p r ∈ pre)) ⟨f, hf, (fun h => by cases h), fun x _ _ h => ⟨fun k => h ((hK x).mp k), fun h => by cases h⟩, fun h => absurd ((hK f).mpr rfl) h⟩ ?_
    rintro pre v post e ⟨r, hr, hrp, hg, hp⟩
    have h1 := (hc.step pre v post e).1
    by_cases c : v = r
    · subst c
      obtain ⟨o, ho⟩ : ∃ o, o ∈ rem ts pre v := by
        match hq : rem ts pre v with
        | [] => rw [hq] at h1; cases h1
        | z :: _ => exact ⟨z, by simp⟩
      obtain ⟨_, m2, m3⟩ := mem_rem.mp ho
      obtain ⟨hoI, hh⟩ := g.adj v o hr m2
      have hov : o ≠ v := fun z => nb_irr hv (z ▸ m2)
      have kid : ¬ K o ∧ p o = v := by
        rcases hh with ⟨a, b⟩ | h | ⟨a, b⟩
        · exact absurd (b ▸ hp a) m3
        · exact h
        · exact absurd (((hK o).mp b).trans ((hK v).mp a).symm) hov
      refine ⟨o, hoI, fun hm => ?_, fun x hx hxp hxo => ?_, fun _ => by rw [kid.2]; simp⟩
      · rcases List.mem_append.mp hm with hm | hm
        · exact m3 hm
        · exact hov (List.mem_singleton.mp hm)
      · have hxp' : x ∉ pre := fun e => hxp (List.mem_append_left _ e)
        have hxv : x ≠ v := fun e => hxp (by rw [e]; simp)
        obtain ⟨a, b⟩ := hg x hx hxp' hxv
        refine ⟨a, fun hm => ?_⟩
        rcases List.mem_append.mp hm with hm | hm
        · exact b hm
        · have hm : p x = v := List.mem_singleton.mp hm
          obtain ⟨_, _, c3⟩ := g.par x hx a
          rw [hm] at c3
          exact hxo (len1 h1 (mem_rem.mpr ⟨hrp, nb_sym hv c3, hxp'⟩) ho)
    · refine ⟨r, hr, fun hm => ?_, ?_, fun hk => List.mem_append_left _ (hp hk)⟩
      · rcases List.mem_append.mp hm with hm | hm
        · exact hrp hm
        · exact c (List.mem_singleton.mp hm).symm
      · exact good_step hv g hg h1 c
  refine ⟨r, hr, fun x hx => ⟨fun hs => good_end hv hn g hc hg (fun y _ e k => ?_) x hx hs, fun e => e ▸ hrs⟩⟩
  subst e
  exact hp k
end
end G

namespace G
/-! ### groups of places, before they are numbered anew -/
def adjP (ps : List (Int × Int)) (x y : Int) : Prop := (x, y) ∈ ps ∨ (y, x) ∈ ps
/-- one group, its kernel from f to s -/
structure Grp (N : Int) (ps : List (Int × Int)) (ds : List Int) (f s : Int) (p : Int → Int) : Prop where
  rng : ∀ d ∈ ds, 0 ≤ d ∧ d < N
  ker : f < s ∧ ∀ x, f ≤ x → x < s → x ∈ ds
  par : ∀ d ∈ ds, ¬ (f ≤ d ∧ d < s) → p d ∈ ds ∧ p d < d ∧ (p d, d) ∈ ps
  adj : ∀ x y, (x, y) ∈ ps → (x ∈ ds ∨ y ∈ ds) → x ∈ ds ∧ y ∈ ds ∧ ((f ≤ x ∧ x < s) ∧ (f ≤ y ∧ y < s) ∨ ¬ (f ≤ y ∧ y < s) ∧ p y = x)
/-- the group and its ring -/
def GrpR (N : Int) (ps : List (Int × Int)) (ds rs : List Int) : Prop := ∃ f s p, Grp N ps ds f s p ∧ ds.Nodup ∧ ((rs = [] ∧ s = f + 1) ∨ (rs ≠ [] ∧ rs.Nodup ∧ (∀ x, x ∈ rs ↔ f ≤ x ∧ x < s) ∧ ∀ x, f ≤ x → x < s → ∃ y z, y ≠ z ∧ x ≠ y ∧ x ≠ z ∧ (f ≤ y ∧ y < s) ∧ (f ≤ z ∧ z < s) ∧ adjP ps x y ∧ adjP ps x z))
end G

namespace G
open PySem L2
local macro_rules | `(tactic| walk_at "g1") => `(tactic| first
  | (with_reducible show WE _ _ _; with_reducible first | refine we_var (by with_unfolding_all exact rfl) ?_ | (show WE (tOp _ _ _) _ _; first | refine we_ixS (by with_unfolding_all exact rfl) ?_ | refine we_ixScr (by with_unfolding_all exact rfl) ?_ | refine we_inS (by with_unfolding_all exact rfl) ?_ | refine we_notInS (by with_unfolding_all exact rfl) ?_ | refine we_eqS (by with_unfolding_all exact rfl) ?_ | refine we_neS (by with_unfolding_all exact rfl) ?_ | refine we_opK ?_) | (show WE (tCB _ _) _ _; first | refine we_lenS' (by with_unfolding_all exact rfl) ?_ | refine we_lenScr (by with_unfolding_all exact rfl) ?_ | refine we_cbK ?_) | refine we_int ?_ | refine we_bl ?_ | refine we_non ?_ | refine we_str ?_ | refine we_neg ?_ | refine we_not ?_ | refine we_and ?_ | refine we_or ?_ | refine we_if ?_ | refine we_tup ?_ | refine we_lst ?_ | refine we_call ?_ | refine we_mt (by with_unfolding_all exact rfl) ?_)
  | (with_reducible show WS _ _ _ _; with_reducible first | refine ws_seqA ?_ | refine ws_seqD ?_ | refine ws_asg (by with_unfolding_all exact rfl) ?_ | refine ws_asgG ?_ | refine ws_if ?_ | refine ws_ret ?_ | refine ws_drop ?_ | refine ws_next ?_ | refine ws_retN ?_)
  | (with_reducible show WT _ _ _; with_reducible first | refine wt_test ?_ | refine wt_B ?_ | refine wt_not ?_ | refine wt_and ?_ | refine wt_or ?_ | refine wt_yes ?_)
  | (with_reducible show WA _ _ _; with_reducible first | refine wa_nil ?_ | refine wa_cons (wq_of (we_var (by with_unfolding_all exact rfl) ?_)) | refine wa_slotU (by with_unfolding_all exact rfl) ?_ | refine wa_cons ?_)
  | (with_reducible show OpK _ _ _ _ _; with_reducible first | refine ok_plusI ?_ | refine ok_sub ?_ | refine ok_lt ?_ | refine ok_le ?_ | refine ok_gt ?_ | refine ok_ge ?_ | refine ok_eqI ?_ | refine ok_neI ?_ | refine ok_mod (by first | assumption | decide | omega) ?_ | refine ok_ixL (by with_unfolding_all exact rfl) ?_)
  | (with_reducible show CbK _ _ _ _; with_reducible first | refine ck_lenL ?_ | refine ck_lenT ?_ | refine ck_int ?_ | refine ck_intB ?_ | refine ck_max ?_ | refine ck_min ?_ | refine ck_list ?_)
  | with_reducible refine wq_of ?_
  | (with_reducible show WG _ _ _ _ _; with_reducible first | refine wg_name (by with_unfolding_all exact rfl) ?_ | refine wg_tup (by with_unfolding_all exact rfl) ?_ | refine wg_set (by with_unfolding_all exact rfl) ?_)
  | (with_reducible show WGs _ _ _ _ _; with_reducible first | refine wgs_cons ?_ | refine wgs_nil ?_)
  | with_reducible refine iteT ?_
  | with_reducible refine iteF ?_
  | with_reducible refine ⟨_, frz_per, ?_⟩
  | with_reducible refine ⟨_, frz_own, ?_⟩
  | refine ⟨_, rfl, ?_⟩
  | refine ⟨_, argD1, ?_⟩
  | refine ⟨_, argD2, ?_⟩
  | refine ⟨_, argD0, ?_⟩
  | refine ⟨_, argD3, ?_⟩
  | refine ⟨_, argD4, ?_⟩
  | refine ⟨_, _, rfl, rfl, rfl, ?_⟩
  | refine ⟨_, _, _, rfl, rfl, rfl, ?_⟩
  | refine ⟨(by simp only [List.length_cons, List.length_nil]; decide), ?_⟩
  | refine ⟨rfl, nd1, ?_⟩
  | refine ⟨rfl, nd0, ?_⟩)
local macro_rules | `(tactic| walk_at "go") => `(tactic| repeat walk_at "g1")
local macro_rules | `(tactic| walk_at "g2") => `(tactic| first
  | (with_reducible show WE _ _ _; with_reducible first | refine we_var (by with_unfolding_all exact rfl) ?_ | (show WE (tOp _ _ _) _ _; first | refine we_notN ?_ | refine we_ixS (by with_unfolding_all exact rfl) ?_ | refine we_ixScr (by with_unfolding_all exact rfl) ?_ | refine we_inS (by with_unfolding_all exact rfl) ?_ | refine we_notInS (by with_unfolding_all exact rfl) ?_ | refine we_eqS (by with_unfolding_all exact rfl) ?_ | refine we_neS (by with_unfolding_all exact rfl) ?_ | refine we_opK ?_) | (show WE (tCB _ _) _ _; first | refine we_isInt ?_ | refine we_isBl ?_ | refine we_isLst ?_ | refine we_isTup ?_ | refine we_lenO (by with_unfolding_all exact rfl) ?_ | refine we_lenS' (by with_unfolding_all exact rfl) ?_ | refine we_lenScr (by with_unfolding_all exact rfl) ?_ | refine we_cbK ?_) | refine we_chain ?_ | refine we_slice ?_ | refine we_int ?_ | refine we_bl ?_ | refine we_non ?_ | refine we_str ?_ | refine we_neg ?_ | refine we_not ?_ | refine we_and ?_ | refine we_or ?_ | refine we_if ?_ | refine we_tup ?_ | refine we_lst ?_ | refine we_call ?_ | refine we_mt (by with_unfolding_all exact rfl) ?_)
  | (with_reducible show WS _ _ _ _; with_reducible first | refine ws_seqA ?_ | refine ws_seqD ?_ | refine ws_asg (by with_unfolding_all exact rfl) ?_ | refine ws_asgG ?_ | refine ws_if ?_ | refine ws_ret ?_ | refine ws_drop ?_ | refine ws_next ?_ | refine ws_retN ?_)
  | (with_reducible show WT _ _ _; with_reducible first | refine wt_test ?_ | refine wt_B ?_ | refine wt_not ?_ | refine wt_and ?_ | refine wt_or ?_ | refine wt_yes ?_)
  | (with_reducible show WA _ _ _; with_reducible first | refine wa_nil ?_ | refine wa_cons (wq_of (we_var (by with_unfolding_all exact rfl) ?_)) | refine wa_slotU (by with_unfolding_all exact rfl) ?_ | refine wa_cons ?_)
  | (with_reducible show OpK _ _ _ _ _; with_reducible first | refine ok_isB ?_ | refine ok_notB ?_ | refine ok_plusI ?_ | refine ok_sub ?_ | refine ok_lt ?_ | refine ok_le ?_ | refine ok_gt ?_ | refine ok_ge ?_ | refine ok_eqI ?_ | refine ok_neI ?_ | refine ok_mod (by first | assumption | decide | omega) ?_ | refine ok_ixL (by with_unfolding_all exact rfl) ?_)
  | (with_reducible show CbK _ _ _ _; with_reducible first | refine ck_lenL ?_ | refine ck_lenT ?_ | refine ck_int ?_ | refine ck_intB ?_ | refine ck_max ?_ | refine ck_min ?_ | refine ck_list ?_)
  | with_reducible refine wq_of ?_
  | (with_reducible show WG _ _ _ _ _; with_reducible first | refine wg_name (by with_unfolding_all exact rfl) ?_ | refine wg_tup (by with_unfolding_all exact rfl) ?_ | refine wg_set (by with_unfolding_all exact rfl) ?_)
  | (with_reducible show WGs _ _ _ _ _; with_reducible first | refine wgs_cons ?_ | refine wgs_nil ?_)
  | (with_reducible show WO _ _ _; with_reducible first | refine wo_some ?_ | refine wo_none ?_)
  | refine ⟨_, argD5, ?_⟩
  | refine ⟨_, argD6, ?_⟩
  | refine ⟨_, argD7, ?_⟩
  | refine ⟨_, argD9, ?_⟩
  | with_reducible refine iteT ?_
  | with_reducible refine iteF ?_
  | with_reducible refine ⟨_, frz_per, ?_⟩
  | with_reducible refine ⟨_, frz_own, ?_⟩
  | refine ⟨_, rfl, ?_⟩
  | refine ⟨_, argD1, ?_⟩
  | refine ⟨_, argD2, ?_⟩
  | refine ⟨_, argD0, ?_⟩
  | refine ⟨_, argD3, ?_⟩
  | refine ⟨_, argD4, ?_⟩
  | refine ⟨_, _, rfl, rfl, rfl, ?_⟩
  | refine ⟨_, _, _, rfl, rfl, rfl, ?_⟩
  | refine ⟨(by simp only [List.length_cons, List.length_nil]; decide), ?_⟩
  | refine ⟨rfl, nd1, ?_⟩
  | refine ⟨rfl, nd0, ?_⟩)
local macro_rules | `(tactic| walk_at "w") => `(tactic| first
  | (with_reducible show WE _ _ _; with_reducible first | refine we_var (by with_unfolding_all exact rfl) ?_ | refine we_varF (by with_unfolding_all exact rfl) frz_own ?_ | (show WE (tOp _ _ _) _ _; first | refine we_isNd ?_ | refine we_notNd ?_ | refine we_notN ?_ | refine we_ixS (by with_unfolding_all exact rfl) ?_ | refine we_ixScr (by with_unfolding_all exact rfl) ?_ | refine we_inS (by with_unfolding_all exact rfl) ?_ | refine we_notInS (by with_unfolding_all exact rfl) ?_ | refine we_eqS (by with_unfolding_all exact rfl) ?_ | refine we_neS (by with_unfolding_all exact rfl) ?_ | refine we_opK ?_) | (show WE (tCB _ _) _ _; first | refine we_repr ?_ | refine we_isInt ?_ | refine we_isBl ?_ | refine we_isLst ?_ | refine we_isTup ?_ | refine we_lenO (by with_unfolding_all exact rfl) ?_ | refine we_lenS' (by with_unfolding_all exact rfl) ?_ | refine we_lenScr (by with_unfolding_all exact rfl) ?_ | refine we_cbK ?_) | refine we_dnew ?_ | refine we_lenSetI ?_ | refine we_revL ?_ | refine we_chain ?_ | refine we_slice ?_ | refine we_int ?_ | refine we_bl ?_ | refine we_non ?_ | refine we_str ?_ | refine we_neg ?_ | refine we_not ?_ | refine we_and ?_ | refine we_or ?_ | refine we_if ?_ | refine we_tup ?_ | refine we_lst ?_ | refine we_call ?_ | refine we_mt (by with_unfolding_all exact rfl) ?_)
  | (with_reducible show WS _ _ _ _; with_reducible first | refine ws_seqI ?_ | refine ws_seqA ?_ | refine ws_seqD ?_ | refine ws_asg (by with_unfolding_all exact rfl) ?_ | refine ws_asgG ?_ | refine ws_if ?_ | refine ws_ret ?_ | refine ws_drop ?_ | refine ws_next ?_ | refine ws_retN ?_)
  | (with_reducible show WT _ _ _; with_reducible first | refine wt_truL ?_ | refine wt_test ?_ | refine wt_B ?_ | refine wt_not ?_ | refine wt_and ?_ | refine wt_or ?_ | refine wt_yes ?_)
  | (with_reducible show WA _ _ _; with_reducible first | refine wa_nil ?_ | refine wa_cons (wq_of (we_var (by with_unfolding_all exact rfl) ?_)) | refine wa_slotU (by with_unfolding_all exact rfl) ?_ | refine wa_cons ?_)
  | (with_reducible show OpK _ _ _ _ _; with_reducible first | refine ok_neR ?_ | refine ok_eqR ?_ | refine ok_isB ?_ | refine ok_notB ?_ | refine ok_plusI ?_ | refine ok_sub ?_ | refine ok_lt ?_ | refine ok_le ?_ | refine ok_gt ?_ | refine ok_ge ?_ | refine ok_eqI ?_ | refine ok_neI ?_ | refine ok_mod (by first | assumption | decide | omega) ?_ | refine ok_ixL (by with_unfolding_all exact rfl) ?_)
  | (with_reducible show CbK _ _ _ _; with_reducible first | refine ck_tuple ?_ | refine ck_allF ?_ | refine ck_anyF ?_ | refine ck_abs ?_ | refine ck_sumI ?_ | refine ck_lenL ?_ | refine ck_lenT ?_ | refine ck_int ?_ | refine ck_intB ?_ | refine ck_max ?_ | refine ck_min ?_ | refine ck_list ?_)
  | with_reducible refine wq_of ?_
  | (with_reducible show WG _ _ _ _ _; with_reducible first | refine wg_name (by with_unfolding_all exact rfl) ?_ | refine wg_tup (by with_unfolding_all exact rfl) ?_ | refine wg_set (by with_unfolding_all exact rfl) ?_)
  | (with_reducible show WGs _ _ _ _ _; with_reducible first | refine wgs_cons ?_ | refine wgs_nil ?_)
  | (with_reducible show WO _ _ _; with_reducible first | refine wo_some ?_ | refine wo_none ?_)
  | refine ⟨_, argD5, ?_⟩
  | refine ⟨_, argD6, ?_⟩
  | refine ⟨_, argD7, ?_⟩
  | refine ⟨_, argD9, ?_⟩
  | with_reducible refine iteT ?_
  | with_reducible refine iteF ?_
  | with_reducible refine ⟨_, frz_per, ?_⟩
  | with_reducible refine ⟨_, frz_own, ?_⟩
  | refine ⟨_, rfl, ?_⟩
  | refine ⟨_, argD1, ?_⟩
  | refine ⟨_, argD2, ?_⟩
  | refine ⟨_, argD0, ?_⟩
  | refine ⟨_, argD3, ?_⟩
  | refine ⟨_, argD4, ?_⟩
  | refine ⟨_, _, rfl, rfl, rfl, ?_⟩
  | refine ⟨_, _, _, rfl, rfl, rfl, ?_⟩
  | refine ⟨(by simp only [List.length_cons, List.length_nil]; decide), ?_⟩
  | refine ⟨rfl, nd1, ?_⟩
  | refine ⟨rfl, nd0, ?_⟩
  | refine ⟨_, argD8, ?_⟩
  | refine ⟨_, argD10, ?_⟩)
local macro_rules | `(tactic| walk_at "v") => `(tactic| first
  | (with_reducible show WE _ _ _; with_reducible first | refine we_var (by with_unfolding_all exact rfl) ?_ | refine we_varF (by with_unfolding_all exact rfl) frz_own ?_ | (show WE (tOp _ _ _) _ _; first | refine we_isNd ?_ | refine we_notNd ?_ | refine we_notN ?_ | refine we_ixS (by with_unfolding_all exact rfl) ?_ | refine we_ixScr (by with_unfolding_all exact rfl) ?_ | refine we_inS (by with_unfolding_all exact rfl) ?_ | refine we_notInS (by with_unfolding_all exact rfl) ?_ | refine we_eqS (by with_unfolding_all exact rfl) ?_ | refine we_neS (by with_unfolding_all exact rfl) ?_ | refine we_opK ?_) | (show WE (tCB _ _) _ _; first | refine we_repr ?_ | refine we_lenWeb (by with_unfolding_all exact rfl) (by assumption) ?_ | refine we_isInt ?_ | refine we_isBl ?_ | refine we_isLst ?_ | refine we_isTup ?_ | refine we_lenO (by with_unfolding_all exact rfl) ?_ | refine we_lenS' (by with_unfolding_all exact rfl) ?_ | refine we_lenScr (by with_unfolding_all exact rfl) ?_ | refine we_cbK ?_) | refine we_dnew ?_ | refine we_lenSetI ?_ | refine we_revL ?_ | refine we_nbWeb (by with_unfolding_all exact rfl) (by assumption) (by assumption) ?_ | refine we_tiesWeb (by with_unfolding_all exact rfl) ?_ | refine we_chain ?_ | refine we_slice ?_ | refine we_int ?_ | refine we_bl ?_ | refine we_non ?_ | refine we_str ?_ | refine we_neg ?_ | refine we_not ?_ | refine we_and ?_ | refine we_or ?_ | refine we_if ?_ | refine we_tup ?_ | refine we_lst ?_ | refine we_call ?_ | refine we_mt (by with_unfolding_all exact rfl) ?_)
  | (with_reducible show WS _ _ _ _; with_reducible first | refine ws_seqI ?_ | refine ws_seqA ?_ | refine ws_seqD ?_ | refine ws_asg (by with_unfolding_all exact rfl) ?_ | refine ws_asgG ?_ | refine ws_if ?_ | refine ws_ret ?_ | refine ws_drop ?_ | refine ws_next ?_ | refine ws_retN ?_)
  | (with_reducible show WT _ _ _; with_reducible first | refine wt_truL ?_ | refine wt_test ?_ | refine wt_B ?_ | refine wt_not ?_ | refine wt_and ?_ | refine wt_or ?_ | refine wt_yes ?_)
  | (with_reducible show WA _ _ _; with_reducible first | refine wa_nil ?_ | refine wa_cons (wq_of (we_var (by with_unfolding_all exact rfl) ?_)) | refine wa_slotU (by with_unfolding_all exact rfl) ?_ | refine wa_cons ?_)
  | (with_reducible show OpK _ _ _ _ _; with_reducible first | refine ok_neR ?_ | refine ok_eqR ?_ | refine ok_isB ?_ | refine ok_notB ?_ | refine ok_plusI ?_ | refine ok_sub ?_ | refine ok_lt ?_ | refine ok_le ?_ | refine ok_gt ?_ | refine ok_ge ?_ | refine ok_eqI ?_ | refine ok_neI ?_ | refine ok_mod (by first | assumption | decide | omega) ?_ | refine ok_ixL (by with_unfolding_all exact rfl) ?_)
  | (with_reducible show CbK _ _ _ _; with_reducible first | refine ck_tuple ?_ | refine ck_allF ?_ | refine ck_anyF ?_ | refine ck_abs ?_ | refine ck_sumI ?_ | refine ck_lenL ?_ | refine ck_lenT ?_ | refine ck_int ?_ | refine ck_intB ?_ | refine ck_max ?_ | refine ck_min ?_ | refine ck_list ?_)
  | with_reducible refine wq_of ?_
  | (with_reducible show WG _ _ _ _ _; with_reducible first | refine wg_name (by with_unfolding_all exact rfl) ?_ | refine wg_tup (by with_unfolding_all exact rfl) ?_ | refine wg_set (by with_unfolding_all exact rfl) ?_)
  | (with_reducible show WGs _ _ _ _ _; with_reducible first | refine wgs_cons ?_ | refine wgs_nil ?_)
  | (with_reducible show WO _ _ _; with_reducible first | refine wo_some ?_ | refine wo_none ?_)
  | refine ⟨_, argD5, ?_⟩
  | refine ⟨_, argD6, ?_⟩
  | refine ⟨_, argD7, ?_⟩
  | refine ⟨_, argD9, ?_⟩
  | with_reducible refine iteT ?_
  | with_reducible refine iteF ?_
  | with_reducible refine ⟨_, frz_per, ?_⟩
  | with_reducible refine ⟨_, frz_own, ?_⟩
  | refine ⟨_, rfl, ?_⟩
  | refine ⟨_, argD1, ?_⟩
  | refine ⟨_, argD2, ?_⟩
  | refine ⟨_, argD0, ?_⟩
  | refine ⟨_, argD3, ?_⟩
  | refine ⟨_, argD4, ?_⟩
  | refine ⟨_, _, rfl, rfl, rfl, ?_⟩
  | refine ⟨_, _, _, rfl, rfl, rfl, ?_⟩
  | refine ⟨(by simp only [List.length_cons, List.length_nil]; decide), ?_⟩
  | refine ⟨rfl, nd1, ?_⟩
  | refine ⟨rfl, nd0, ?_⟩
  | refine ⟨_, argD8, ?_⟩
  | refine ⟨_, argD10, ?_⟩)
local macro_rules | `(tactic| walk_at "p") => `(tactic| refine ⟨_, _, rfl, (by omega), (by first | decide | omega), (by first | decide | omega), ?_⟩)
local macro_rules | `(tactic| walk_at "n") => `(tactic| try dsimp only [back, List.set_cons_zero, List.set_cons_succ, List.map_cons, List.map_nil, List.cons_append, List.nil_append])
local macro_rules | `(tactic| walk_at "q") => `(tactic| first | with_reducible refine ws_seqP (ws_par (by with_unfolding_all exact rfl) (by with_unfolding_all exact rfl) ?_) | refine ⟨_, _, rfl, ?_⟩ | walk_at "v")
local macro_rules | `(tactic| walk_at "j") => `(tactic| first
  | (with_reducible show WA _ _ _; with_reducible refine wa_slotJ (by with_unfolding_all exact rfl) ?_)
  | walk_at "v")
namespace J
end J
end G

namespace G
open PySem L2
local macro_rules | `(tactic| walk_at "g1") => `(tactic| first
  | (with_reducible show WE _ _ _; with_reducible first | refine we_var (by with_unfolding_all exact rfl) ?_ | (show WE (tOp _ _ _) _ _; first | refine we_ixS (by with_unfolding_all exact rfl) ?_ | refine we_ixScr (by with_unfolding_all exact rfl) ?_ | refine we_inS (by with_unfolding_all exact rfl) ?_ | refine we_notInS (by with_unfolding_all exact rfl) ?_ | refine we_eqS (by with_unfolding_all exact rfl) ?_ | refine we_neS (by with_unfolding_all exact rfl) ?_ | refine we_opK ?_) | (show WE (tCB _ _) _ _; first | refine we_lenS' (by with_unfolding_all exact rfl) ?_ | refine we_lenScr (by with_unfolding_all exact rfl) ?_ | refine we_cbK ?_) | refine we_int ?_ | refine we_bl ?_ | refine we_non ?_ | refine we_str ?_ | refine we_neg ?_ | refine we_not ?_ | refine we_and ?_ | refine we_or ?_ | refine we_if ?_ | refine we_tup ?_ | refine we_lst ?_ | refine we_call ?_ | refine we_mt (by with_unfolding_all exact rfl) ?_)
  | (with_reducible show WS _ _ _ _; with_reducible first | refine ws_seqA ?_ | refine ws_seqD ?_ | refine ws_asg (by with_unfolding_all exact rfl) ?_ | refine ws_asgG ?_ | refine ws_if ?_ | refine ws_ret ?_ | refine ws_drop ?_ | refine ws_next ?_ | refine ws_retN ?_)
  | (with_reducible show WT _ _ _; with_reducible first | refine wt_test ?_ | refine wt_B ?_ | refine wt_not ?_ | refine wt_and ?_ | refine wt_or ?_ | refine wt_yes ?_)
  | (with_reducible show WA _ _ _; with_reducible first | refine wa_nil ?_ | refine wa_cons (wq_of (we_var (by with_unfolding_all exact rfl) ?_)) | refine wa_slotU (by with_unfolding_all exact rfl) ?_ | refine wa_cons ?_)
  | (with_reducible show OpK _ _ _ _ _; with_reducible first | refine ok_plusI ?_ | refine ok_sub ?_ | refine ok_lt ?_ | refine ok_le ?_ | refine ok_gt ?_ | refine ok_ge ?_ | refine ok_eqI ?_ | refine ok_neI ?_ | refine ok_mod (by first | assumption | decide | omega) ?_ | refine ok_ixL (by with_unfolding_all exact rfl) ?_)
  | (with_reducible show CbK _ _ _ _; with_reducible first | refine ck_lenL ?_ | refine ck_lenT ?_ | refine ck_int ?_ | refine ck_intB ?_ | refine ck_max ?_ | refine ck_min ?_ | refine ck_list ?_)
  | with_reducible refine wq_of ?_
  | (with_reducible show WG _ _ _ _ _; with_reducible first | refine wg_name (by with_unfolding_all exact rfl) ?_ | refine wg_tup (by with_unfolding_all exact rfl) ?_ | refine wg_set (by with_unfolding_all exact rfl) ?_)
  | (with_reducible show WGs _ _ _ _ _; with_reducible first | refine wgs_cons ?_ | refine wgs_nil ?_)
  | with_reducible refine iteT ?_
  | with_reducible refine iteF ?_
  | with_reducible refine ⟨_, frz_per, ?_⟩
  | with_reducible refine ⟨_, frz_own, ?_⟩
  | refine ⟨_, rfl, ?_⟩
  | refine ⟨_, argD1, ?_⟩
  | refine ⟨_, argD2, ?_⟩
  | refine ⟨_, argD0, ?_⟩
  | refine ⟨_, argD3, ?_⟩
  | refine ⟨_, argD4, ?_⟩
  | refine ⟨_, _, rfl, rfl, rfl, ?_⟩
  | refine ⟨_, _, _, rfl, rfl, rfl, ?_⟩
  | refine ⟨(by simp only [List.length_cons, List.length_nil]; decide), ?_⟩
  | refine ⟨rfl, nd1, ?_⟩
  | refine ⟨rfl, nd0, ?_⟩)
local macro_rules | `(tactic| walk_at "go") => `(tactic| repeat walk_at "g1")
local macro_rules | `(tactic| walk_at "g2") => `(tactic| first
  | (with_reducible show WE _ _ _; with_reducible first | refine we_var (by with_unfolding_all exact rfl) ?_ | (show WE (tOp _ _ _) _ _; first | refine we_notN ?_ | refine we_ixS (by with_unfolding_all exact rfl) ?_ | refine we_ixScr (by with_unfolding_all exact rfl) ?_ | refine we_inS (by with_unfolding_all exact rfl) ?_ | refine we_notInS (by with_unfolding_all exact rfl) ?_ | refine we_eqS (by with_unfolding_all exact rfl) ?_ | refine we_neS (by with_unfolding_all exact rfl) ?_ | refine we_opK ?_) | (show WE (tCB _ _) _ _; first | refine we_isInt ?_ | refine we_isBl ?_ | refine we_isLst ?_ | refine we_isTup ?_ | refine we_lenO (by with_unfolding_all exact rfl) ?_ | refine we_lenS' (by with_unfolding_all exact rfl) ?_ | refine we_lenScr (by with_unfolding_all exact rfl) ?_ | refine we_cbK ?_) | refine we_chain ?_ | refine we_slice ?_ | refine we_int ?_ | refine we_bl ?_ | refine we_non ?_ | refine we_str ?_ | refine we_neg ?_ | refine we_not ?_ | refine we_and ?_ | refine we_or ?_ | refine we_if ?_ | refine we_tup ?_ | refine we_lst ?_ | refine we_call ?_ | refine we_mt (by with_unfolding_all exact rfl) ?_)
  | (with_reducible show WS _ _ _ _; with_reducible first | refine ws_seqA ?_ | refine ws_seqD ?_ | refine ws_asg (by with_unfolding_all exact rfl) ?_ | refine ws_asgG ?_ | refine ws_if ?_ | refine ws_ret ?_ | refine ws_drop ?_ | refine ws_next ?_ | refine ws_retN ?_)
  | (with_reducible show WT _ _ _; with_reducible first | refine wt_test ?_ | refine wt_B ?_ | refine wt_not ?_ | refine wt_and ?_ | refine wt_or ?_ | refine wt_yes ?_)
  | (with_reducible show WA _ _ _; with_reducible first | refine wa_nil ?_ | refine wa_cons (wq_of (we_var (by with_unfolding_all exact rfl) ?_)) | refine wa_slotU (by with_unfolding_all exact rfl) ?_ | refine wa_cons ?_)
  | (with_reducible show OpK _ _ _ _ _; with_reducible first | refine ok_isB ?_ | refine ok_notB ?_ | refine ok_plusI ?_ | refine ok_sub ?_ | refine ok_lt ?_ | refine ok_le ?_ | refine ok_gt ?_ | refine ok_ge ?_ | refine ok_eqI ?_ | refine ok_neI ?_ | refine ok_mod (by first | assumption | decide | omega) ?_ | refine ok_ixL (by with_unfolding_all exact rfl) ?_)
  | (with_reducible show CbK _ _ _ _; with_reducible first | refine ck_lenL ?_ | refine ck_lenT ?_ | refine ck_int ?_ | refine ck_intB ?_ | refine ck_max ?_ | refine ck_min ?_ | refine ck_list ?_)
  | with_reducible refine wq_of ?_
  | (with_reducible show WG _ _ _ _ _; with_reducible first | refine wg_name (by with_unfolding_all exact rfl) ?_ | refine wg_tup (by with_unfolding_all exact rfl) ?_ | refine wg_set (by with_unfolding_all exact rfl) ?_)
  | (with_reducible show WGs _ _ _ _ _; with_reducible first | refine wgs_cons ?_ | refine wgs_nil ?_)
  | (with_reducible show WO _ _ _; with_reducible first | refine wo_some ?_ | refine wo_none ?_)
  | refine ⟨_, argD5, ?_⟩
  | refine ⟨_, argD6, ?_⟩
  | refine ⟨_, argD7, ?_⟩
  | refine ⟨_, argD9, ?_⟩
  | with_reducible refine iteT ?_
  | with_reducible refine iteF ?_
  | with_reducible refine ⟨_, frz_per, ?_⟩
  | with_reducible refine ⟨_, frz_own, ?_⟩
  | refine ⟨_, rfl, ?_⟩
  | refine ⟨_, argD1, ?_⟩
  | refine ⟨_, argD2, ?_⟩
  | refine ⟨_, argD0, ?_⟩
  | refine ⟨_, argD3, ?_⟩
  | refine ⟨_, argD4, ?_⟩
  | refine ⟨_, _, rfl, rfl, rfl, ?_⟩
  | refine ⟨_, _, _, rfl, rfl, rfl, ?_⟩
  | refine ⟨(by simp only [List.length_cons, List.length_nil]; decide), ?_⟩
  | refine ⟨rfl, nd1, ?_⟩
  | refine ⟨rfl, nd0, ?_⟩)
local macro_rules | `(tactic| walk_at "w") => `(tactic| first
  | (with_reducible show WE _ _ _; with_reducible first | refine we_var (by with_unfolding_all exact rfl) ?_ | refine we_varF (by with_unfolding_all exact rfl) frz_own ?_ | (show WE (tOp _ _ _) _ _; first | refine we_isNd ?_ | refine we_notNd ?_ | refine we_notN ?_ | refine we_ixS (by with_unfolding_all exact rfl) ?_ | refine we_ixScr (by with_unfolding_all exact rfl) ?_ | refine we_inS (by with_unfolding_all exact rfl) ?_ | refine we_notInS (by with_unfolding_all exact rfl) ?_ | refine we_eqS (by with_unfolding_all exact rfl) ?_ | refine we_neS (by with_unfolding_all exact rfl) ?_ | refine we_opK ?_) | (show WE (tCB _ _) _ _; first | refine we_repr ?_ | refine we_isInt ?_ | refine we_isBl ?_ | refine we_isLst ?_ | refine we_isTup ?_ | refine we_lenO (by with_unfolding_all exact rfl) ?_ | refine we_lenS' (by with_unfolding_all exact rfl) ?_ | refine we_lenScr (by with_unfolding_all exact rfl) ?_ | refine we_cbK ?_) | refine we_dnew ?_ | refine we_lenSetI ?_ | refine we_revL ?_ | refine we_chain ?_ | refine we_slice ?_ | refine we_int ?_ | refine we_bl ?_ | refine we_non ?_ | refine we_str ?_ | refine we_neg ?_ | refine we_not ?_ | refine we_and ?_ | refine we_or ?_ | refine we_if ?_ | refine we_tup ?_ | refine we_lst ?_ | refine we_call ?_ | refine we_mt (by with_unfolding_all exact rfl) ?_)
  | (with_reducible show WS _ _ _ _; with_reducible first | refine ws_seqI ?_ | refine ws_seqA ?_ | refine ws_seqD ?_ | refine ws_asg (by with_unfolding_all exact rfl) ?_ | refine ws_asgG ?_ | refine ws_if ?_ | refine ws_ret ?_ | refine ws_drop ?_ | refine ws_next ?_ | refine ws_retN ?_)
  | (with_reducible show WT _ _ _; with_reducible first | refine wt_truL ?_ | refine wt_test ?_ | refine wt_B ?_ | refine wt_not ?_ | refine wt_and ?_ | refine wt_or ?_ | refine wt_yes ?_)
  | (with_reducible show WA _ _ _; with_reducible first | refine wa_nil ?_ | refine wa_cons (wq_of (we_var (by with_unfolding_all exact rfl) ?_)) | refine wa_slotU (by with_unfolding_all exact rfl) ?_ | refine wa_cons ?_)
  | (with_reducible show OpK _ _ _ _ _; with_reducible first | refine ok_neR ?_ | refine ok_eqR ?_ | refine ok_isB ?_ | refine ok_notB ?_ | refine ok_plusI ?_ | refine ok_sub ?_ | refine ok_lt ?_ | refine ok_le ?_ | refine ok_gt ?_ | refine ok_ge ?_ | refine ok_eqI ?_ | refine ok_neI ?_ | refine ok_mod (by first | assumption | decide | omega) ?_ | refine ok_ixL (by with_unfolding_all exact rfl) ?_)
  | (with_reducible show CbK _ _ _ _; with_reducible first | refine ck_tuple ?_ | refine ck_allF ?_ | refine ck_anyF ?_ | refine ck_abs ?_ | refine ck_sumI ?_ | refine ck_lenL ?_ | refine ck_lenT ?_ | refine ck_int ?_ | refine ck_intB ?_ | refine ck_max ?_ | refine ck_min ?_ | refine ck_list ?_)
  | with_reducible refine wq_of ?_
  | (with_reducible show WG _ _ _ _ _; with_reducible first | refine wg_name (by with_unfolding_all exact rfl) ?_ | refine wg_tup (by with_unfolding_all exact rfl) ?_ | refine wg_set (by with_unfolding_all exact rfl) ?_)
  | (with_reducible show WGs _ _ _ _ _; with_reducible first | refine wgs_cons ?_ | refine wgs_nil ?_)
  | (with_reducible show WO _ _ _; with_reducible first | refine wo_some ?_ | refine wo_none ?_)
  | refine ⟨_, argD5, ?_⟩
  | refine ⟨_, argD6, ?_⟩
  | refine ⟨_, argD7, ?_⟩
  | refine ⟨_, argD9, ?_⟩
  | with_reducible refine iteT ?_
  | with_reducible refine iteF ?_
  | with_reducible refine ⟨_, frz_per, ?_⟩
  | with_reducible refine ⟨_, frz_own, ?_⟩
  | refine ⟨_, rfl, ?_⟩
  | refine ⟨_, argD1, ?_⟩
  | refine ⟨_, argD2, ?_⟩
  | refine ⟨_, argD0, ?_⟩
  | refine ⟨_, argD3, ?_⟩
  | refine ⟨_, argD4, ?_⟩
  | refine ⟨_, _, rfl, rfl, rfl, ?_⟩
  | refine ⟨_, _, _, rfl, rfl, rfl, ?_⟩
  | refine ⟨(by simp only [List.length_cons, List.length_nil]; decide), ?_⟩
  | refine ⟨rfl, nd1, ?_⟩
  | refine ⟨rfl, nd0, ?_⟩
  | refine ⟨_, argD8, ?_⟩
  | refine ⟨_, argD10, ?_⟩)
local macro_rules | `(tactic| walk_at "v") => `(tactic| first
  | (with_reducible show WE _ _ _; with_reducible first | refine we_var (by with_unfolding_all exact rfl) ?_ | refine we_varF (by with_unfolding_all exact rfl) frz_own ?_ | (show WE (tOp _ _ _) _ _; first | refine we_isNd ?_ | refine we_notNd ?_ | refine we_notN ?_ | refine we_ixS (by with_unfolding_all exact rfl) ?_ | refine we_ixScr (by with_unfolding_all exact rfl) ?_ | refine we_inS (by with_unfolding_all exact rfl) ?_ | refine we_notInS (by with_unfolding_all exact rfl) ?_ | refine we_eqS (by with_unfolding_all exact rfl) ?_ | refine we_neS (by with_unfolding_all exact rfl) ?_ | refine we_opK ?_) | (show WE (tCB _ _) _ _; first | refine we_repr ?_ | refine we_lenWeb (by with_unfolding_all exact rfl) (by assumption) ?_ | refine we_isInt ?_ | refine we_isBl ?_ | refine we_isLst ?_ | refine we_isTup ?_ | refine we_lenO (by with_unfolding_all exact rfl) ?_ | refine we_lenS' (by with_unfolding_all exact rfl) ?_ | refine we_lenScr (by with_unfolding_all exact rfl) ?_ | refine we_cbK ?_) | refine we_dnew ?_ | refine we_lenSetI ?_ | refine we_revL ?_ | refine we_nbWeb (by with_unfolding_all exact rfl) (by assumption) (by assumption) ?_ | refine we_tiesWeb (by with_unfolding_all exact rfl) ?_ | refine we_chain ?_ | refine we_slice ?_ | refine we_int ?_ | refine we_bl ?_ | refine we_non ?_ | refine we_str ?_ | refine we_neg ?_ | refine we_not ?_ | refine we_and ?_ | refine we_or ?_ | refine we_if ?_ | refine we_tup ?_ | refine we_lst ?_ | refine we_call ?_ | refine we_mt (by with_unfolding_all exact rfl) ?_)
  | (with_reducible show WS _ _ _ _; with_reducible first | refine ws_seqI ?_ | refine ws_seqA ?_ | refine ws_seqD ?_ | refine ws_asg (by with_unfolding_all exact rfl) ?_ | refine ws_asgG ?_ | refine ws_if ?_ | refine ws_ret ?_ | refine ws_drop ?_ | refine ws_next ?_ | refine ws_retN ?_)
  | (with_reducible show WT _ _ _; with_reducible first | refine wt_truL ?_ | refine wt_test ?_ | refine wt_B ?_ | refine wt_not ?_ | refine wt_and ?_ | refine wt_or ?_ | refine wt_yes ?_)
  | (with_reducible show WA _ _ _; with_reducible first | refine wa_nil ?_ | refine wa_cons (wq_of (we_var (by with_unfolding_all exact rfl) ?_)) | refine wa_slotU (by with_unfolding_all exact rfl) ?_ | refine wa_cons ?_)
  | (with_reducible show OpK _ _ _ _ _; with_reducible first | refine ok_neR ?_ | refine ok_eqR ?_ | refine ok_isB ?_ | refine ok_notB ?_ | refine ok_plusI ?_ | refine ok_sub ?_ | refine ok_lt ?_ | refine ok_le ?_ | refine ok_gt ?_ | refine ok_ge ?_ | refine ok_eqI ?_ | refine ok_neI ?_ | refine ok_mod (by first | assumption | decide | omega) ?_ | refine ok_ixL (by with_unfolding_all exact rfl) ?_)
  | (with_reducible show CbK _ _ _ _; with_reducible first | refine ck_tuple ?_ | refine ck_allF ?_ | refine ck_anyF ?_ | refine ck_abs ?_ | refine ck_sumI ?_ | refine ck_lenL ?_ | refine ck_lenT ?_ | refine ck_int ?_ | refine ck_intB ?_ | refine ck_max ?_ | refine ck_min ?_ | refine ck_list ?_)
  | with_reducible refine wq_of ?_
  | (with_reducible show WG _ _ _ _ _; with_reducible first | refine wg_name (by with_unfolding_all exact rfl) ?_ | refine wg_tup (by with_unfolding_all exact rfl) ?_ | refine wg_set (by with_unfolding_all exact rfl) ?_)
  | (with_reducible show WGs _ _ _ _ _; with_reducible first | refine wgs_cons ?_ | refine wgs_nil ?_)
  | (with_reducible show WO _ _ _; with_reducible first | refine wo_some ?_ | refine wo_none ?_)
  | refine ⟨_, argD5, ?_⟩
  | refine ⟨_, argD6, ?_⟩
  | refine ⟨_, argD7, ?_⟩
  | refine ⟨_, argD9, ?_⟩
  | with_reducible refine iteT ?_
  | with_reducible refine iteF ?_
  | with_reducible refine ⟨_, frz_per, ?_⟩
  | with_reducible refine ⟨_, frz_own, ?_⟩
  | refine ⟨_, rfl, ?_⟩
  | refine ⟨_, argD1, ?_⟩
  | refine ⟨_, argD2, ?_⟩
  | refine ⟨_, argD0, ?_⟩
  | refine ⟨_, argD3, ?_⟩
  | refine ⟨_, argD4, ?_⟩
  | refine ⟨_, _, rfl, rfl, rfl, ?_⟩
  | refine ⟨_, _, _, rfl, rfl, rfl, ?_⟩
  | refine ⟨(by simp only [List.length_cons, List.length_nil]; decide), ?_⟩
  | refine ⟨rfl, nd1, ?_⟩
  | refine ⟨rfl, nd0, ?_⟩
  | refine ⟨_, argD8, ?_⟩
  | refine ⟨_, argD10, ?_⟩)
local macro_rules | `(tactic| walk_at "p") => `(tactic| refine ⟨_, _, rfl, (by omega), (by first | decide | omega), (by first | decide | omega), ?_⟩)
local macro_rules | `(tactic| walk_at "n") => `(tactic| try dsimp only [back, List.set_cons_zero, List.set_cons_succ, List.map_cons, List.map_nil, List.cons_append, List.nil_append])
local macro_rules | `(tactic| walk_at "q") => `(tactic| first | with_reducible refine ws_seqP (ws_par (by with_unfolding_all exact rfl) (by with_unfolding_all exact rfl) ?_) | refine ⟨_, _, rfl, ?_⟩ | walk_at "v")
local macro_rules | `(tactic| walk_at "j") => `(tactic| first
  | (with_reducible show WA _ _ _; with_reducible refine wa_slotJ (by with_unfolding_all exact rfl) ?_)
  | walk_at "v")
theorem rem_perm {ts us : List (Int × Int)} (p : us.Perm ts) {gs : List Int} {v : Int} : (rem us gs v).length = (rem ts gs v).length := by
  unfold rem
  split
  · rfl
  · exact (((p.filterMap (oth v)).filter _)).length_eq
theorem core_perm {n : Nat} {ts us : List (Int × Int)} (p : us.Perm ts) {ss : List Int} (h : CoreIs n us ss) : CoreIs n ts ss :=
  ⟨h.rng, h.nd, fun pre v post e => by
    obtain ⟨h1, h2⟩ := h.step pre v post e
    rw [rem_perm p] at h1
    exact ⟨h1, fun u u0 u1 z => h2 u u0 u1 (by rw [rem_perm p]; exact z)⟩, fun u u0 u1 z => h.stop u u0 u1 (by rw [rem_perm p]; exact z)⟩
section
variable {K : PySem.W.Frag} {a : Ad} {Γ : Ga} {k : Gp → Ga → Prop} {tr : TA} {E : XK}
/-- Web(n, ties), up to 40 places -/
theorem we_makeWebW (h : WA tr Γ fun as Γ1 => ∃ (n : Nat) (ts : List (Int × Int)), as = [.q (dP (.int n)), .q (dP (.list (ts.map tieD)))] ∧ n ≤ 40 ∧ Valid n ts ∧ ts.Nodup ∧ ∀ ts', ts'.Perm ts → ts'.Pairwise LexLe → k (insG a.C_Web (webF n ts')) Γ1) :
    WE (tMake a.C_Web (sp_Web_init_ K a) [] E tr) Γ k := by
  refine we_make (h.imp fun as Γ1 ⟨n, ts, e, hn, hv, hnd, hk⟩ => ?_)
  subst e
  refine ⟨rfl, rfl, .inl ⟨.int n, .list (ts.map tieD), rfl, fun i e => by cases e; omega, fun ds e => .inr ⟨n, ts, rfl, hn, rfl, hv, hnd⟩, fun n' ts0 ts' e1 e2 _ _ hp hs => ?_, fun hn => (hn ⟨n, ts, rfl, rfl, hv, hnd⟩).elim⟩⟩
  obtain rfl : n = n' := Int.ofNat.inj (PyData.int.inj e1)
  obtain rfl : ts = ts0 := ties_inj (PyData.list.inj e2)
  exact ⟨rfl, _, rfl, hk ts' hp hs⟩
end
namespace J
end J
end G

namespace G
open PySem L2
namespace J
theorem mem_ties {π : Int → Int} {t : Int × Int} : ∀ {ps ts : List (Int × Int)}, t ∈ ps.foldl (tieStep π) ts ↔ t ∈ ts ∨ ∃ p ∈ ps, p.1 ≠ p.2 ∧ t = mvT π p
  | [], ts => by simp
  | p :: ps, ts => by
    rw [List.foldl_cons, mem_ties (ps := ps)]
    have e : t ∈ tieStep π ts p ↔ t ∈ ts ∨ (p.1 ≠ p.2 ∧ t = mvT π p) := by
      unfold tieStep
      split
      · rename_i c
        rw [List.mem_append, List.mem_singleton]
        exact ⟨fun h => h.imp id fun e => ⟨c.1, e⟩, fun h => h.imp id fun e => e.2⟩
      · rename_i c
        refine ⟨.inl, fun h => h.elim id fun ⟨a, b⟩ => ?_⟩
        exact Classical.byContradiction fun z => c ⟨a, b ▸ z⟩
    rw [e]
    constructor
    · rintro ((h | h) | ⟨q, h, i⟩)
      · exact .inl h
      · exact .inr ⟨p, by simp, h⟩
      · exact .inr ⟨q, by simp [h], i⟩
    · rintro (h | ⟨q, h, i⟩)
      · exact .inl (.inl h)
      · rcases List.mem_cons.mp h with e | h
        · subst e; exact .inl (.inr i)
        · exact .inr ⟨q, h, i⟩
theorem mv_cases {π : Int → Int} {x y : Int} : mvT π (x, y) = (π x, π y) ∨ mvT π (x, y) = (π y, π x) := by
  unfold mvT
  dsimp only
  by_cases c : π y < π x
  · rw [if_pos c, if_neg (by omega)]; exact .inr rfl
  · rw [if_neg c]
    by_cases d : π y > π x
    · rw [if_pos d]; exact .inl rfl
    · rw [if_neg d, show π y = π x by omega]; exact .inl rfl
theorem mv_swap {π : Int → Int} {x y : Int} : mvT π (x, y) = mvT π (y, x) := by
  unfold mvT
  dsimp only
  by_cases c : π y < π x
  · rw [if_pos c, if_neg (by omega), if_neg (by omega), if_pos (by omega)]
  · by_cases d : π x < π y
    · rw [if_neg c, if_pos (by omega), if_pos (by omega), if_neg (by omega)]
    · rw [if_neg c, if_neg (by omega), if_neg (by omega), if_neg (by omega), show π y = π x by omega]
section
variable {n : Nat} {os : List Int} {π σ : Int → Int} {ps : List (Int × Int)}
def InR (n : Nat) (ps : List (Int × Int)) : Prop := ∀ p ∈ ps, (0 ≤ p.1 ∧ p.1 < n) ∧ 0 ≤ p.2 ∧ p.2 < n
theorem ties_vn (O : Ord n os π σ) (h : InR n ps) : Valid n (tiesF π ps) ∧ (tiesF π ps).Nodup := ties_ok O (ts := []) h (fun t ht => nomatch ht) List.nodup_nil
theorem nb_move (O : Ord n os π σ) (h : InR n ps) {x y : Int} (hx : 0 ≤ x ∧ x < n) (hy : 0 ≤ y ∧ y < n) : π y ∈ nb (tiesF π ps) (π x) ↔ x ≠ y ∧ adjP ps x y := by
  rw [mem_nb (ties_vn O h).1]
  unfold tiesF
  rw [mem_ties, mem_ties]
  have inj : ∀ {a b : Int}, (0 ≤ a ∧ a < n) → (0 ≤ b ∧ b < n) → π a = π b → a = b := fun ha hb e => O.inj ha.1 ha.2 hb.1 hb.2 e
  constructor
  · have key : ∀ {u v : Int}, (u = x ∧ v = y) ∨ (u = y ∧ v = x) → (∃ p ∈ ps, p.1 ≠ p.2 ∧ (π u, π v) = mvT π p) → x ≠ y ∧ adjP ps x y := by
      rintro u v huv ⟨⟨a, b⟩, hp, hne, e⟩
      have hr := h _ hp
      dsimp only at hr hne
      have hu : 0 ≤ u ∧ u < n := by rcases huv with ⟨rfl, rfl⟩ | ⟨rfl, rfl⟩ <;> assumption
      have hv : 0 ≤ v ∧ v < n := by rcases huv with ⟨rfl, rfl⟩ | ⟨rfl, rfl⟩ <;> assumption
      rcases mv_cases (π := π) (x := a) (y := b) with c | c <;> rw [c] at e <;> obtain ⟨e1, e2⟩ := Prod.mk.inj e
      · have := inj hu hr.1 e1
        have := inj hv hr.2 e2
        subst_vars
        rcases huv with ⟨rfl, rfl⟩ | ⟨rfl, rfl⟩
        · exact ⟨hne, .inl hp⟩
        · exact ⟨Ne.symm hne, .inr hp⟩
      · have := inj hu hr.2 e1
        have := inj hv hr.1 e2
        subst_vars
        rcases huv with ⟨rfl, rfl⟩ | ⟨rfl, rfl⟩
        · exact ⟨Ne.symm hne, .inr hp⟩
        · exact ⟨hne, .inl hp⟩
    rintro ((a | a) | (a | a))
    · cases a
    · exact key (.inl ⟨rfl, rfl⟩) a
    · cases a
    · exact key (.inr ⟨rfl, rfl⟩) a
  · rintro ⟨hne, hp⟩
    have key : (∃ p ∈ ps, p.1 ≠ p.2 ∧ mvT π (x, y) = mvT π p) := by
      rcases hp with hp | hp
      · exact ⟨_, hp, hne, rfl⟩
      · exact ⟨_, hp, Ne.symm hne, mv_swap⟩
    rcases mv_cases (π := π) (x := x) (y := y) with c | c <;> rw [c] at key
    · exact .inl (.inr key)
    · exact .inr (.inr key)
theorem nb_in (hv : Valid n (tiesF π ps)) {x y : Int} (h : y ∈ nb (tiesF π ps) x) : 0 ≤ y ∧ y < n := by
  rcases (mem_nb hv).mp h with h | h <;> (have := hv _ h; dsimp only at this; omega)
theorem grown_of (O : Ord n os π σ) (h : InR n ps) {ds : List Int} {f s : Int} {p : Int → Int} (g : Grp n ps ds f s p) :
    Grown n (tiesF π ps) (fun z => ∃ d ∈ ds, z = π d) (fun z => ∃ d, (f ≤ d ∧ d < s) ∧ z = π d) (fun z => π (p (σ z))) (fun z => (σ z).toNat) := by
  have kd : ∀ {d : Int}, f ≤ d ∧ d < s → d ∈ ds := fun hd => g.ker.2 _ hd.1 hd.2
  have inj : ∀ {a b : Int}, (0 ≤ a ∧ a < n) → (0 ≤ b ∧ b < n) → π a = π b → a = b := fun ha hb e => O.inj ha.1 ha.2 hb.1 hb.2 e
  have hk : ∀ {d : Int}, d ∈ ds → ((∃ d', (f ≤ d' ∧ d' < s) ∧ π d = π d') ↔ f ≤ d ∧ d < s) := fun {d} hd => ⟨fun ⟨d', h1, e⟩ => by rw [inj (g.rng d hd) (g.rng d' (kd h1)) e]; exact h1, fun h1 => ⟨d, h1, rfl⟩⟩
  refine ⟨?_, ?_, ?_, ?_⟩
  · rintro _ ⟨d, hd, rfl⟩
    have := g.rng d hd
    exact O.rng d this.1 this.2
  · rintro _ ⟨d, hd, rfl⟩
    have := g.rng d hd
    rw [O.sp d this.1 this.2]
    omega
  · rintro _ ⟨d, hd, rfl⟩ hkd
    have hr := g.rng d hd
    rw [hk hd] at hkd
    rw [O.sp d hr.1 hr.2]
    obtain ⟨a, b, c⟩ := g.par d hd hkd
    have ha := g.rng _ a
    refine ⟨⟨_, a, rfl⟩, ?_, (nb_move O h hr ha).mpr ⟨by omega, .inr c⟩⟩
    rw [O.sp _ ha.1 ha.2]
    omega
  · rintro _ y ⟨d, hd, rfl⟩ hy
    have hr := g.rng d hd
    have hyr := nb_in (ties_vn O h).1 hy
    have hsy := O.back y hyr.1 hyr.2
    obtain ⟨e, he, rfl⟩ : ∃ e : Int, (0 ≤ e ∧ e < n) ∧ y = π e := ⟨σ y, hsy, (O.ps y hyr.1 hyr.2).symm⟩
    obtain ⟨hne, ha⟩ := (nb_move O h hr he).mp hy
    rw [O.sp d hr.1 hr.2, O.sp e he.1 he.2, hk hd]
    rcases ha with ha | ha
    · obtain ⟨_, e1, e2⟩ := g.adj d e ha (.inl hd)
      refine ⟨⟨e, e1, rfl⟩, ?_⟩
      rw [hk e1]
      rcases e2 with e2 | ⟨e2, e3⟩
      · exact .inr (.inr e2)
      · exact .inr (.inl ⟨e2, congrArg π e3⟩)
    · obtain ⟨e1, _, e2⟩ := g.adj e d ha (.inr hd)
      refine ⟨⟨e, e1, rfl⟩, ?_⟩
      rw [hk e1]
      rcases e2 with e2 | ⟨e2, e3⟩
      · exact .inr (.inr ⟨e2.2, e2.1⟩)
      · exact .inl ⟨e2, congrArg π e3.symm⟩
theorem grp_left (O : Ord n os π σ) (h : InR n ps) {ds rs ss : List Int} (g : GrpR n ps ds rs) (hc : CoreIs n (tiesF π ps) ss) :
    (rs = [] ∧ ∃ r, (∃ d ∈ ds, r = π d) ∧ ∀ z, (∃ d ∈ ds, z = π d) → (z ∉ ss ↔ z = r)) ∨ (rs ≠ [] ∧ rs.Nodup ∧ (∀ d ∈ rs, d ∈ ds) ∧ ∀ z, (∃ d ∈ ds, z = π d) → (z ∉ ss ↔ ∃ d ∈ rs, z = π d)) := by
  obtain ⟨f, s, p, g, nd, hr⟩ := g
  have G := grown_of O h g
  obtain ⟨tv, tn⟩ := ties_vn O h
  have rg : ∀ {x : Int}, f ≤ x ∧ x < s → 0 ≤ x ∧ x < n := fun hx => g.rng _ (g.ker.2 _ hx.1 hx.2)
  rcases hr with ⟨e, e2⟩ | ⟨e, e2, e3, e4⟩
  · refine .inl ⟨e, left_tree tv tn G (f := π f) ⟨f, g.ker.2 f (by omega) g.ker.1, rfl⟩ (fun x => ⟨fun ⟨d, hd, hx⟩ => ?_, fun hx => ⟨f, ⟨by omega, g.ker.1⟩, hx⟩⟩) hc⟩
    rw [hx, show d = f by omega]
  · refine .inr ⟨e, e2, fun d hd => ?_, fun z hz => ?_⟩
    · have := (e3 d).mp hd
      exact g.ker.2 d this.1 this.2
    · rw [left_ring tv tn G ?_ hc z hz]
      · exact ⟨fun ⟨d, hd, hx⟩ => ⟨d, (e3 d).mpr hd, hx⟩, fun ⟨d, hd, hx⟩ => ⟨d, (e3 d).mp hd, hx⟩⟩
      · rintro _ ⟨d, hd, rfl⟩
        obtain ⟨y, z, a1, a2, a3, a4, a5, a6, a7⟩ := e4 d hd.1 hd.2
        refine ⟨π y, π z, fun e => a1 (O.inj (rg a4).1 (rg a4).2 (rg a5).1 (rg a5).2 e), ⟨y, a4, rfl⟩, ⟨z, a5, rfl⟩, (nb_move O h (rg hd) (rg a4)).mpr ⟨a2, a6⟩, (nb_move O h (rg hd) (rg a5)).mpr ⟨a3, a7⟩⟩
end
end J
end G


namespace G
open PySem L2
local macro_rules | `(tactic| walk_at "g1") => `(tactic| first
  | (with_reducible show WE _ _ _; with_reducible first | refine we_var (by with_unfolding_all exact rfl) ?_ | (show WE (tOp _ _ _) _ _; first | refine we_ixS (by with_unfolding_all exact rfl) ?_ | refine we_ixScr (by with_unfolding_all exact rfl) ?_ | refine we_inS (by with_unfolding_all exact rfl) ?_ | refine we_notInS (by with_unfolding_all exact rfl) ?_ | refine we_eqS (by with_unfolding_all exact rfl) ?_ | refine we_neS (by with_unfolding_all exact rfl) ?_ | refine we_opK ?_) | (show WE (tCB _ _) _ _; first | refine we_lenS' (by with_unfolding_all exact rfl) ?_ | refine we_lenScr (by with_unfolding_all exact rfl) ?_ | refine we_cbK ?_) | refine we_int ?_ | refine we_bl ?_ | refine we_non ?_ | refine we_str ?_ | refine we_neg ?_ | refine we_not ?_ | refine we_and ?_ | refine we_or ?_ | refine we_if ?_ | refine we_tup ?_ | refine we_lst ?_ | refine we_call ?_ | refine we_mt (by with_unfolding_all exact rfl) ?_)
  | (with_reducible show WS _ _ _ _; with_reducible first | refine ws_seqA ?_ | refine ws_seqD ?_ | refine ws_asg (by with_unfolding_all exact rfl) ?_ | refine ws_asgG ?_ | refine ws_if ?_ | refine ws_ret ?_ | refine ws_drop ?_ | refine ws_next ?_ | refine ws_retN ?_)
  | (with_reducible show WT _ _ _; with_reducible first | refine wt_test ?_ | refine wt_B ?_ | refine wt_not ?_ | refine wt_and ?_ | refine wt_or ?_ | refine wt_yes ?_)
  | (with_reducible show WA _ _ _; with_reducible first | refine wa_nil ?_ | refine wa_cons (wq_of (we_var (by with_unfolding_all exact rfl) ?_)) | refine wa_slotU (by with_unfolding_all exact rfl) ?_ | refine wa_cons ?_)
  | (with_reducible show OpK _ _ _ _ _; with_reducible first | refine ok_plusI ?_ | refine ok_sub ?_ | refine ok_lt ?_ | refine ok_le ?_ | refine ok_gt ?_ | refine ok_ge ?_ | refine ok_eqI ?_ | refine ok_neI ?_ | refine ok_mod (by first | assumption | decide | omega) ?_ | refine ok_ixL (by with_unfolding_all exact rfl) ?_)
  | (with_reducible show CbK _ _ _ _; with_reducible first | refine ck_lenL ?_ | refine ck_lenT ?_ | refine ck_int ?_ | refine ck_intB ?_ | refine ck_max ?_ | refine ck_min ?_ | refine ck_list ?_)
  | with_reducible refine wq_of ?_
  | (with_reducible show WG _ _ _ _ _; with_reducible first | refine wg_name (by with_unfolding_all exact rfl) ?_ | refine wg_tup (by with_unfolding_all exact rfl) ?_ | refine wg_set (by with_unfolding_all exact rfl) ?_)
  | (with_reducible show WGs _ _ _ _ _; with_reducible first | refine wgs_cons ?_ | refine wgs_nil ?_)
  | with_reducible refine iteT ?_
  | with_reducible refine iteF ?_
  | with_reducible refine ⟨_, frz_per, ?_⟩
  | with_reducible refine ⟨_, frz_own, ?_⟩
  | refine ⟨_, rfl, ?_⟩
  | refine ⟨_, argD1, ?_⟩
  | refine ⟨_, argD2, ?_⟩
  | refine ⟨_, argD0, ?_⟩
  | refine ⟨_, argD3, ?_⟩
  | refine ⟨_, argD4, ?_⟩
  | refine ⟨_, _, rfl, rfl, rfl, ?_⟩
  | refine ⟨_, _, _, rfl, rfl, rfl, ?_⟩
  | refine ⟨(by simp only [List.length_cons, List.length_nil]; decide), ?_⟩
  | refine ⟨rfl, nd1, ?_⟩
  | refine ⟨rfl, nd0, ?_⟩)
local macro_rules | `(tactic| walk_at "go") => `(tactic| repeat walk_at "g1")
local macro_rules | `(tactic| walk_at "g2") => `(tactic| first
  | (with_reducible show WE _ _ _; with_reducible first | refine we_var (by with_unfolding_all exact rfl) ?_ | (show WE (tOp _ _ _) _ _; first | refine we_notN ?_ | refine we_ixS (by with_unfolding_all exact rfl) ?_ | refine we_ixScr (by with_unfolding_all exact rfl) ?_ | refine we_inS (by with_unfolding_all exact rfl) ?_ | refine we_notInS (by with_unfolding_all exact rfl) ?_ | refine we_eqS (by with_unfolding_all exact rfl) ?_ | refine we_neS (by with_unfolding_all exact rfl) ?_ | refine we_opK ?_) | (show WE (tCB _ _) _ _; first | refine we_isInt ?_ | refine we_isBl ?_ | refine we_isLst ?_ | refine we_isTup ?_ | refine we_lenO (by with_unfolding_all exact rfl) ?_ | refine we_lenS' (by with_unfolding_all exact rfl) ?_ | refine we_lenScr (by with_unfolding_all exact rfl) ?_ | refine we_cbK ?_) | refine we_chain ?_ | refine we_slice ?_ | refine we_int ?_ | refine we_bl ?_ | refine we_non ?_ | refine we_str ?_ | refine we_neg ?_ | refine we_not ?_ | refine we_and ?_ | refine we_or ?_ | refine we_if ?_ | refine we_tup ?_ | refine we_lst ?_ | refine we_call ?_ | refine we_mt (by with_unfolding_all exact rfl) ?_)
  | (with_reducible show WS _ _ _ _; with_reducible first | refine ws_seqA ?_ | refine ws_seqD ?_ | refine ws_asg (by with_unfolding_all exact rfl) ?_ | refine ws_asgG ?_ | refine ws_if ?_ | refine ws_ret ?_ | refine ws_drop ?_ | refine ws_next ?_ | refine ws_retN ?_)
  | (with_reducible show WT _ _ _; with_reducible first | refine wt_test ?_ | refine wt_B ?_ | refine wt_not ?_ | refine wt_and ?_ | refine wt_or ?_ | refine wt_yes ?_)
  | (with_reducible show WA _ _ _; with_reducible first | refine wa_nil ?_ | refine wa_cons (wq_of (we_var (by with_unfolding_all exact rfl) ?_)) | refine wa_slotU (by with_unfolding_all exact rfl) ?_ | refine wa_cons ?_)
  | (with_reducible show OpK _ _ _ _ _; with_reducible first | refine ok_isB ?_ | refine ok_notB ?_ | refine ok_plusI ?_ | refine ok_sub ?_ | refine ok_lt ?_ | refine ok_le ?_ | refine ok_gt ?_ | refine ok_ge ?_ | refine ok_eqI ?_ | refine ok_neI ?_ | refine ok_mod (by first | assumption | decide | omega) ?_ | refine ok_ixL (by with_unfolding_all exact rfl) ?_)
  | (with_reducible show CbK _ _ _ _; with_reducible first | refine ck_lenL ?_ | refine ck_lenT ?_ | refine ck_int ?_ | refine ck_intB ?_ | refine ck_max ?_ | refine ck_min ?_ | refine ck_list ?_)
  | with_reducible refine wq_of ?_
  | (with_reducible show WG _ _ _ _ _; with_reducible first | refine wg_name (by with_unfolding_all exact rfl) ?_ | refine wg_tup (by with_unfolding_all exact rfl) ?_ | refine wg_set (by with_unfolding_all exact rfl) ?_)
  | (with_reducible show WGs _ _ _ _ _; with_reducible first | refine wgs_cons ?_ | refine wgs_nil ?_)
  | (with_reducible show WO _ _ _; with_reducible first | refine wo_some ?_ | refine wo_none ?_)
  | refine ⟨_, argD5, ?_⟩
  | refine ⟨_, argD6, ?_⟩
  | refine ⟨_, argD7, ?_⟩
  | refine ⟨_, argD9, ?_⟩
  | with_reducible refine iteT ?_
  | with_reducible refine iteF ?_
  | with_reducible refine ⟨_, frz_per, ?_⟩
  | with_reducible refine ⟨_, frz_own, ?_⟩
  | refine ⟨_, rfl, ?_⟩
  | refine ⟨_, argD1, ?_⟩
  | refine ⟨_, argD2, ?_⟩
  | refine ⟨_, argD0, ?_⟩
  | refine ⟨_, argD3, ?_⟩
  | refine ⟨_, argD4, ?_⟩
  | refine ⟨_, _, rfl, rfl, rfl, ?_⟩
  | refine ⟨_, _, _, rfl, rfl, rfl, ?_⟩
  | refine ⟨(by simp only [List.length_cons, List.length_nil]; decide), ?_⟩
  | refine ⟨rfl, nd1, ?_⟩
  | refine ⟨rfl, nd0, ?_⟩)
local macro_rules | `(tactic| walk_at "w") => `(tactic| first
  | (with_reducible show WE _ _ _; with_reducible first | refine we_var (by with_unfolding_all exact rfl) ?_ | refine we_varF (by with_unfolding_all exact rfl) frz_own ?_ | (show WE (tOp _ _ _) _ _; first | refine we_isNd ?_ | refine we_notNd ?_ | refine we_notN ?_ | refine we_ixS (by with_unfolding_all exact rfl) ?_ | refine we_ixScr (by with_unfolding_all exact rfl) ?_ | refine we_inS (by with_unfolding_all exact rfl) ?_ | refine we_notInS (by with_unfolding_all exact rfl) ?_ | refine we_eqS (by with_unfolding_all exact rfl) ?_ | refine we_neS (by with_unfolding_all exact rfl) ?_ | refine we_opK ?_) | (show WE (tCB _ _) _ _; first | refine we_repr ?_ | refine we_isInt ?_ | refine we_isBl ?_ | refine we_isLst ?_ | refine we_isTup ?_ | refine we_lenO (by with_unfolding_all exact rfl) ?_ | refine we_lenS' (by with_unfolding_all exact rfl) ?_ | refine we_lenScr (by with_unfolding_all exact rfl) ?_ | refine we_cbK ?_) | refine we_dnew ?_ | refine we_lenSetI ?_ | refine we_revL ?_ | refine we_chain ?_ | refine we_slice ?_ | refine we_int ?_ | refine we_bl ?_ | refine we_non ?_ | refine we_str ?_ | refine we_neg ?_ | refine we_not ?_ | refine we_and ?_ | refine we_or ?_ | refine we_if ?_ | refine we_tup ?_ | refine we_lst ?_ | refine we_call ?_ | refine we_mt (by with_unfolding_all exact rfl) ?_)
  | (with_reducible show WS _ _ _ _; with_reducible first | refine ws_seqI ?_ | refine ws_seqA ?_ | refine ws_seqD ?_ | refine ws_asg (by with_unfolding_all exact rfl) ?_ | refine ws_asgG ?_ | refine ws_if ?_ | refine ws_ret ?_ | refine ws_drop ?_ | refine ws_next ?_ | refine ws_retN ?_)
  | (with_reducible show WT _ _ _; with_reducible first | refine wt_truL ?_ | refine wt_test ?_ | refine wt_B ?_ | refine wt_not ?_ | refine wt_and ?_ | refine wt_or ?_ | refine wt_yes ?_)
  | (with_reducible show WA _ _ _; with_reducible first | refine wa_nil ?_ | refine wa_cons (wq_of (we_var (by with_unfolding_all exact rfl) ?_)) | refine wa_slotU (by with_unfolding_all exact rfl) ?_ | refine wa_cons ?_)
  | (with_reducible show OpK _ _ _ _ _; with_reducible first | refine ok_neR ?_ | refine ok_eqR ?_ | refine ok_isB ?_ | refine ok_notB ?_ | refine ok_plusI ?_ | refine ok_sub ?_ | refine ok_lt ?_ | refine ok_le ?_ | refine ok_gt ?_ | refine ok_ge ?_ | refine ok_eqI ?_ | refine ok_neI ?_ | refine ok_mod (by first | assumption | decide | omega) ?_ | refine ok_ixL (by with_unfolding_all exact rfl) ?_)
  | (with_reducible show CbK _ _ _ _; with_reducible first | refine ck_tuple ?_ | refine ck_allF ?_ | refine ck_anyF ?_ | refine ck_abs ?_ | refine ck_sumI ?_ | refine ck_lenL ?_ | refine ck_lenT ?_ | refine ck_int ?_ | refine ck_intB ?_ | refine ck_max ?_ | refine ck_min ?_ | refine ck_list ?_)
  | with_reducible refine wq_of ?_
  | (with_reducible show WG _ _ _ _ _; with_reducible first | refine wg_name (by with_unfolding_all exact rfl) ?_ | refine wg_tup (by with_unfolding_all exact rfl) ?_ | refine wg_set (by with_unfolding_all exact rfl) ?_)
  | (with_reducible show WGs _ _ _ _ _; with_reducible first | refine wgs_cons ?_ | refine wgs_nil ?_)
  | (with_reducible show WO _ _ _; with_reducible first | refine wo_some ?_ | refine wo_none ?_)
  | refine ⟨_, argD5, ?_⟩
  | refine ⟨_, argD6, ?_⟩
  | refine ⟨_, argD7, ?_⟩
  | refine ⟨_, argD9, ?_⟩
  | with_reducible refine iteT ?_
  | with_reducible refine iteF ?_
  | with_reducible refine ⟨_, frz_per, ?_⟩
  | with_reducible refine ⟨_, frz_own, ?_⟩
  | refine ⟨_, rfl, ?_⟩
  | refine ⟨_, argD1, ?_⟩
  | refine ⟨_, argD2, ?_⟩
  | refine ⟨_, argD0, ?_⟩
  | refine ⟨_, argD3, ?_⟩
  | refine ⟨_, argD4, ?_⟩
  | refine ⟨_, _, rfl, rfl, rfl, ?_⟩
  | refine ⟨_, _, _, rfl, rfl, rfl, ?_⟩
  | refine ⟨(by simp only [List.length_cons, List.length_nil]; decide), ?_⟩
  | refine ⟨rfl, nd1, ?_⟩
  | refine ⟨rfl, nd0, ?_⟩
  | refine ⟨_, argD8, ?_⟩
  | refine ⟨_, argD10, ?_⟩)
local macro_rules | `(tactic| walk_at "v") => `(tactic| first
  | (with_reducible show WE _ _ _; with_reducible first | refine we_var (by with_unfolding_all exact rfl) ?_ | refine we_varF (by with_unfolding_all exact rfl) frz_own ?_ | (show WE (tOp _ _ _) _ _; first | refine we_isNd ?_ | refine we_notNd ?_ | refine we_notN ?_ | refine we_ixS (by with_unfolding_all exact rfl) ?_ | refine we_ixScr (by with_unfolding_all exact rfl) ?_ | refine we_inS (by with_unfolding_all exact rfl) ?_ | refine we_notInS (by with_unfolding_all exact rfl) ?_ | refine we_eqS (by with_unfolding_all exact rfl) ?_ | refine we_neS (by with_unfolding_all exact rfl) ?_ | refine we_opK ?_) | (show WE (tCB _ _) _ _; first | refine we_repr ?_ | refine we_lenWeb (by with_unfolding_all exact rfl) (by assumption) ?_ | refine we_isInt ?_ | refine we_isBl ?_ | refine we_isLst ?_ | refine we_isTup ?_ | refine we_lenO (by with_unfolding_all exact rfl) ?_ | refine we_lenS' (by with_unfolding_all exact rfl) ?_ | refine we_lenScr (by with_unfolding_all exact rfl) ?_ | refine we_cbK ?_) | refine we_dnew ?_ | refine we_lenSetI ?_ | refine we_revL ?_ | refine we_nbWeb (by with_unfolding_all exact rfl) (by assumption) (by assumption) ?_ | refine we_tiesWeb (by with_unfolding_all exact rfl) ?_ | refine we_chain ?_ | refine we_slice ?_ | refine we_int ?_ | refine we_bl ?_ | refine we_non ?_ | refine we_str ?_ | refine we_neg ?_ | refine we_not ?_ | refine we_and ?_ | refine we_or ?_ | refine we_if ?_ | refine we_tup ?_ | refine we_lst ?_ | refine we_call ?_ | refine we_mt (by with_unfolding_all exact rfl) ?_)
  | (with_reducible show WS _ _ _ _; with_reducible first | refine ws_seqI ?_ | refine ws_seqA ?_ | refine ws_seqD ?_ | refine ws_asg (by with_unfolding_all exact rfl) ?_ | refine ws_asgG ?_ | refine ws_if ?_ | refine ws_ret ?_ | refine ws_drop ?_ | refine ws_next ?_ | refine ws_retN ?_)
  | (with_reducible show WT _ _ _; with_reducible first | refine wt_truL ?_ | refine wt_test ?_ | refine wt_B ?_ | refine wt_not ?_ | refine wt_and ?_ | refine wt_or ?_ | refine wt_yes ?_)
  | (with_reducible show WA _ _ _; with_reducible first | refine wa_nil ?_ | refine wa_cons (wq_of (we_var (by with_unfolding_all exact rfl) ?_)) | refine wa_slotU (by with_unfolding_all exact rfl) ?_ | refine wa_cons ?_)
  | (with_reducible show OpK _ _ _ _ _; with_reducible first | refine ok_neR ?_ | refine ok_eqR ?_ | refine ok_isB ?_ | refine ok_notB ?_ | refine ok_plusI ?_ | refine ok_sub ?_ | refine ok_lt ?_ | refine ok_le ?_ | refine ok_gt ?_ | refine ok_ge ?_ | refine ok_eqI ?_ | refine ok_neI ?_ | refine ok_mod (by first | assumption | decide | omega) ?_ | refine ok_ixL (by with_unfolding_all exact rfl) ?_)
  | (with_reducible show CbK _ _ _ _; with_reducible first | refine ck_tuple ?_ | refine ck_allF ?_ | refine ck_anyF ?_ | refine ck_abs ?_ | refine ck_sumI ?_ | refine ck_lenL ?_ | refine ck_lenT ?_ | refine ck_int ?_ | refine ck_intB ?_ | refine ck_max ?_ | refine ck_min ?_ | refine ck_list ?_)
  | with_reducible refine wq_of ?_
  | (with_reducible show WG _ _ _ _ _; with_reducible first | refine wg_name (by with_unfolding_all exact rfl) ?_ | refine wg_tup (by with_unfolding_all exact rfl) ?_ | refine wg_set (by with_unfolding_all exact rfl) ?_)
  | (with_reducible show WGs _ _ _ _ _; with_reducible first | refine wgs_cons ?_ | refine wgs_nil ?_)
  | (with_reducible show WO _ _ _; with_reducible first | refine wo_some ?_ | refine wo_none ?_)
  | refine ⟨_, argD5, ?_⟩
  | refine ⟨_, argD6, ?_⟩
  | refine ⟨_, argD7, ?_⟩
  | refine ⟨_, argD9, ?_⟩
  | with_reducible refine iteT ?_
  | with_reducible refine iteF ?_
  | with_reducible refine ⟨_, frz_per, ?_⟩
  | with_reducible refine ⟨_, frz_own, ?_⟩
  | refine ⟨_, rfl, ?_⟩
  | refine ⟨_, argD1, ?_⟩
  | refine ⟨_, argD2, ?_⟩
  | refine ⟨_, argD0, ?_⟩
  | refine ⟨_, argD3, ?_⟩
  | refine ⟨_, argD4, ?_⟩
  | refine ⟨_, _, rfl, rfl, rfl, ?_⟩
  | refine ⟨_, _, _, rfl, rfl, rfl, ?_⟩
  | refine ⟨(by simp only [List.length_cons, List.length_nil]; decide), ?_⟩
  | refine ⟨rfl, nd1, ?_⟩
  | refine ⟨rfl, nd0, ?_⟩
  | refine ⟨_, argD8, ?_⟩
  | refine ⟨_, argD10, ?_⟩)
local macro_rules | `(tactic| walk_at "p") => `(tactic| refine ⟨_, _, rfl, (by omega), (by first | decide | omega), (by first | decide | omega), ?_⟩)
local macro_rules | `(tactic| walk_at "n") => `(tactic| try dsimp only [back, List.set_cons_zero, List.set_cons_succ, List.map_cons, List.map_nil, List.cons_append, List.nil_append])
local macro_rules | `(tactic| walk_at "q") => `(tactic| first | with_reducible refine ws_seqP (ws_par (by with_unfolding_all exact rfl) (by with_unfolding_all exact rfl) ?_) | refine ⟨_, _, rfl, ?_⟩ | walk_at "v")
local macro_rules | `(tactic| walk_at "j") => `(tactic| first
  | (with_reducible show WA _ _ _; with_reducible refine wa_slotJ (by with_unfolding_all exact rfl) ?_)
  | walk_at "v")
namespace J
abbrev t_law_others_0 (K : PySem.W.Frag) (a : Ad) : TS :=
  (tRet (tCB (rIsE2 K) (tCons (tVar 0) (tCons (tTup (tCons (tC (.ref (He.ga K "Over"))) (tCons (tC (.ref (He.ga K "NothingToUndo"))) (tCons (tC (.ref (He.ga K "InvalidText"))) (tCons (tC (.ref (He.ga K "InvalidCommand"))) (tCons (tC (.ref (He.ga K "NotReady"))) tNil)))))) tNil))))
abbrev t_law_others_1 (K : PySem.W.Frag) (a : Ad) : TS :=
  (tSeq (tIfS (tB (tCB (rIsE2 K) (tCons (tVar 0) (tCons (tTup (tCons (tC (.ref a.C_InvalidWeb)) (tCons (tC (.ref a.C_InvalidLists)) (tCons (tC (.ref (He.ga K "InvalidLengths"))) (tCons (tC (.ref (He.ga K "InvalidShowing"))) (tCons (tC (.ref (He.ga K "InvalidPainting"))) (tCons (tC (.ref (He.ga K "InvalidTie"))) tNil))))))) tNil)))) (tRet (tC (.bl true))) tNext)
    (t_law_others_0 K a))
def t_law_others (K : PySem.W.Frag) (a : Ad) : TS :=
  (t_law_others_1 K a)
abbrev N_law_others : List Str := ["caught"]
abbrev F_law_others (a : Ad) : Fw := fun gs kk xx => gs = [per (excP (.ref a.C_InvalidPlace))] ∧ kk (dat (.bool false)) [none]
abbrev sp_law_others (K : PySem.W.Frag) (a : Ad) : Sp := SpG 1 (F_law_others a)
theorem pure_law_others {K : PySem.W.Frag} {a : Ad} (c : Clf K a) (ec : ExcC K a.C_InvalidPlace)
    (k6 : PySem.W.kitAny K (.ref a.C_InvalidPlace) [.ref a.C_InvalidWeb, .ref a.C_InvalidLists, .ref (He.ga K "InvalidLengths"), .ref (He.ga K "InvalidShowing"), .ref (He.ga K "InvalidPainting"), .ref (He.ga K "InvalidTie")] = some false)
    (k5 : PySem.W.kitAny K (.ref a.C_InvalidPlace) [.ref (He.ga K "Over"), .ref (He.ga K "NothingToUndo"), .ref (He.ga K "InvalidText"), .ref (He.ga K "InvalidCommand"), .ref (He.ga K "NotReady")] = some false)
    {vs : List V} {H : Hp} {Q : VK} {E : XK} (h : sp_law_others K a vs H Q E) : t_law_others K a { nx := fun _ H' => Q .non H', rt := Q } (L2.start N_law_others vs) H := by
  refine body_ok (fun i => false) ?_ h
  rintro gs kk xx ⟨rfl, hk⟩ -
  unfold t_law_others
  show WS _ _ [some (per (excP (.ref a.C_InvalidPlace)))] _
  refine ws_seqI (ws_if (wt_B (wq_of (we_isEn (Cs := [a.C_InvalidWeb, a.C_InvalidLists, He.ga K "InvalidLengths", He.ga K "InvalidShowing", He.ga K "InvalidPainting", He.ga K "InvalidTie"]) rfl ec (by simp) k6 ⟨_, frz_per, false, rfl, iteF (ws_next ?_)⟩))))
  refine ws_ret (we_isEn (Cs := [He.ga K "Over", He.ga K "NothingToUndo", He.ga K "InvalidText", He.ga K "InvalidCommand", He.ga K "NotReady"]) rfl ec (by simp) k5 ?_)
  exact ⟨_, [none], Ent.refl, les_none les_nil, hk⟩
abbrev t_law_refused_0 (K : PySem.W.Frag) (a : Ad) : TS :=
  (tRet (tAndV (tCB (rIsE1 K) (tCons (tVar 2) (tCons (tC (.ref a.C_InvalidPlace)) tNil))) (tAndV (tCB (rIsE1 K) (tCons (tVar 2) (tCons (tC (.ty "ValueError")) tNil))) (tNotV (tCall (sp_law_others K a) [] E0 (tCons (tVar 2) tNil))))))
abbrev t_law_refused_1 (K : PySem.W.Frag) (a : Ad) : TS :=
  (tSeq (tryK K (.ref a.C_HueError) 3 2 (fun W => (tDrop (tCallS (sp_free K a) (L2.WE W) (tCons (tVar 0) (tCons (tVar 1) tNil))))))
    (t_law_refused_0 K a))
def t_law_refused (K : PySem.W.Frag) (a : Ad) : TS :=
  (tSeq (tAsg (tC .non) (gName 2))
    (t_law_refused_1 K a))
abbrev N_law_refused : List Str := ["web", "value", "caught", "e"]
abbrev F_law_refused (a : Ad) : Fw := fun gs kk xx => ∃ (n : Nat) (ts : List (Int × Int)) (q : Per), gs = [per (objP a.C_Web (webF n ts)), per q] ∧ n ≤ 60 ∧ Valid n ts ∧ ts.Nodup ∧ BadV n a q ∧ kk (dat (.bool true)) [none, none]
abbrev sp_law_refused (K : PySem.W.Frag) (a : Ad) : Sp := SpG 2 (F_law_refused a)
theorem pure_law_refused {K : PySem.W.Frag} {a : Ad} (c : Clf K a) (xm : PySem.W.exmOne K (.ref a.C_InvalidPlace) (.ref a.C_HueError) = some true) (ec : ExcC K a.C_InvalidPlace) (ky : PySem.W.kitOne K (.ref a.C_InvalidPlace) (.ref a.C_InvalidPlace) = some true) (kv : PySem.W.kitOne K (.ref a.C_InvalidPlace) (.type "ValueError") = some true)
    {vs : List V} {H : Hp} {Q : VK} {E : XK} (h : sp_law_refused K a vs H Q E) :
    t_law_refused K a { nx := fun _ H' => Q .non H', rt := Q } (L2.start N_law_refused vs) H := by
  refine body_ok (fun i => false) ?_ h
  rintro gs kk xx ⟨n, ts, q, rfl, hn, hv, hnd, hb, hk⟩ -
  unfold t_law_refused
  show WS _ _ [some (per (objP a.C_Web (webF n ts))), some (per q), none, none] _
  repeat walk_at "v"
  refine ws_seq (ws_tryN rfl rfl (by decide) ?_)
  refine wsw_call ?_
  repeat walk_at "v"
  refine ⟨n, ts, q, rfl, hn, hv, hnd, .inr ⟨hb, xm, ?_⟩⟩
  refine ws_ret (we_and (wq_of (we_isE1 rfl ec (.own _) ky ?_)))
  refine ⟨_, frz_per, _, rfl, iteT (we_and (wq_of (we_isE1 rfl ec (.ty _) kv ?_)))⟩
  refine ⟨_, frz_per, _, rfl, iteT (we_not (wq_of ?_))⟩
  refine we_call (wa_cons (wq_of (we_var rfl ⟨_, frz_per, wa_nil ⟨rfl, nd0, rfl, ?_⟩⟩)))
  refine ⟨_, frz_per, _, rfl, ?_⟩
  exact ⟨_, [none, none], Ent.refl, les_none (les_none les_nil), hk⟩
abbrev t_law_bad_0 (K : PySem.W.Frag) (a : Ad) : TS :=
  (tRet (tOp (rIx K) (tOp (rPlus K) (tVar 5) (tLst (tCons tDNewK (tCons (tVar 1) (tCons (tDisp [((tC (.int 0)), (tC (.int 0)))]) (tCons (tC (.str "place")) tNil)))))) (tVar 2)))
abbrev t_law_bad_1 (K : PySem.W.Frag) (a : Ad) : TS :=
  (tSeq (tAsg (tLst (tCons (tVar 3) (tCons (tOp (rPlus K) (tOp (rPlus K) (tVar 3) (tC (.int 1))) (tVar 4)) (tCons (tOp (rSubI) (tC (.int 0)) (tC (.int 1))) (tCons (tOp (rSubI) (tOp (rSubI) (tC (.int 0)) (tC (.int 2))) (tVar 4)) (tCons (tOp (rSubI) (tC (.int 0)) (tVar 3)) (tCons (tC (.bl true)) (tCons (tC (.bl false)) (tCons (tC .non) (tCons (tC (.str "")) (tCons (tC (.str "0")) (tCons (tCB (rStrI) (tCons (tVar 4) tNil)) (tCons (tLst tNil) (tCons (tLst (tCons (tC (.int 0)) tNil)) (tCons (tTup tNil) (tCons (tTup (tCons (tC (.int 0)) tNil)) tNil)))))))))))))))) (gName 5))
    (t_law_bad_0 K a))
abbrev t_law_bad_2 (K : PySem.W.Frag) (a : Ad) : TS :=
  (tSeq (tAsg (tCB (rLenOwn a.C_Web (sp_Web_len_ K a) E0) (tCons (tVar 1) tNil)) (gName 3))
    (tSeq (tAsg (tCall (sp_law_draw K) [] E0 (tCons (tVar 0) (tCons (tOp (rPowI) (tC (.int 10)) (tC (.int 9))) tNil))) (gName 4))
    (t_law_bad_1 K a)))
def t_law_bad (K : PySem.W.Frag) (a : Ad) : TS :=
  (t_law_bad_2 K a)
abbrev N_law_bad : List Str := ["jar", "web", "sort", "many", "far", "rows"]
abbrev F_law_bad (a : Ad) : Fw := fun gs kk xx => ∃ (m n : Nat) (ts : List (Int × Int)) (s : Int), gs = [jar m, per (objP a.C_Web (webF n ts)), dat (.int s)] ∧ 1 ≤ m ∧ n ≤ 60 ∧ (0 ≤ s ∧ s < 19) ∧ ∀ q, BadV n a q → kk (per q) [some (jar (m - 1)), none, none]
abbrev sp_law_bad (K : PySem.W.Frag) (a : Ad) : Sp := SpG 3 (F_law_bad a)
theorem place_out {n : Nat} {i : Int} (h : i < 0 ∨ (n : Int) ≤ i) : placeB n (.int i) = false := by
  show (decide (0 ≤ i) && decide (i < (n : Int))) = false
  rw [Bool.and_eq_false_iff, decide_eq_false_iff_not, decide_eq_false_iff_not]
  omega
theorem log_small {r : Int} (h0 : 0 ≤ r) (h : r < 10 ^ 9) : r.natAbs.log2 < 1920 := by
  by_cases c : r.natAbs = 0
  · rw [c]; decide
  · refine (Nat.log2_lt c).mpr (Nat.lt_of_lt_of_le (show r.natAbs < 2 ^ 30 by omega) (Nat.pow_le_pow_right (by decide) (by decide)))
theorem pure_law_bad {K : PySem.W.Frag} {a : Ad} (c : Clf K a) {vs : List V} {H : Hp} {Q : VK} {E : XK} (h : sp_law_bad K a vs H Q E) :
    t_law_bad K a { nx := fun _ H' => Q .non H', rt := Q } (L2.start N_law_bad vs) H := by
  refine body_ok (fun i => i == 0) ?_ h
  rintro gs kk xx ⟨m, n, ts, s, rfl, hm, hn, ⟨s0, s1⟩, hk⟩ -
  unfold t_law_bad
  show WS _ _ [some (jar m), some (per (objP a.C_Web (webF n ts))), some (dat (.int s)), none, none, none] _
  refine ws_seq (ws_asg rfl (we_lenWeb (n := n) (ts := ts) rfl (by omega) ?_))
  walk_at "n"
  repeat walk_at "j"
  refine ok_pow (cpow_of (by decide) (by decide) (by decide)) ?_
  repeat walk_at "j"
  refine ⟨_, _, rfl, by omega, by decide, by decide, fun r r0 r1 => ?_⟩
  have r1 : r < 10 ^ 9 := r1
  walk_at "n"
  refine ws_seqA (ws_asg rfl (we_lst ?_))
  repeat walk_at "j"
  refine ck_strI (log_small r0 r1) ?_
  repeat walk_at "j"
  refine ⟨[_, _, _, _, _, _, _, _, _, _, _, _, _, _, _], ⟨rfl, rfl, rfl, rfl, rfl, rfl, rfl, rfl, rfl, rfl, rfl, rfl, rfl, rfl, rfl, True.intro⟩, by simp, ?_⟩
  generalize hrows : [PyData.int n, PyData.int (n + 1 + r), PyData.int (0 - 1), PyData.int (0 - 2 - r), PyData.int (0 - n), PyData.bool true, PyData.bool false, PyData.none, PyData.str (Str.ofString ""), PyData.str (Str.ofString "0"), PyData.str (Str.ofString (toString r)), PyData.list [], PyData.list [PyData.int 0], PyData.tuple [], PyData.tuple [PyData.int 0]] = rows
  have hrl : rows.length = 15 := by rw [← hrows]; rfl
  have hbad : ∀ d ∈ rows, placeB n d = false := fun d hd => by
    rw [← hrows] at hd
    simp only [List.mem_cons, List.not_mem_nil, or_false] at hd
    rcases hd with rfl | rfl | rfl | rfl | rfl | rfl | rfl | rfl | rfl | rfl | rfl | rfl | rfl | rfl | rfl <;> first | rfl | exact place_out (by omega)
  walk_at "n"
  show WS _ _ [some (jar (m - 1)), some (per (objP a.C_Web (webF n ts))), some (dat (.int s)), some (dat (.int n)), some (dat (.int r)), some (own rows)] _
  refine ws_ret (we_ixQ (wq_of (we_catQ (wq_of (we_varF rfl frz_own ⟨_, frz_per, rows.map dP, lsQ_d, wq_of (we_lstQ ?_)⟩)))))
  refine wa_cons (wq_of (we_dnew ⟨_, frz_per, ?_⟩))
  refine wa_cons (wq_of (we_var rfl ⟨_, frz_per, ?_⟩))
  refine wa_cons (wq_of (we_disp1 (wq_of (we_int ⟨_, frz_per, 0, rfl, wq_of (we_int ⟨_, frz_per, 0, rfl, _, frz_per, ?_⟩)⟩))))
  refine wa_cons (wq_of (we_str ⟨_, frz_per, wa_nil ?_⟩))
  generalize hmore : [dP (.dict []), objP a.C_Web (webF n ts), dP (.dict [(.int 0, .int 0)]), dP (.str (Str.ofString "place"))] = more
  have hml : more.length = 4 := by rw [← hmore]; rfl
  have hall : ∀ q ∈ rows.map dP ++ more, BadV n a q := fun q hq => by
    rcases List.mem_append.mp hq with hq | hq
    · obtain ⟨d, hd, rfl⟩ := List.mem_map.mp hq
      exact .inl ⟨d, rfl, hbad d hd⟩
    · rw [← hmore] at hq
      simp only [List.mem_cons, List.not_mem_nil, or_false] at hq
      rcases hq with rfl | rfl | rfl | rfl
      · exact .inl ⟨_, rfl, rfl⟩
      · exact .inr ⟨_, rfl⟩
      · exact .inl ⟨_, rfl, rfl⟩
      · exact .inl ⟨_, rfl, rfl⟩
  have htl : (rows.map dP ++ more).length = 19 := by rw [List.length_append, List.length_map, hrl, hml]
  refine ⟨more, by rw [← hmore]; rfl, by rw [hml]; decide, _, frz_ls, more, lsQ_p, by rw [List.length_map]; omega, _, frz_ls, _, lsQ_p, ?_⟩
  refine wq_of (we_var rfl ⟨_, frz_per, s, (rows.map dP ++ more)[s.toNat]'(by omega), rfl, s0, List.getElem?_eq_getElem (by omega), ?_⟩)
  exact ⟨_, _, Ent.refl, les_some Ent.refl (les_none (les_none les_nil)), hk _ (hall _ (List.getElem_mem _))⟩
end J
end G

namespace G
open PySem L2
local macro_rules | `(tactic| walk_at "g1") => `(tactic| first
  | (with_reducible show WE _ _ _; with_reducible first | refine we_var (by with_unfolding_all exact rfl) ?_ | (show WE (tOp _ _ _) _ _; first | refine we_ixS (by with_unfolding_all exact rfl) ?_ | refine we_ixScr (by with_unfolding_all exact rfl) ?_ | refine we_inS (by with_unfolding_all exact rfl) ?_ | refine we_notInS (by with_unfolding_all exact rfl) ?_ | refine we_eqS (by with_unfolding_all exact rfl) ?_ | refine we_neS (by with_unfolding_all exact rfl) ?_ | refine we_opK ?_) | (show WE (tCB _ _) _ _; first | refine we_lenS' (by with_unfolding_all exact rfl) ?_ | refine we_lenScr (by with_unfolding_all exact rfl) ?_ | refine we_cbK ?_) | refine we_int ?_ | refine we_bl ?_ | refine we_non ?_ | refine we_str ?_ | refine we_neg ?_ | refine we_not ?_ | refine we_and ?_ | refine we_or ?_ | refine we_if ?_ | refine we_tup ?_ | refine we_lst ?_ | refine we_call ?_ | refine we_mt (by with_unfolding_all exact rfl) ?_)
  | (with_reducible show WS _ _ _ _; with_reducible first | refine ws_seqA ?_ | refine ws_seqD ?_ | refine ws_asg (by with_unfolding_all exact rfl) ?_ | refine ws_asgG ?_ | refine ws_if ?_ | refine ws_ret ?_ | refine ws_drop ?_ | refine ws_next ?_ | refine ws_retN ?_)
  | (with_reducible show WT _ _ _; with_reducible first | refine wt_test ?_ | refine wt_B ?_ | refine wt_not ?_ | refine wt_and ?_ | refine wt_or ?_ | refine wt_yes ?_)
  | (with_reducible show WA _ _ _; with_reducible first | refine wa_nil ?_ | refine wa_cons (wq_of (we_var (by with_unfolding_all exact rfl) ?_)) | refine wa_slotU (by with_unfolding_all exact rfl) ?_ | refine wa_cons ?_)
  | (with_reducible show OpK _ _ _ _ _; with_reducible first | refine ok_plusI ?_ | refine ok_sub ?_ | refine ok_lt ?_ | refine ok_le ?_ | refine ok_gt ?_ | refine ok_ge ?_ | refine ok_eqI ?_ | refine ok_neI ?_ | refine ok_mod (by first | assumption | decide | omega) ?_ | refine ok_ixL (by with_unfolding_all exact rfl) ?_)
  | (with_reducible show CbK _ _ _ _; with_reducible first | refine ck_lenL ?_ | refine ck_lenT ?_ | refine ck_int ?_ | refine ck_intB ?_ | refine ck_max ?_ | refine ck_min ?_ | refine ck_list ?_)
  | with_reducible refine wq_of ?_
  | (with_reducible show WG _ _ _ _ _; with_reducible first | refine wg_name (by with_unfolding_all exact rfl) ?_ | refine wg_tup (by with_unfolding_all exact rfl) ?_ | refine wg_set (by with_unfolding_all exact rfl) ?_)
  | (with_reducible show WGs _ _ _ _ _; with_reducible first | refine wgs_cons ?_ | refine wgs_nil ?_)
  | with_reducible refine iteT ?_
  | with_reducible refine iteF ?_
  | with_reducible refine ⟨_, frz_per, ?_⟩
  | with_reducible refine ⟨_, frz_own, ?_⟩
  | refine ⟨_, rfl, ?_⟩
  | refine ⟨_, argD1, ?_⟩
  | refine ⟨_, argD2, ?_⟩
  | refine ⟨_, argD0, ?_⟩
  | refine ⟨_, argD3, ?_⟩
  | refine ⟨_, argD4, ?_⟩
  | refine ⟨_, _, rfl, rfl, rfl, ?_⟩
  | refine ⟨_, _, _, rfl, rfl, rfl, ?_⟩
  | refine ⟨(by simp only [List.length_cons, List.length_nil]; decide), ?_⟩
  | refine ⟨rfl, nd1, ?_⟩
  | refine ⟨rfl, nd0, ?_⟩)
local macro_rules | `(tactic| walk_at "go") => `(tactic| repeat walk_at "g1")
local macro_rules | `(tactic| walk_at "g2") => `(tactic| first
  | (with_reducible show WE _ _ _; with_reducible first | refine we_var (by with_unfolding_all exact rfl) ?_ | (show WE (tOp _ _ _) _ _; first | refine we_notN ?_ | refine we_ixS (by with_unfolding_all exact rfl) ?_ | refine we_ixScr (by with_unfolding_all exact rfl) ?_ | refine we_inS (by with_unfolding_all exact rfl) ?_ | refine we_notInS (by with_unfolding_all exact rfl) ?_ | refine we_eqS (by with_unfolding_all exact rfl) ?_ | refine we_neS (by with_unfolding_all exact rfl) ?_ | refine we_opK ?_) | (show WE (tCB _ _) _ _; first | refine we_isInt ?_ | refine we_isBl ?_ | refine we_isLst ?_ | refine we_isTup ?_ | refine we_lenO (by with_unfolding_all exact rfl) ?_ | refine we_lenS' (by with_unfolding_all exact rfl) ?_ | refine we_lenScr (by with_unfolding_all exact rfl) ?_ | refine we_cbK ?_) | refine we_chain ?_ | refine we_slice ?_ | refine we_int ?_ | refine we_bl ?_ | refine we_non ?_ | refine we_str ?_ | refine we_neg ?_ | refine we_not ?_ | refine we_and ?_ | refine we_or ?_ | refine we_if ?_ | refine we_tup ?_ | refine we_lst ?_ | refine we_call ?_ | refine we_mt (by with_unfolding_all exact rfl) ?_)
  | (with_reducible show WS _ _ _ _; with_reducible first | refine ws_seqA ?_ | refine ws_seqD ?_ | refine ws_asg (by with_unfolding_all exact rfl) ?_ | refine ws_asgG ?_ | refine ws_if ?_ | refine ws_ret ?_ | refine ws_drop ?_ | refine ws_next ?_ | refine ws_retN ?_)
  | (with_reducible show WT _ _ _; with_reducible first | refine wt_test ?_ | refine wt_B ?_ | refine wt_not ?_ | refine wt_and ?_ | refine wt_or ?_ | refine wt_yes ?_)
  | (with_reducible show WA _ _ _; with_reducible first | refine wa_nil ?_ | refine wa_cons (wq_of (we_var (by with_unfolding_all exact rfl) ?_)) | refine wa_slotU (by with_unfolding_all exact rfl) ?_ | refine wa_cons ?_)
  | (with_reducible show OpK _ _ _ _ _; with_reducible first | refine ok_isB ?_ | refine ok_notB ?_ | refine ok_plusI ?_ | refine ok_sub ?_ | refine ok_lt ?_ | refine ok_le ?_ | refine ok_gt ?_ | refine ok_ge ?_ | refine ok_eqI ?_ | refine ok_neI ?_ | refine ok_mod (by first | assumption | decide | omega) ?_ | refine ok_ixL (by with_unfolding_all exact rfl) ?_)
  | (with_reducible show CbK _ _ _ _; with_reducible first | refine ck_lenL ?_ | refine ck_lenT ?_ | refine ck_int ?_ | refine ck_intB ?_ | refine ck_max ?_ | refine ck_min ?_ | refine ck_list ?_)
  | with_reducible refine wq_of ?_
  | (with_reducible show WG _ _ _ _ _; with_reducible first | refine wg_name (by with_unfolding_all exact rfl) ?_ | refine wg_tup (by with_unfolding_all exact rfl) ?_ | refine wg_set (by with_unfolding_all exact rfl) ?_)
  | (with_reducible show WGs _ _ _ _ _; with_reducible first | refine wgs_cons ?_ | refine wgs_nil ?_)
  | (with_reducible show WO _ _ _; with_reducible first | refine wo_some ?_ | refine wo_none ?_)
  | refine ⟨_, argD5, ?_⟩
  | refine ⟨_, argD6, ?_⟩
  | refine ⟨_, argD7, ?_⟩
  | refine ⟨_, argD9, ?_⟩
  | with_reducible refine iteT ?_
  | with_reducible refine iteF ?_
  | with_reducible refine ⟨_, frz_per, ?_⟩
  | with_reducible refine ⟨_, frz_own, ?_⟩
  | refine ⟨_, rfl, ?_⟩
  | refine ⟨_, argD1, ?_⟩
  | refine ⟨_, argD2, ?_⟩
  | refine ⟨_, argD0, ?_⟩
  | refine ⟨_, argD3, ?_⟩
  | refine ⟨_, argD4, ?_⟩
  | refine ⟨_, _, rfl, rfl, rfl, ?_⟩
  | refine ⟨_, _, _, rfl, rfl, rfl, ?_⟩
  | refine ⟨(by simp only [List.length_cons, List.length_nil]; decide), ?_⟩
  | refine ⟨rfl, nd1, ?_⟩
  | refine ⟨rfl, nd0, ?_⟩)
local macro_rules | `(tactic| walk_at "w") => `(tactic| first
  | (with_reducible show WE _ _ _; with_reducible first | refine we_var (by with_unfolding_all exact rfl) ?_ | refine we_varF (by with_unfolding_all exact rfl) frz_own ?_ | (show WE (tOp _ _ _) _ _; first | refine we_isNd ?_ | refine we_notNd ?_ | refine we_notN ?_ | refine we_ixS (by with_unfolding_all exact rfl) ?_ | refine we_ixScr (by with_unfolding_all exact rfl) ?_ | refine we_inS (by with_unfolding_all exact rfl) ?_ | refine we_notInS (by with_unfolding_all exact rfl) ?_ | refine we_eqS (by with_unfolding_all exact rfl) ?_ | refine we_neS (by with_unfolding_all exact rfl) ?_ | refine we_opK ?_) | (show WE (tCB _ _) _ _; first | refine we_repr ?_ | refine we_isInt ?_ | refine we_isBl ?_ | refine we_isLst ?_ | refine we_isTup ?_ | refine we_lenO (by with_unfolding_all exact rfl) ?_ | refine we_lenS' (by with_unfolding_all exact rfl) ?_ | refine we_lenScr (by with_unfolding_all exact rfl) ?_ | refine we_cbK ?_) | refine we_dnew ?_ | refine we_lenSetI ?_ | refine we_revL ?_ | refine we_chain ?_ | refine we_slice ?_ | refine we_int ?_ | refine we_bl ?_ | refine we_non ?_ | refine we_str ?_ | refine we_neg ?_ | refine we_not ?_ | refine we_and ?_ | refine we_or ?_ | refine we_if ?_ | refine we_tup ?_ | refine we_lst ?_ | refine we_call ?_ | refine we_mt (by with_unfolding_all exact rfl) ?_)
  | (with_reducible show WS _ _ _ _; with_reducible first | refine ws_seqI ?_ | refine ws_seqA ?_ | refine ws_seqD ?_ | refine ws_asg (by with_unfolding_all exact rfl) ?_ | refine ws_asgG ?_ | refine ws_if ?_ | refine ws_ret ?_ | refine ws_drop ?_ | refine ws_next ?_ | refine ws_retN ?_)
  | (with_reducible show WT _ _ _; with_reducible first | refine wt_truL ?_ | refine wt_test ?_ | refine wt_B ?_ | refine wt_not ?_ | refine wt_and ?_ | refine wt_or ?_ | refine wt_yes ?_)
  | (with_reducible show WA _ _ _; with_reducible first | refine wa_nil ?_ | refine wa_cons (wq_of (we_var (by with_unfolding_all exact rfl) ?_)) | refine wa_slotU (by with_unfolding_all exact rfl) ?_ | refine wa_cons ?_)
  | (with_reducible show OpK _ _ _ _ _; with_reducible first | refine ok_neR ?_ | refine ok_eqR ?_ | refine ok_isB ?_ | refine ok_notB ?_ | refine ok_plusI ?_ | refine ok_sub ?_ | refine ok_lt ?_ | refine ok_le ?_ | refine ok_gt ?_ | refine ok_ge ?_ | refine ok_eqI ?_ | refine ok_neI ?_ | refine ok_mod (by first | assumption | decide | omega) ?_ | refine ok_ixL (by with_unfolding_all exact rfl) ?_)
  | (with_reducible show CbK _ _ _ _; with_reducible first | refine ck_tuple ?_ | refine ck_allF ?_ | refine ck_anyF ?_ | refine ck_abs ?_ | refine ck_sumI ?_ | refine ck_lenL ?_ | refine ck_lenT ?_ | refine ck_int ?_ | refine ck_intB ?_ | refine ck_max ?_ | refine ck_min ?_ | refine ck_list ?_)
  | with_reducible refine wq_of ?_
  | (with_reducible show WG _ _ _ _ _; with_reducible first | refine wg_name (by with_unfolding_all exact rfl) ?_ | refine wg_tup (by with_unfolding_all exact rfl) ?_ | refine wg_set (by with_unfolding_all exact rfl) ?_)
  | (with_reducible show WGs _ _ _ _ _; with_reducible first | refine wgs_cons ?_ | refine wgs_nil ?_)
  | (with_reducible show WO _ _ _; with_reducible first | refine wo_some ?_ | refine wo_none ?_)
  | refine ⟨_, argD5, ?_⟩
  | refine ⟨_, argD6, ?_⟩
  | refine ⟨_, argD7, ?_⟩
  | refine ⟨_, argD9, ?_⟩
  | with_reducible refine iteT ?_
  | with_reducible refine iteF ?_
  | with_reducible refine ⟨_, frz_per, ?_⟩
  | with_reducible refine ⟨_, frz_own, ?_⟩
  | refine ⟨_, rfl, ?_⟩
  | refine ⟨_, argD1, ?_⟩
  | refine ⟨_, argD2, ?_⟩
  | refine ⟨_, argD0, ?_⟩
  | refine ⟨_, argD3, ?_⟩
  | refine ⟨_, argD4, ?_⟩
  | refine ⟨_, _, rfl, rfl, rfl, ?_⟩
  | refine ⟨_, _, _, rfl, rfl, rfl, ?_⟩
  | refine ⟨(by simp only [List.length_cons, List.length_nil]; decide), ?_⟩
  | refine ⟨rfl, nd1, ?_⟩
  | refine ⟨rfl, nd0, ?_⟩
  | refine ⟨_, argD8, ?_⟩
  | refine ⟨_, argD10, ?_⟩)
namespace J
theorem nb_perm {ts us : List (Int × Int)} (p : us.Perm ts) {w x : Int} : x ∈ nb us w ↔ x ∈ nb ts w := by unfold nb; exact (p.filterMap _).mem_iff
abbrev rgL (n : Nat) : List Int := (List.range n).map fun i : Nat => (i : Int)
def wayP (m : Nat) : List (Int × Int) := (List.range m).map fun i : Nat => ((i : Int), (i : Int) + 1)
theorem mem_wayP {m : Nat} {x y : Int} : (x, y) ∈ wayP m ↔ 0 ≤ x ∧ x < m ∧ y = x + 1 := by
  unfold wayP
  rw [List.mem_map]
  constructor
  · rintro ⟨i, hi, e⟩
    have := List.mem_range.mp hi
    cases e
    omega
  · rintro ⟨h0, h1, rfl⟩
    exact ⟨x.toNat, List.mem_range.mpr (by omega), by rw [Int.toNat_of_nonneg h0]⟩
def ringP (rg : Nat) : List (Int × Int) := if 0 < rg then [(0, (rg : Int) - 1)] else []
theorem mem_ringP {rg : Nat} {x y : Int} : (x, y) ∈ ringP rg ↔ 0 < rg ∧ x = 0 ∧ y = (rg : Int) - 1 := by
  unfold ringP
  split
  · rename_i h
    rw [List.mem_singleton, Prod.mk.injEq]
    exact ⟨fun e => ⟨h, e⟩, fun e => e.2⟩
  · rename_i h
    exact ⟨(fun e => nomatch e), (fun e => absurd e.1 h)⟩
theorem grp_39 {N rg : Nat} (h : rg = 0 ∨ 3 ≤ rg) (h1 : 1 ≤ N) (h2 : rg ≤ N) : GrpR N (wayP (N - 1) ++ ringP rg) (rgL N) (rgL rg) := by
  have adj : ∀ {x y : Int}, adjP (wayP (N - 1) ++ ringP rg) x y ↔ (0 ≤ x ∧ x < (N : Int) - 1 ∧ y = x + 1) ∨ (0 ≤ y ∧ y < (N : Int) - 1 ∧ x = y + 1) ∨ (0 < rg ∧ x = 0 ∧ y = (rg : Int) - 1) ∨ (0 < rg ∧ y = 0 ∧ x = (rg : Int) - 1) := fun {x y} => by
    unfold adjP
    rw [List.mem_append, List.mem_append, mem_wayP, mem_wayP, mem_ringP, mem_ringP]
    omega
  refine ⟨0, if rg = 0 then 1 else rg, fun x => x - 1, ⟨fun d hd => mem_rangeI.mp hd, ⟨by split <;> omega, fun x h0 h3 => mem_rangeI.mpr ⟨h0, by split at h3 <;> omega⟩⟩, fun d hd hk => ?_, fun x y hp _ => ?_⟩, ?_, ?_⟩
  · have hd := mem_rangeI.mp hd
    have hk : 1 ≤ d := by split at hk <;> omega
    exact ⟨mem_rangeI.mpr (by omega), by omega, List.mem_append_left _ (mem_wayP.mpr ⟨by omega, by omega, by omega⟩)⟩
  · rw [List.mem_append, mem_wayP, mem_ringP] at hp
    refine ⟨mem_rangeI.mpr (by omega), mem_rangeI.mpr (by omega), ?_⟩
    split <;> omega
  · exact (rangeI_lt N).imp fun {a b} h e => by omega
  · rcases h with rfl | h
    · exact .inl ⟨rfl, rfl⟩
    · rw [if_neg (by omega)]
      refine .inr ⟨fun e => ?_, (rangeI_lt rg).imp fun {a b} h e => by omega, fun x => mem_rangeI, fun x h0 h3 => ?_⟩
      · have : (0 : Int) ∈ rgL rg := mem_rangeI.mpr ⟨by omega, by omega⟩
        rw [e] at this
        cases this
      · refine ⟨if x = (rg : Int) - 1 then 0 else x + 1, if x = 0 then (rg : Int) - 1 else x - 1, ?_, ?_, ?_, ?_, ?_, adj.mpr ?_, adj.mpr ?_⟩ <;> (repeat split) <;> omega
theorem inR_39 {N rg : Nat} (h1 : 1 ≤ N) (h2 : rg ≤ N) : InR N (wayP (N - 1) ++ ringP rg) := by
  rintro ⟨x, y⟩ hp
  rw [List.mem_append, mem_wayP, mem_ringP] at hp
  dsimp only
  omega
theorem partsI_one {ts : List (Int × Int)} {n : Nat} (hv : Valid n ts) {r : Int} (hr : 0 ≤ r ∧ r < n) : partsI ts n [r] = [[r]] := by
  have nr : ∀ y, Reach (Ei ts [r]) r y → y = r := fun y h => List.mem_singleton.mp (ei_in h (by simp))
  have hh : IsHead (Ei ts [r]) r := fun y h => by rw [nr y h]; exact Int.le_refl _
  unfold partsI
  rw [List.filter_cons, if_pos (dcP_iff.mpr hh)]
  show [partC (Ei ts [r]) n r] = _
  congr 1
  exact filter_one ((rangeI_lt n).imp fun {a b} h e => by omega) (mem_rangeI.mpr hr) fun x hx => by
    rw [dcP_iff]
    exact ⟨nr x, fun e => e ▸ .refl _⟩
section
variable {N rg : Nat} {os : List Int} {π σ : Int → Int} {us ss : List (Int × Int)}
theorem conn_39 (O : Ord N os π σ) (h1 : 1 ≤ N) (h2 : rg ≤ N) (hp : us.Perm (tiesF π (wayP (N - 1) ++ ringP rg))) : ∀ i : Nat, i < N → Reach (Eb us) (π 0) (π i) := by
  intro i
  induction i with
  | zero => intro _; exact .refl _
  | succ i ih =>
    intro hi
    refine .step (ih (by omega)) ?_
    show π ((i + 1 : Nat) : Int) ∈ nb us (π i)
    rw [nb_perm hp, nb_move O (inR_39 h1 h2) (by omega) (by omega)]
    exact ⟨by omega, .inl (List.mem_append_left _ (mem_wayP.mpr ⟨by omega, by omega, by omega⟩))⟩
theorem part_39 (O : Ord N os π σ) (h1 : 1 ≤ N) (h2 : rg ≤ N) (hp : us.Perm (tiesF π (wayP (N - 1) ++ ringP rg))) {p : Int} (hr : 0 ≤ p ∧ p < N) : partC (Eb us) N p = rgL N := by
  have hv : Valid N us := fun t ht => (ties_vn O (inR_39 h1 h2)).1 t (hp.mem_iff.mp ht)
  have hc : ∀ x : Int, 0 ≤ x ∧ x < N → Reach (Eb us) (π 0) x := fun x hx => by
    have hs := O.back x hx.1 hx.2
    have := conn_39 O h1 h2 hp (σ x).toNat (by omega)
    rw [Int.toNat_of_nonneg hs.1, O.ps x hx.1 hx.2] at this
    exact this
  exact List.filter_eq_self.mpr fun x hx => dcP_iff.mpr (((hc p hr).sym (eb_sym hv)).trans (hc x (mem_rangeI.mp hx)))
theorem free_39 (O : Ord N os π σ) (h : rg = 0 ∨ 3 ≤ rg) (h1 : 1 ≤ N) (h2 : rg ≤ N) (hp : us.Perm (tiesF π (wayP (N - 1) ++ ringP rg))) {p : Int} (hr : 0 ≤ p ∧ p < N) {ss : List Int} (hc : CoreIs N us ss) :
    treeB us N ss p = decide (rg = 0) ∧ (decide (rg = 0) = true → ∃ ps : List Int, partsI us N (leftL N ss) = ps.map fun p => [p]) := by
  have hv : Valid N us := fun t ht => (ties_vn O (inR_39 h1 h2)).1 t (hp.mem_iff.mp ht)
  have nd : (rgL N).Nodup := (rangeI_lt N).imp fun {a b} h e => by omega
  have hall : ∀ z : Int, z ∈ rgL N → ∃ d ∈ rgL N, z = π d := fun z hz => by
    have hz := mem_rangeI.mp hz
    exact ⟨σ z, mem_rangeI.mpr (O.back z hz.1 hz.2), (O.ps z hz.1 hz.2).symm⟩
  unfold treeB
  rw [part_39 O h1 h2 hp hr]
  rcases grp_left O (inR_39 h1 h2) (grp_39 h h1 h2) (core_perm hp hc) with ⟨e, r, ⟨d, hd, rfl⟩, hz⟩ | ⟨e, _, hin, hz⟩
  · have hrg : rg = 0 := by
      have := congrArg List.length e
      rwa [List.length_map, List.length_range] at this
    have hd := mem_rangeI.mp hd
    have hpd := O.rng d hd.1 hd.2
    have hl : leftL N ss = [π d] := filter_one nd (mem_rangeI.mpr hpd) fun x hx => by
      rw [decide_eq_true_eq]
      exact hz x (hall x hx)
    refine ⟨?_, fun _ => ⟨[π d], ?_⟩⟩
    · rw [show (rgL N).filter (fun x => decide (x ∉ ss)) = [π d] from hl, hrg]
      rfl
    · rw [hl, partsI_one hv hpd]
      rfl
  · have hrg : rg ≠ 0 := fun z => e (by rw [z]; rfl)
    have h3 : 3 ≤ rg := by omega
    have q0 := O.rng 0 (by omega) (by omega)
    have q1 := O.rng 1 (by omega) (by omega)
    have m0 : π 0 ∉ ss := (hz _ ⟨0, mem_rangeI.mpr ⟨by omega, by omega⟩, rfl⟩).mpr ⟨0, mem_rangeI.mpr ⟨by omega, by omega⟩, rfl⟩
    have m1 : π 1 ∉ ss := (hz _ ⟨1, mem_rangeI.mpr ⟨by omega, by omega⟩, rfl⟩).mpr ⟨1, mem_rangeI.mpr ⟨by omega, by omega⟩, rfl⟩
    rw [decide_eq_false hrg]
    refine ⟨decide_eq_false fun hl => ?_, fun z => Bool.noConfusion z⟩
    have := len1 hl (x := π 0) (y := π 1) (List.mem_filter.mpr ⟨mem_rangeI.mpr q0, decide_eq_true m0⟩) (List.mem_filter.mpr ⟨mem_rangeI.mpr q1, decide_eq_true m1⟩)
    have := O.inj (by omega) (by omega) (by omega) (by omega) this
    omega
end
end J
end G

namespace G
open PySem L2
local macro_rules | `(tactic| walk_at "g1") => `(tactic| first
  | (with_reducible show WE _ _ _; with_reducible first | refine we_var (by with_unfolding_all exact rfl) ?_ | (show WE (tOp _ _ _) _ _; first | refine we_ixS (by with_unfolding_all exact rfl) ?_ | refine we_ixScr (by with_unfolding_all exact rfl) ?_ | refine we_inS (by with_unfolding_all exact rfl) ?_ | refine we_notInS (by with_unfolding_all exact rfl) ?_ | refine we_eqS (by with_unfolding_all exact rfl) ?_ | refine we_neS (by with_unfolding_all exact rfl) ?_ | refine we_opK ?_) | (show WE (tCB _ _) _ _; first | refine we_lenS' (by with_unfolding_all exact rfl) ?_ | refine we_lenScr (by with_unfolding_all exact rfl) ?_ | refine we_cbK ?_) | refine we_int ?_ | refine we_bl ?_ | refine we_non ?_ | refine we_str ?_ | refine we_neg ?_ | refine we_not ?_ | refine we_and ?_ | refine we_or ?_ | refine we_if ?_ | refine we_tup ?_ | refine we_lst ?_ | refine we_call ?_ | refine we_mt (by with_unfolding_all exact rfl) ?_)
  | (with_reducible show WS _ _ _ _; with_reducible first | refine ws_seqA ?_ | refine ws_seqD ?_ | refine ws_asg (by with_unfolding_all exact rfl) ?_ | refine ws_asgG ?_ | refine ws_if ?_ | refine ws_ret ?_ | refine ws_drop ?_ | refine ws_next ?_ | refine ws_retN ?_)
  | (with_reducible show WT _ _ _; with_reducible first | refine wt_test ?_ | refine wt_B ?_ | refine wt_not ?_ | refine wt_and ?_ | refine wt_or ?_ | refine wt_yes ?_)
  | (with_reducible show WA _ _ _; with_reducible first | refine wa_nil ?_ | refine wa_cons (wq_of (we_var (by with_unfolding_all exact rfl) ?_)) | refine wa_slotU (by with_unfolding_all exact rfl) ?_ | refine wa_cons ?_)
  | (with_reducible show OpK _ _ _ _ _; with_reducible first | refine ok_plusI ?_ | refine ok_sub ?_ | refine ok_lt ?_ | refine ok_le ?_ | refine ok_gt ?_ | refine ok_ge ?_ | refine ok_eqI ?_ | refine ok_neI ?_ | refine ok_mod (by first | assumption | decide | omega) ?_ | refine ok_ixL (by with_unfolding_all exact rfl) ?_)
  | (with_reducible show CbK _ _ _ _; with_reducible first | refine ck_lenL ?_ | refine ck_lenT ?_ | refine ck_int ?_ | refine ck_intB ?_ | refine ck_max ?_ | refine ck_min ?_ | refine ck_list ?_)
  | with_reducible refine wq_of ?_
  | (with_reducible show WG _ _ _ _ _; with_reducible first | refine wg_name (by with_unfolding_all exact rfl) ?_ | refine wg_tup (by with_unfolding_all exact rfl) ?_ | refine wg_set (by with_unfolding_all exact rfl) ?_)
  | (with_reducible show WGs _ _ _ _ _; with_reducible first | refine wgs_cons ?_ | refine wgs_nil ?_)
  | with_reducible refine iteT ?_
  | with_reducible refine iteF ?_
  | with_reducible refine ⟨_, frz_per, ?_⟩
  | with_reducible refine ⟨_, frz_own, ?_⟩
  | refine ⟨_, rfl, ?_⟩
  | refine ⟨_, argD1, ?_⟩
  | refine ⟨_, argD2, ?_⟩
  | refine ⟨_, argD0, ?_⟩
  | refine ⟨_, argD3, ?_⟩
  | refine ⟨_, argD4, ?_⟩
  | refine ⟨_, _, rfl, rfl, rfl, ?_⟩
  | refine ⟨_, _, _, rfl, rfl, rfl, ?_⟩
  | refine ⟨(by simp only [List.length_cons, List.length_nil]; decide), ?_⟩
  | refine ⟨rfl, nd1, ?_⟩
  | refine ⟨rfl, nd0, ?_⟩)
local macro_rules | `(tactic| walk_at "go") => `(tactic| repeat walk_at "g1")
local macro_rules | `(tactic| walk_at "g2") => `(tactic| first
  | (with_reducible show WE _ _ _; with_reducible first | refine we_var (by with_unfolding_all exact rfl) ?_ | (show WE (tOp _ _ _) _ _; first | refine we_notN ?_ | refine we_ixS (by with_unfolding_all exact rfl) ?_ | refine we_ixScr (by with_unfolding_all exact rfl) ?_ | refine we_inS (by with_unfolding_all exact rfl) ?_ | refine we_notInS (by with_unfolding_all exact rfl) ?_ | refine we_eqS (by with_unfolding_all exact rfl) ?_ | refine we_neS (by with_unfolding_all exact rfl) ?_ | refine we_opK ?_) | (show WE (tCB _ _) _ _; first | refine we_isInt ?_ | refine we_isBl ?_ | refine we_isLst ?_ | refine we_isTup ?_ | refine we_lenO (by with_unfolding_all exact rfl) ?_ | refine we_lenS' (by with_unfolding_all exact rfl) ?_ | refine we_lenScr (by with_unfolding_all exact rfl) ?_ | refine we_cbK ?_) | refine we_chain ?_ | refine we_slice ?_ | refine we_int ?_ | refine we_bl ?_ | refine we_non ?_ | refine we_str ?_ | refine we_neg ?_ | refine we_not ?_ | refine we_and ?_ | refine we_or ?_ | refine we_if ?_ | refine we_tup ?_ | refine we_lst ?_ | refine we_call ?_ | refine we_mt (by with_unfolding_all exact rfl) ?_)
  | (with_reducible show WS _ _ _ _; with_reducible first | refine ws_seqA ?_ | refine ws_seqD ?_ | refine ws_asg (by with_unfolding_all exact rfl) ?_ | refine ws_asgG ?_ | refine ws_if ?_ | refine ws_ret ?_ | refine ws_drop ?_ | refine ws_next ?_ | refine ws_retN ?_)
  | (with_reducible show WT _ _ _; with_reducible first | refine wt_test ?_ | refine wt_B ?_ | refine wt_not ?_ | refine wt_and ?_ | refine wt_or ?_ | refine wt_yes ?_)
  | (with_reducible show WA _ _ _; with_reducible first | refine wa_nil ?_ | refine wa_cons (wq_of (we_var (by with_unfolding_all exact rfl) ?_)) | refine wa_slotU (by with_unfolding_all exact rfl) ?_ | refine wa_cons ?_)
  | (with_reducible show OpK _ _ _ _ _; with_reducible first | refine ok_isB ?_ | refine ok_notB ?_ | refine ok_plusI ?_ | refine ok_sub ?_ | refine ok_lt ?_ | refine ok_le ?_ | refine ok_gt ?_ | refine ok_ge ?_ | refine ok_eqI ?_ | refine ok_neI ?_ | refine ok_mod (by first | assumption | decide | omega) ?_ | refine ok_ixL (by with_unfolding_all exact rfl) ?_)
  | (with_reducible show CbK _ _ _ _; with_reducible first | refine ck_lenL ?_ | refine ck_lenT ?_ | refine ck_int ?_ | refine ck_intB ?_ | refine ck_max ?_ | refine ck_min ?_ | refine ck_list ?_)
  | with_reducible refine wq_of ?_
  | (with_reducible show WG _ _ _ _ _; with_reducible first | refine wg_name (by with_unfolding_all exact rfl) ?_ | refine wg_tup (by with_unfolding_all exact rfl) ?_ | refine wg_set (by with_unfolding_all exact rfl) ?_)
  | (with_reducible show WGs _ _ _ _ _; with_reducible first | refine wgs_cons ?_ | refine wgs_nil ?_)
  | (with_reducible show WO _ _ _; with_reducible first | refine wo_some ?_ | refine wo_none ?_)
  | refine ⟨_, argD5, ?_⟩
  | refine ⟨_, argD6, ?_⟩
  | refine ⟨_, argD7, ?_⟩
  | refine ⟨_, argD9, ?_⟩
  | with_reducible refine iteT ?_
  | with_reducible refine iteF ?_
  | with_reducible refine ⟨_, frz_per, ?_⟩
  | with_reducible refine ⟨_, frz_own, ?_⟩
  | refine ⟨_, rfl, ?_⟩
  | refine ⟨_, argD1, ?_⟩
  | refine ⟨_, argD2, ?_⟩
  | refine ⟨_, argD0, ?_⟩
  | refine ⟨_, argD3, ?_⟩
  | refine ⟨_, argD4, ?_⟩
  | refine ⟨_, _, rfl, rfl, rfl, ?_⟩
  | refine ⟨_, _, _, rfl, rfl, rfl, ?_⟩
  | refine ⟨(by simp only [List.length_cons, List.length_nil]; decide), ?_⟩
  | refine ⟨rfl, nd1, ?_⟩
  | refine ⟨rfl, nd0, ?_⟩)
local macro_rules | `(tactic| walk_at "w") => `(tactic| first
  | (with_reducible show WE _ _ _; with_reducible first | refine we_var (by with_unfolding_all exact rfl) ?_ | refine we_varF (by with_unfolding_all exact rfl) frz_own ?_ | (show WE (tOp _ _ _) _ _; first | refine we_isNd ?_ | refine we_notNd ?_ | refine we_notN ?_ | refine we_ixS (by with_unfolding_all exact rfl) ?_ | refine we_ixScr (by with_unfolding_all exact rfl) ?_ | refine we_inS (by with_unfolding_all exact rfl) ?_ | refine we_notInS (by with_unfolding_all exact rfl) ?_ | refine we_eqS (by with_unfolding_all exact rfl) ?_ | refine we_neS (by with_unfolding_all exact rfl) ?_ | refine we_opK ?_) | (show WE (tCB _ _) _ _; first | refine we_repr ?_ | refine we_isInt ?_ | refine we_isBl ?_ | refine we_isLst ?_ | refine we_isTup ?_ | refine we_lenO (by with_unfolding_all exact rfl) ?_ | refine we_lenS' (by with_unfolding_all exact rfl) ?_ | refine we_lenScr (by with_unfolding_all exact rfl) ?_ | refine we_cbK ?_) | refine we_dnew ?_ | refine we_lenSetI ?_ | refine we_revL ?_ | refine we_chain ?_ | refine we_slice ?_ | refine we_int ?_ | refine we_bl ?_ | refine we_non ?_ | refine we_str ?_ | refine we_neg ?_ | refine we_not ?_ | refine we_and ?_ | refine we_or ?_ | refine we_if ?_ | refine we_tup ?_ | refine we_lst ?_ | refine we_call ?_ | refine we_mt (by with_unfolding_all exact rfl) ?_)
  | (with_reducible show WS _ _ _ _; with_reducible first | refine ws_seqI ?_ | refine ws_seqA ?_ | refine ws_seqD ?_ | refine ws_asg (by with_unfolding_all exact rfl) ?_ | refine ws_asgG ?_ | refine ws_if ?_ | refine ws_ret ?_ | refine ws_drop ?_ | refine ws_next ?_ | refine ws_retN ?_)
  | (with_reducible show WT _ _ _; with_reducible first | refine wt_truL ?_ | refine wt_test ?_ | refine wt_B ?_ | refine wt_not ?_ | refine wt_and ?_ | refine wt_or ?_ | refine wt_yes ?_)
  | (with_reducible show WA _ _ _; with_reducible first | refine wa_nil ?_ | refine wa_cons (wq_of (we_var (by with_unfolding_all exact rfl) ?_)) | refine wa_slotU (by with_unfolding_all exact rfl) ?_ | refine wa_cons ?_)
  | (with_reducible show OpK _ _ _ _ _; with_reducible first | refine ok_neR ?_ | refine ok_eqR ?_ | refine ok_isB ?_ | refine ok_notB ?_ | refine ok_plusI ?_ | refine ok_sub ?_ | refine ok_lt ?_ | refine ok_le ?_ | refine ok_gt ?_ | refine ok_ge ?_ | refine ok_eqI ?_ | refine ok_neI ?_ | refine ok_mod (by first | assumption | decide | omega) ?_ | refine ok_ixL (by with_unfolding_all exact rfl) ?_)
  | (with_reducible show CbK _ _ _ _; with_reducible first | refine ck_tuple ?_ | refine ck_allF ?_ | refine ck_anyF ?_ | refine ck_abs ?_ | refine ck_sumI ?_ | refine ck_lenL ?_ | refine ck_lenT ?_ | refine ck_int ?_ | refine ck_intB ?_ | refine ck_max ?_ | refine ck_min ?_ | refine ck_list ?_)
  | with_reducible refine wq_of ?_
  | (with_reducible show WG _ _ _ _ _; with_reducible first | refine wg_name (by with_unfolding_all exact rfl) ?_ | refine wg_tup (by with_unfolding_all exact rfl) ?_ | refine wg_set (by with_unfolding_all exact rfl) ?_)
  | (with_reducible show WGs _ _ _ _ _; with_reducible first | refine wgs_cons ?_ | refine wgs_nil ?_)
  | (with_reducible show WO _ _ _; with_reducible first | refine wo_some ?_ | refine wo_none ?_)
  | refine ⟨_, argD5, ?_⟩
  | refine ⟨_, argD6, ?_⟩
  | refine ⟨_, argD7, ?_⟩
  | refine ⟨_, argD9, ?_⟩
  | with_reducible refine iteT ?_
  | with_reducible refine iteF ?_
  | with_reducible refine ⟨_, frz_per, ?_⟩
  | with_reducible refine ⟨_, frz_own, ?_⟩
  | refine ⟨_, rfl, ?_⟩
  | refine ⟨_, argD1, ?_⟩
  | refine ⟨_, argD2, ?_⟩
  | refine ⟨_, argD0, ?_⟩
  | refine ⟨_, argD3, ?_⟩
  | refine ⟨_, argD4, ?_⟩
  | refine ⟨_, _, rfl, rfl, rfl, ?_⟩
  | refine ⟨_, _, _, rfl, rfl, rfl, ?_⟩
  | refine ⟨(by simp only [List.length_cons, List.length_nil]; decide), ?_⟩
  | refine ⟨rfl, nd1, ?_⟩
  | refine ⟨rfl, nd0, ?_⟩
  | refine ⟨_, argD8, ?_⟩
  | refine ⟨_, argD10, ?_⟩)
local macro_rules | `(tactic| walk_at "v") => `(tactic| first
  | (with_reducible show WE _ _ _; with_reducible first | refine we_var (by with_unfolding_all exact rfl) ?_ | refine we_varF (by with_unfolding_all exact rfl) frz_own ?_ | (show WE (tOp _ _ _) _ _; first | refine we_isNd ?_ | refine we_notNd ?_ | refine we_notN ?_ | refine we_ixS (by with_unfolding_all exact rfl) ?_ | refine we_ixScr (by with_unfolding_all exact rfl) ?_ | refine we_inS (by with_unfolding_all exact rfl) ?_ | refine we_notInS (by with_unfolding_all exact rfl) ?_ | refine we_eqS (by with_unfolding_all exact rfl) ?_ | refine we_neS (by with_unfolding_all exact rfl) ?_ | refine we_opK ?_) | (show WE (tCB _ _) _ _; first | refine we_repr ?_ | refine we_lenWeb (by with_unfolding_all exact rfl) (by assumption) ?_ | refine we_isInt ?_ | refine we_isBl ?_ | refine we_isLst ?_ | refine we_isTup ?_ | refine we_lenO (by with_unfolding_all exact rfl) ?_ | refine we_lenS' (by with_unfolding_all exact rfl) ?_ | refine we_lenScr (by with_unfolding_all exact rfl) ?_ | refine we_cbK ?_) | refine we_dnew ?_ | refine we_lenSetI ?_ | refine we_revL ?_ | refine we_nbWeb (by with_unfolding_all exact rfl) (by assumption) (by assumption) ?_ | refine we_tiesWeb (by with_unfolding_all exact rfl) ?_ | refine we_chain ?_ | refine we_slice ?_ | refine we_int ?_ | refine we_bl ?_ | refine we_non ?_ | refine we_str ?_ | refine we_neg ?_ | refine we_not ?_ | refine we_and ?_ | refine we_or ?_ | refine we_if ?_ | refine we_tup ?_ | refine we_lst ?_ | refine we_call ?_ | refine we_mt (by with_unfolding_all exact rfl) ?_)
  | (with_reducible show WS _ _ _ _; with_reducible first | refine ws_seqI ?_ | refine ws_seqA ?_ | refine ws_seqD ?_ | refine ws_asg (by with_unfolding_all exact rfl) ?_ | refine ws_asgG ?_ | refine ws_if ?_ | refine ws_ret ?_ | refine ws_drop ?_ | refine ws_next ?_ | refine ws_retN ?_)
  | (with_reducible show WT _ _ _; with_reducible first | refine wt_truL ?_ | refine wt_test ?_ | refine wt_B ?_ | refine wt_not ?_ | refine wt_and ?_ | refine wt_or ?_ | refine wt_yes ?_)
  | (with_reducible show WA _ _ _; with_reducible first | refine wa_nil ?_ | refine wa_cons (wq_of (we_var (by with_unfolding_all exact rfl) ?_)) | refine wa_slotU (by with_unfolding_all exact rfl) ?_ | refine wa_cons ?_)
  | (with_reducible show OpK _ _ _ _ _; with_reducible first | refine ok_neR ?_ | refine ok_eqR ?_ | refine ok_isB ?_ | refine ok_notB ?_ | refine ok_plusI ?_ | refine ok_sub ?_ | refine ok_lt ?_ | refine ok_le ?_ | refine ok_gt ?_ | refine ok_ge ?_ | refine ok_eqI ?_ | refine ok_neI ?_ | refine ok_mod (by first | assumption | decide | omega) ?_ | refine ok_ixL (by with_unfolding_all exact rfl) ?_)
  | (with_reducible show CbK _ _ _ _; with_reducible first | refine ck_tuple ?_ | refine ck_allF ?_ | refine ck_anyF ?_ | refine ck_abs ?_ | refine ck_sumI ?_ | refine ck_lenL ?_ | refine ck_lenT ?_ | refine ck_int ?_ | refine ck_intB ?_ | refine ck_max ?_ | refine ck_min ?_ | refine ck_list ?_)
  | with_reducible refine wq_of ?_
  | (with_reducible show WG _ _ _ _ _; with_reducible first | refine wg_name (by with_unfolding_all exact rfl) ?_ | refine wg_tup (by with_unfolding_all exact rfl) ?_ | refine wg_set (by with_unfolding_all exact rfl) ?_)
  | (with_reducible show WGs _ _ _ _ _; with_reducible first | refine wgs_cons ?_ | refine wgs_nil ?_)
  | (with_reducible show WO _ _ _; with_reducible first | refine wo_some ?_ | refine wo_none ?_)
  | refine ⟨_, argD5, ?_⟩
  | refine ⟨_, argD6, ?_⟩
  | refine ⟨_, argD7, ?_⟩
  | refine ⟨_, argD9, ?_⟩
  | with_reducible refine iteT ?_
  | with_reducible refine iteF ?_
  | with_reducible refine ⟨_, frz_per, ?_⟩
  | with_reducible refine ⟨_, frz_own, ?_⟩
  | refine ⟨_, rfl, ?_⟩
  | refine ⟨_, argD1, ?_⟩
  | refine ⟨_, argD2, ?_⟩
  | refine ⟨_, argD0, ?_⟩
  | refine ⟨_, argD3, ?_⟩
  | refine ⟨_, argD4, ?_⟩
  | refine ⟨_, _, rfl, rfl, rfl, ?_⟩
  | refine ⟨_, _, _, rfl, rfl, rfl, ?_⟩
  | refine ⟨(by simp only [List.length_cons, List.length_nil]; decide), ?_⟩
  | refine ⟨rfl, nd1, ?_⟩
  | refine ⟨rfl, nd0, ?_⟩
  | refine ⟨_, argD8, ?_⟩
  | refine ⟨_, argD10, ?_⟩)
local macro_rules | `(tactic| walk_at "p") => `(tactic| refine ⟨_, _, rfl, (by omega), (by first | decide | omega), (by first | decide | omega), ?_⟩)
local macro_rules | `(tactic| walk_at "n") => `(tactic| try dsimp only [back, List.set_cons_zero, List.set_cons_succ, List.map_cons, List.map_nil, List.cons_append, List.nil_append])
local macro_rules | `(tactic| walk_at "q") => `(tactic| first | with_reducible refine ws_seqP (ws_par (by with_unfolding_all exact rfl) (by with_unfolding_all exact rfl) ?_) | refine ⟨_, _, rfl, ?_⟩ | walk_at "v")
local macro_rules | `(tactic| walk_at "j") => `(tactic| first
  | (with_reducible show WA _ _ _; with_reducible refine wa_slotJ (by with_unfolding_all exact rfl) ?_)
  | walk_at "v")
namespace J
abbrev t_law_0 (K : PySem.W.Frag) (a : Ad) : TS :=
  (tIfS (tOr (tTest (tOp (rEqD K) (tCall (sp_free K a) [] E0 (tCons (tVar 9) (tCons (tVar 10) tNil))) (tVar 4))) (tOr (tNot (tB (tCall (sp_law_refused K a) [] E0 (tCons (tVar 9) (tCons (tVar 12) tNil))))) (tTest (tOp (rEqD K) (tCall (sp_free K a) [] E0 (tCons (tVar 9) (tCons (tVar 10) tNil))) (tVar 4))))) (tRet (tC (.bl false))) tNext)
abbrev t_law_1 (K : PySem.W.Frag) (a : Ad) : TS :=
  (tIfS (tOr (tNot (tB (tCB (rIsiA K) (tCons (tCall (sp_free K a) [] E0 (tCons (tVar 9) (tCons (tVar 10) tNil))) (tCons (tC (.ty "bool")) tNil))))) (tTest (tOp (rNeD K) (tProp a.C_Web (sp_Web_ties K a) [] E0 (tVar 9)) (tCB (rSortA K) (tCons (tVar 8) tNil))))) (tRet (tC (.bl false))) tNext)
abbrev t_law_2 (K : PySem.W.Frag) (a : Ad) : TS :=
  (tSeq (tAsg (tLc (iRng1 (tCons (tC (.int 6)) tNil)) (gName 14) tYes (tCall (sp_law_bad K a) [] E0 (tCons (tVar 2) (tCons (tVar 9) (tCons (tCall (sp_law_draw K) [] E0 (tCons (tVar 2) (tCons (tC (.int 19)) tNil))) tNil)))) [14]) (gName 11))
    (tSeq (tFor (iList K (tOp (rPlus K) (tVar 11) (tVar 11))) (gName 12) (t_law_0 K a))
    (t_law_1 K a)))
abbrev t_law_3 (K : PySem.W.Frag) (a : Ad) : TS :=
  (tSeq (tAsg (tMake a.C_Web (sp_Web_init_ K a) [] E0 (tCons (tVar 5) (tCons (tCB (rListOf K) (tCons (tVar 8) tNil)) tNil))) (gName 9))
    (tSeq (tAsg (tCall (sp_law_draw K) [] E0 (tCons (tVar 2) (tCons (tVar 5) tNil))) (gName 10))
    (t_law_2 K a)))
abbrev t_law_4 (K : PySem.W.Frag) (a : Ad) : TS :=
  (tSeq (tAsg (tCall (sp_law_order K) [] E0 (tCons (tVar 2) (tCons (tVar 5) tNil))) (gName 7))
    (tSeq (tAsg (tCall (sp_law_ties K) [] E0 (tCons (tVar 6) (tCons (tVar 7) tNil))) (gName 8))
    (t_law_3 K a)))
abbrev t_law_5 (K : PySem.W.Frag) (a : Ad) : TS :=
  (tSeq (tIfS (tB (tVar 4)) (tDrop (tBM K "list" (rAppend) (tVar 6) (tCons (tTup (tCons (tC (.int 0)) (tCons (tOp (rSubI) (tVar 3) (tC (.int 1))) tNil))) tNil))) tNext)
    (t_law_4 K a))
abbrev t_law_6 (K : PySem.W.Frag) (a : Ad) : TS :=
  (tSeq (tAsg (tLc (iRng1 (tCons (tOp (rSubI) (tVar 5) (tC (.int 1))) tNil)) (gName 13) tYes (tTup (tCons (tVar 13) (tCons (tOp (rPlus K) (tVar 13) (tC (.int 1))) tNil))) [13]) (gName 6))
    (t_law_5 K a))
abbrev t_law_7 (K : PySem.W.Frag) (a : Ad) : TS :=
  (tSeq (tAsg (tOp (rPlus K) (tOp (rPlus K) (tVar 3) (tC (.int 1))) (tCall (sp_law_draw K) [] E0 (tCons (tVar 2) (tCons (tC (.int 4)) tNil)))) (gName 5))
    (t_law_6 K a))
abbrev t_law_8 (K : PySem.W.Frag) (a : Ad) : TS :=
  (tSeq (tAsg (tOp (rIx K) (tLst (tCons (tC (.int 0)) (tCons (tC (.int 4)) (tCons (tC (.int 3)) tNil)))) (tCall (sp_law_draw K) [] E0 (tCons (tVar 2) (tCons (tC (.int 3)) tNil)))) (gName 3))
    (tSeq (tAsg (tOp (rGtI) (tVar 3) (tC (.int 0))) (gName 4))
    (t_law_7 K a)))
abbrev t_law_9 (K : PySem.W.Frag) (a : Ad) : TS :=
  (tSeq (tFor (iRng1 (tCons (tCB (rMax2) (tCons (tC (.int 1)) (tCons (tCB (rMin2) (tCons (tC (.int 6)) (tCons (tCB (rLenA K) (tCons (tVar 0) tNil)) tNil))) tNil))) tNil)) (gName 1) (tSeq (tAsg (tCall (sp_law_jar K) [] E0 (tCons (tVar 0) (tCons (tVar 1) tNil))) (gName 2))
    (t_law_8 K a)))
    (tRet (tC (.bl true))))
def t_law (K : PySem.W.Frag) (a : Ad) : TS :=
  (t_law_9 K a)
abbrev N_law : List Str := ["script", "k", "jar", "ring", "ringed", "many", "pairs", "order", "ties", "web", "place", "values", "value", "number", "turn"]
abbrev F_law (K : PySem.W.Frag) (a : Ad) : Fw := fun gs kk xx => ∃ (ns : List Int), gs = [per (scrP K ns)] ∧ ns.length ≤ 63 ∧ kk (dat (.bool true)) [none]
abbrev sp_law (K : PySem.W.Frag) (a : Ad) : Sp := SpG 1 (F_law K a)
theorem pure_law {K : PySem.W.Frag} {a : Ad} (c : Clf K a) {vs : List V} {H : Hp} {Q : VK} {E : XK} (h : sp_law K a vs H Q E) :
    t_law K a { nx := fun _ H' => Q .non H', rt := Q } (L2.start N_law vs) H := by
  refine body_ok (fun i => false) ?_ h
  rintro gs kk xx ⟨ns, rfl, hn, hk⟩ -
  unfold t_law
  have hbig : big = 1000000000000000 := rfl
  show WS _ _ [some (per (scrP K ns)), none, none, none, none, none, none, none, none, none, none, none, none, none, none] _
  refine ws_seq (ws_forF (fun i : Nat => .int (i : Int)) (fun pre Γ => ∃ (o1 o2 o3 o4 o5 o6 o7 o8 o9 o10 o11 o12 o13 o14 : Option Gp), Γ = [some (per (scrP K ns)), o1, o2, o3, o4, o5, o6, o7, o8, o9, o10, o11, o12, o13, o14]) (wil_range1 ?_))
  repeat walk_at "v"
  refine ⟨?_, ?_, List.range _, rfl, ⟨_, _, _, _, _, _, _, _, _, _, _, _, _, _, rfl⟩, ?_, ?_⟩
  · split <;> split <;> omega
  · split <;> split <;> omega
  · rintro _ ⟨o1, o2, o3, o4, o5, o6, o7, o8, o9, o10, o11, o12, o13, o14, rfl⟩
    repeat walk_at "v"
    exact ⟨_, _, Ent.refl, les_none les_nil, hk⟩
  · rintro pre i post _ hs ⟨o1, o2, o3, o4, o5, o6, o7, o8, o9, o10, o11, o12, o13, o14, rfl⟩
    obtain ⟨rfl, hlt⟩ := range_split hs
    have hlt : pre.length ≤ 63 := by
      have : pre.length < (if (if (ns.length : Int) < 6 then (ns.length : Int) else 6) > 1 then (if (ns.length : Int) < 6 then (ns.length : Int) else 6) else 1).toNat := hlt
      revert this
      split <;> split <;> omega
    generalize pre.length = i at hlt
    clear hs
    refine wg_name rfl ?_
    walk_at "n"
    refine ws_non 13 ?_
    refine ws_non 14 ?_
    walk_at "n"
    repeat walk_at "j"
    refine ⟨ns, (i : Int), rfl, by omega, by omega, hn, ?_⟩
    walk_at "n"
    show WS _ _ [some (per (scrP K ns)), some (dat (.int (i : Int))), some (jar big), o3, o4, o5, o6, o7, o8, o9, o10, o11, o12, none, none] _
    refine ws_cut (fun Γ => ∃ rg : Nat, Γ = [some (per (scrP K ns)), some (dat (.int (i : Int))), some (jar (big - 1)), some (dat (.int (rg : Int))), o4, o5, o6, o7, o8, o9, o10, o11, o12, none, none] ∧ (rg = 0 ∨ rg = 4 ∨ rg = 3)) ?_ ?_
    · repeat walk_at "j"
      refine ⟨_, _, rfl, by omega, by omega, by omega, fun r r0 r1 => ?_⟩
      obtain ⟨z, hz, z0⟩ : ∃ z : Nat, atI [PyData.int 0, PyData.int 4, PyData.int 3] r = some (.int (z : Int)) ∧ (z = 0 ∨ z = 4 ∨ z = 3) := by
        have : r = 0 ∨ r = 1 ∨ r = 2 := by omega
        rcases this with h | h | h <;> rw [h]
        · exact ⟨0, rfl, .inl rfl⟩
        · exact ⟨4, rfl, .inr (.inl rfl)⟩
        · exact ⟨3, rfl, .inr (.inr rfl)⟩
      refine ⟨_, frz_per, _, rfl, ok_ixL hz ?_⟩
      exact ⟨z, rfl, z0⟩
    rintro _ ⟨rg, rfl, hrg⟩
    walk_at "n"
    repeat walk_at "j"
    refine ⟨_, _, rfl, by omega, by omega, by omega, fun r r0 r1 => ?_⟩
    repeat walk_at "j"
    obtain ⟨N, hN, hN1, hN2, hN3⟩ : ∃ N : Nat, (rg : Int) + 1 + r = (N : Int) ∧ 1 ≤ N ∧ rg ≤ N ∧ N ≤ 8 := ⟨((rg : Int) + 1 + r).toNat, by omega, by omega, by omega, by omega⟩
    rw [hN]
    refine we_lcM (fun i : Nat => .int (i : Int)) tieD (fun i : Nat => ((i : Int), (i : Int) + 1)) (wil_range1 ?_)
    repeat walk_at "j"
    refine ⟨by omega, by omega, List.range (N - 1), by rw [show ((N : Int) - 1).toNat = N - 1 by omega], rfl, by rw [List.length_range]; omega, fun j hj => ?_, ?_⟩
    · refine wg_name rfl ?_
      walk_at "n"
      repeat walk_at "j"
      exact ⟨rfl, rfl⟩
    rw [show (List.range (N - 1)).map (fun i : Nat => ((i : Int), (i : Int) + 1)) = wayP (N - 1) from rfl]
    have hwl : (wayP (N - 1)).length = N - 1 := by unfold wayP; rw [List.length_map, List.length_range]
    walk_at "n"
    refine ws_cut (fun Γ => Γ = [some (per (scrP K ns)), some (dat (.int (i : Int))), some (jar (big - 1 - 1)), some (dat (.int (rg : Int))), some (dat (.bool (decide (0 < (rg : Int))))), some (dat (.int (N : Int))), some (own ((wayP (N - 1) ++ ringP rg).map tieD)), o7, o8, o9, o10, o11, o12, none, none]) ?_ ?_
    · refine ws_if (wt_B (wq_of (we_var rfl ⟨_, frz_per, _, rfl, ?_⟩)))
      refine ite_dec (fun h0 => ?_) fun h0 => ws_next ?_
      · repeat walk_at "j"
        refine ⟨_, _, _, _, rfl, argD1, mo_append (by rw [List.length_map, hwl]; omega), ?_⟩
        unfold ringP
        rw [if_pos (by omega : 0 < rg), List.map_append]
        rfl
      · unfold ringP
        rw [if_neg (by omega : ¬ 0 < rg), List.append_nil]
    rintro _ rfl
    generalize hps : wayP (N - 1) ++ ringP rg = ps
    have hpl : ps.length ≤ 20 := by
      rw [← hps, List.length_append, hwl]
      unfold ringP
      split <;> simp <;> omega
    have hin : InR N ps := by rw [← hps]; exact inR_39 hN1 hN2
    walk_at "n"
    repeat walk_at "j"
    refine ⟨_, N, rfl, by omega, by omega, fun os hos => ?_⟩
    obtain ⟨O, osn, osr⟩ := ord_of hos
    generalize (fun x : Int => os.getD x.toNat 0) = π at O
    generalize (fun x : Int => (os.idxOf x : Int)) = σ at O
    walk_at "n"
    refine ws_frz (i := 6) rfl frz_own ?_
    refine ws_frz (i := 7) rfl frz_own ?_
    walk_at "n"
    repeat walk_at "j"
    refine ⟨N, os, π, σ, ps, rfl, O, hin, by omega, ?_⟩
    obtain ⟨tv, tn⟩ := ties_vn O hin
    have tl := ties_len (π := π) (ps := ps) (ts := [])
    rw [show ps.foldl (tieStep π) [] = tiesF π ps from rfl, List.length_nil] at tl
    have hfree : ∀ {us : List (Int × Int)} {p : Int} {ss : List Int}, us.Perm (tiesF π ps) → 0 ≤ p ∧ p < N → CoreIs N us ss → treeB us N ss p = decide (rg = 0) ∧ (decide (rg = 0) = true → ∃ qs : List Int, partsI us N (leftL N ss) = qs.map fun p => [p]) := fun {us p ss} hp hr hc => by
      rw [← hps] at hp
      exact free_39 O (by omega) hN1 hN2 hp hr hc
    generalize tiesF π ps = ts at tv tn tl hfree
    walk_at "n"
    refine ws_frz (i := 8) rfl frz_own ?_
    walk_at "n"
    refine ws_seq (ws_asg rfl (we_makeWebW ?_))
    repeat walk_at "j"
    refine ⟨N, ts, rfl, by omega, tv, tn, fun us hp hus => ?_⟩
    have uv : Valid N us := fun t ht => tv t (hp.mem_iff.mp ht)
    have un : us.Nodup := hp.nodup_iff.mpr tn
    walk_at "n"
    refine ws_frz (i := 9) rfl frz_ins ?_
    walk_at "n"
    repeat walk_at "j"
    refine ⟨_, _, rfl, by omega, by omega, by omega, fun p p0 p1 => ?_⟩
    obtain ⟨p, rfl⟩ : ∃ q : Nat, p = (q : Int) := ⟨p.toNat, by omega⟩
    walk_at "n"
    generalize hm2 : big - 1 - 1 - N - 1 = m2
    have hm3 : 1000 ≤ m2 := by omega
    show WS _ _ [some (per (scrP K ns)), some (dat (.int (i : Int))), some (jar m2), some (dat (.int (rg : Int))), some (dat (.bool (decide (0 < (rg : Int))))), some (dat (.int (N : Int))), some (dat (.list (ps.map tieD))), some (dat (.list (os.map .int))), some (dat (.list (ts.map tieD))), some (per (objP a.C_Web (webF N us))), some (dat (.int (p : Int))), o11, o12, none, none] _
    refine ws_seq (ws_asg rfl (we_lcQ (fun k acc Γ => ∃ m : Nat, Γ = [some (per (scrP K ns)), some (dat (.int (i : Int))), some (jar m), some (dat (.int (rg : Int))), some (dat (.bool (decide (0 < (rg : Int))))), some (dat (.int (N : Int))), some (dat (.list (ps.map tieD))), some (dat (.list (os.map .int))), some (dat (.list (ts.map tieD))), some (per (objP a.C_Web (webF N us))), some (dat (.int (p : Int))), o11, o12, none, none] ∧ m2 ≤ m + 2 * k ∧ acc.length = k ∧ ∀ q ∈ acc, BadV N a q) (wi_range1 ?_)))
    repeat walk_at "j"
    refine ⟨by omega, by omega, ⟨m2, rfl, by omega, rfl, fun q hq => nomatch hq⟩, ?_, ?_⟩
    rotate_left
    · rintro k acc _ hk6 ⟨m, rfl, h1, h2, h3⟩ -
      have hk6 : k < 6 := hk6
      refine wg_name rfl ?_
      walk_at "n"
      refine wt_yes (iteT ?_)
      repeat walk_at "j"
      refine ⟨_, _, rfl, by omega, by omega, by omega, fun s s0 s1 => ?_⟩
      repeat walk_at "j"
      refine ⟨_, N, us, s, rfl, by omega, by omega, ⟨s0, s1⟩, fun q hq => ?_⟩
      refine ⟨_, frz_per, by omega, m - 1 - 1, rfl, by omega, by rw [List.length_append, h2]; rfl, fun q' hq' => ?_⟩
      rcases List.mem_append.mp hq' with hq' | hq'
      · exact h3 q' hq'
      · rw [List.mem_singleton.mp hq']; exact hq
    rintro acc _ ⟨m, rfl, h1, h2, h3⟩
    have h2 : acc.length = 6 := h2
    walk_at "n"
    refine ws_frz (i := 11) rfl frz_ls ?_
    walk_at "n"
    show WS _ _ [some (per (scrP K ns)), some (dat (.int (i : Int))), some (jar m), some (dat (.int (rg : Int))), some (dat (.bool (decide (0 < (rg : Int))))), some (dat (.int (N : Int))), some (dat (.list (ps.map tieD))), some (dat (.list (os.map .int))), some (dat (.list (ts.map tieD))), some (per (objP a.C_Web (webF N us))), some (dat (.int (p : Int))), some (per (lsP acc)), o12, none, none] _
    have hfr : ∀ {Γ : Ga} {k : Gp → Ga → Prop}, Γ[9]? = some (some (per (objP a.C_Web (webF N us)))) → Γ[10]? = some (some (dat (.int (p : Int)))) → k (dat (.bool (decide (rg = 0)))) Γ → WE (tCall (sp_free K a) [] E0 (tCons (tVar 9) (tCons (tVar 10) tNil))) Γ k := fun {Γ k} h9 h10 hk => by
      refine we_call (wa_cons (wq_of (we_var h9 ⟨_, frz_per, wa_cons (wq_of (we_var h10 ⟨_, frz_per, wa_nil ⟨rfl, nd0, N, us, _, rfl, by omega, uv, un, .inl ⟨p, decide (rg = 0), rfl, by omega, fun ss hss => hfree hp ⟨by omega, by omega⟩ hss, hk⟩⟩⟩))⟩)))
    refine ws_seq (ws_forQ (fun k Γ => ∃ o12 : Option Gp, Γ = [some (per (scrP K ns)), some (dat (.int (i : Int))), some (jar m), some (dat (.int (rg : Int))), some (dat (.bool (decide (0 < (rg : Int))))), some (dat (.int (N : Int))), some (dat (.list (ps.map tieD))), some (dat (.list (os.map .int))), some (dat (.list (ts.map tieD))), some (per (objP a.C_Web (webF N us))), some (dat (.int (p : Int))), some (per (lsP acc)), o12, none, none]) (acc ++ acc) ?_)
    refine wq_of (we_catQ (wq_of (we_var rfl ⟨_, frz_per, acc, lsQ_p, wq_of (we_var rfl ⟨_, frz_per, acc, lsQ_p, by omega, _, frz_ls, lsQ_p, ⟨_, rfl⟩, ?_, ?_⟩)⟩)))
    rotate_left
    · rintro k q _ hq ⟨o12, rfl⟩
      have hqb : BadV N a q := by
        rcases List.mem_append.mp (List.mem_of_getElem? hq) with h | h <;> exact h3 q h
      refine wg_name rfl ?_
      walk_at "n"
      show WS _ _ [some (per (scrP K ns)), some (dat (.int (i : Int))), some (jar m), some (dat (.int (rg : Int))), some (dat (.bool (decide (0 < (rg : Int))))), some (dat (.int (N : Int))), some (dat (.list (ps.map tieD))), some (dat (.list (os.map .int))), some (dat (.list (ts.map tieD))), some (per (objP a.C_Web (webF N us))), some (dat (.int (p : Int))), some (per (lsP acc)), some (per q), none, none] _
      have hne : decide ((decide (rg = 0)) = decide (0 < (rg : Int))) = false := decide_eq_false fun e => by
        by_cases c : rg = 0
        · rw [decide_eq_true c, decide_eq_false (by omega : ¬ 0 < (rg : Int))] at e; cases e
        · rw [decide_eq_false c, decide_eq_true (by omega : 0 < (rg : Int))] at e; cases e
      refine ws_if (wt_or (wt_test (wq_of (we_opK (wq_of (hfr rfl rfl ⟨_, frz_per, _, rfl, wq_of (we_var rfl ⟨_, frz_per, _, rfl, ?_⟩)⟩))))))
      refine ok_eqE enc_bool ?_
      rw [hne]
      refine ⟨_, frz_per, false, rfl, iteF ?_⟩
      refine wt_or (wt_not (wt_B (wq_of (we_call (wa_cons (wq_of (we_var rfl ⟨_, frz_per, wa_cons (wq_of (we_var rfl ⟨_, frz_per, wa_nil ⟨rfl, nd0, N, us, q, rfl, by omega, uv, un, hqb, ?_⟩⟩))⟩)))))))
      refine ⟨_, frz_per, true, rfl, iteF ?_⟩
      refine wt_test (wq_of (we_opK (wq_of (hfr rfl rfl ⟨_, frz_per, _, rfl, wq_of (we_var rfl ⟨_, frz_per, _, rfl, ?_⟩)⟩))))
      refine ok_eqE enc_bool ?_
      rw [hne]
      exact ⟨_, frz_per, false, rfl, iteF (ws_next ⟨_, rfl⟩)⟩
    · rintro _ ⟨o12, rfl⟩
      refine ws_if (wt_or (wt_not (wt_B (wq_of (we_isBl (wq_of (hfr rfl rfl ⟨_, frz_per, _, rfl, ?_⟩)))))))
      refine ⟨_, frz_per, true, rfl, iteF ?_⟩
      refine wt_test (wq_of (we_opK (wq_of (we_tiesWeb (n := N) (ts := us) rfl ?_))))
      repeat walk_at "v"
      refine ck_sortP fun ts' hp' hs' => ?_
      rw [lex_uniq hs' hus (hp'.trans hp.symm)]
      refine ⟨_, frz_own, _, rfl, ?_⟩
      refine ok_neE enc_tie.lst (x := us) (y := us) ⟨_, frz_per, _, rfl, ?_⟩
      exact ite_ndec (fun h => absurd rfl h) fun _ => ws_next ⟨_, _, _, _, _, _, _, _, _, _, _, _, _, _, rfl⟩
end J
end G

namespace G.J
open PySem PySem.Spec L2
theorem un64 {k : Nat} {A : Around} (hr : Room k A) : A.units + 64 < cLine := by have := un65 hr; omega
abbrev FnP (K : PySem.W.Frag) (x qual : Str) (st : Stmt) (f : Addr) (fd : FuncData) : Prop := FunD K x qual (defArgs st) (defBody st) (defScope st) [] [] f fd
theorem sc_near_among : FnScope ["web", "places", "place", "near"] ["web", "places"] (defScope s_near_among) := ⟨rfl, rfl, rfl, by decide +kernel, rfl, by decide +kernel, by decide +kernel⟩
theorem sc_parts_among : FnScope ["web", "places", "near", "found", "left", "part", "at", "other", "place"] ["web", "places"] (defScope s_parts_among) := ⟨rfl, rfl, rfl, by decide +kernel, rfl, by decide +kernel, by decide +kernel⟩
theorem sc_is_count : FnScope ["value"] ["value"] (defScope s_is_count) := ⟨rfl, rfl, rfl, by decide +kernel, rfl, by decide +kernel, by decide +kernel⟩
theorem sc_core : FnScope ["web", "near", "struck", "leaf", "other", "place"] ["web"] (defScope s_core) := ⟨rfl, rfl, rfl, by decide +kernel, rfl, by decide +kernel, by decide +kernel⟩
theorem sc_good_parts : FnScope ["web", "places"] ["web"] (defScope s_good_parts) := ⟨rfl, rfl, rfl, by decide +kernel, rfl, by decide +kernel, by decide +kernel⟩
theorem sc_least_leaf : FnScope ["near", "place", "own"] ["near"] (defScope s_least_leaf) := ⟨rfl, rfl, rfl, by decide +kernel, rfl, by decide +kernel, by decide +kernel⟩
theorem sc_core_parts : FnScope ["web"] ["web"] (defScope s_core_parts) := ⟨rfl, rfl, rfl, by decide +kernel, rfl, by decide +kernel, by decide +kernel⟩
theorem sc_form : FnScope ["web", "places", "near", "hubs", "place"] ["web", "places"] (defScope s_form) := ⟨rfl, rfl, rfl, by decide +kernel, rfl, by decide +kernel, by decide +kernel⟩
theorem sc_even_ring : FnScope ["near", "least", "ring"] ["near", "least"] (defScope s_even_ring) := ⟨rfl, rfl, rfl, by decide +kernel, rfl, by decide +kernel, by decide +kernel⟩
theorem sc_three_ways : FnScope ["near", "s", "t", "ways", "between", "many", "first", "way"] ["near", "s", "t"] (defScope s_three_ways) := ⟨rfl, rfl, rfl, by decide +kernel, rfl, by decide +kernel, by decide +kernel⟩
theorem sc_is_tie : FnScope ["places", "value", "u", "v"] ["places", "value"] (defScope s_is_tie) := ⟨rfl, rfl, rfl, by decide +kernel, rfl, by decide +kernel, by decide +kernel⟩
theorem sc_check_web : FnScope ["places", "ties", "tie"] ["places", "ties"] (defScope s_check_web) := ⟨rfl, rfl, rfl, by decide +kernel, rfl, by decide +kernel, by decide +kernel⟩
theorem sc_neighbour_lists : FnScope ["places", "ties", "near", "u", "v", "place"] ["places", "ties"] (defScope s_neighbour_lists) := ⟨rfl, rfl, rfl, by decide +kernel, rfl, by decide +kernel, by decide +kernel⟩
theorem sc_Web_init_ : FnScope ["self", "places", "ties", "u", "v"] ["self", "places", "ties"] (defScope s_Web_init_) := ⟨rfl, rfl, rfl, by decide +kernel, rfl, by decide +kernel, by decide +kernel⟩
theorem sc_Web_ties : FnScope ["self"] ["self"] (defScope s_Web_ties) := ⟨rfl, rfl, rfl, by decide +kernel, rfl, by decide +kernel, by decide +kernel⟩
theorem sc_Web_len_ : FnScope ["self"] ["self"] (defScope s_Web_len_) := ⟨rfl, rfl, rfl, by decide +kernel, rfl, by decide +kernel, by decide +kernel⟩
theorem sc_Web_neighbours : FnScope ["self", "place"] ["self", "place"] (defScope s_Web_neighbours) := ⟨rfl, rfl, rfl, by decide +kernel, rfl, by decide +kernel, by decide +kernel⟩
theorem sc_Web_parts : FnScope ["self", "found", "seen", "place", "part", "other"] ["self"] (defScope s_Web_parts) := ⟨rfl, rfl, rfl, by decide +kernel, rfl, by decide +kernel, by decide +kernel⟩
theorem sc_Web_part_of : FnScope ["self", "place", "reached", "waiting", "here", "near"] ["self", "place"] (defScope s_Web_part_of) := ⟨rfl, rfl, rfl, by decide +kernel, rfl, by decide +kernel, by decide +kernel⟩
theorem sc_free : FnScope ["web", "place"] ["web", "place"] (defScope s_free) := ⟨rfl, rfl, rfl, by decide +kernel, rfl, by decide +kernel, by decide +kernel⟩
theorem sc_is_in_tree : FnScope ["web", "place", "left", "own", "part", "other"] ["web", "place"] (defScope s_is_in_tree) := ⟨rfl, rfl, rfl, by decide +kernel, rfl, by decide +kernel, by decide +kernel⟩
theorem sc_law_jar : FnScope ["script", "k", "cell", "size"] ["script", "k"] (defScope s_law_jar) := ⟨rfl, rfl, rfl, by decide +kernel, rfl, by decide +kernel, by decide +kernel⟩
theorem sc_law_draw : FnScope ["jar", "many", "drawn", "mixed"] ["jar", "many"] (defScope s_law_draw) := ⟨rfl, rfl, rfl, by decide +kernel, rfl, by decide +kernel, by decide +kernel⟩
theorem sc_law_order : FnScope ["jar", "many", "rest", "order", "turn"] ["jar", "many"] (defScope s_law_order) := ⟨rfl, rfl, rfl, by decide +kernel, rfl, by decide +kernel, by decide +kernel⟩
theorem sc_law_ties : FnScope ["pairs", "order", "ties", "u", "v", "tie"] ["pairs", "order"] (defScope s_law_ties) := ⟨rfl, rfl, rfl, by decide +kernel, rfl, by decide +kernel, by decide +kernel⟩
theorem sc_law_others : FnScope ["caught"] ["caught"] (defScope s_law_others) := ⟨rfl, rfl, rfl, by decide +kernel, rfl, by decide +kernel, by decide +kernel⟩
theorem sc_law_bad : FnScope ["jar", "web", "sort", "many", "far", "rows"] ["jar", "web", "sort"] (defScope s_law_bad) := ⟨rfl, rfl, rfl, by decide +kernel, rfl, by decide +kernel, by decide +kernel⟩
theorem sc_law_refused : FnScope ["web", "value", "caught", "e"] ["web", "value"] (defScope s_law_refused) := ⟨rfl, rfl, rfl, by decide +kernel, rfl, by decide +kernel, by decide +kernel⟩
theorem sc_law : FnScope ["script", "k", "jar", "ring", "ringed", "many", "pairs", "order", "ties", "web", "place", "values", "value", "number", "turn"] ["script"] (defScope s_law) := ⟨rfl, rfl, rfl, by decide +kernel, rfl, by decide +kernel, by decide +kernel⟩
structure Txt (K : PySem.W.Frag) (mg : Str → Option Value) (a : Ad) where
  cf : Clf K a
  g_HueError : mg "HueError" = some (.ref a.C_HueError)
  g_InvalidWeb : mg "InvalidWeb" = some (.ref a.C_InvalidWeb)
  g_InvalidPlace : mg "InvalidPlace" = some (.ref a.C_InvalidPlace)
  g_InvalidLists : mg "InvalidLists" = some (.ref a.C_InvalidLists)
  g_InvalidLengths : mg "InvalidLengths" = some (.ref (He.ga K "InvalidLengths"))
  g_InvalidShowing : mg "InvalidShowing" = some (.ref (He.ga K "InvalidShowing"))
  g_InvalidPainting : mg "InvalidPainting" = some (.ref (He.ga K "InvalidPainting"))
  g_InvalidTie : mg "InvalidTie" = some (.ref (He.ga K "InvalidTie"))
  g_Over : mg "Over" = some (.ref (He.ga K "Over"))
  g_NothingToUndo : mg "NothingToUndo" = some (.ref (He.ga K "NothingToUndo"))
  g_InvalidText : mg "InvalidText" = some (.ref (He.ga K "InvalidText"))
  g_InvalidCommand : mg "InvalidCommand" = some (.ref (He.ga K "InvalidCommand"))
  g_NotReady : mg "NotReady" = some (.ref (He.ga K "NotReady"))
  g_Web : mg "Web" = some (.ref a.C_Web)
  xF_HueError : PySem.W.excIn K a.C_HueError [.type "ValueError", .type "Exception", .type "BaseException", .type "object"] "ValueError.__new__" = true
  kF_HueError : PySem.W.keepIn K (.ref a.C_HueError) = true
  bF_HueError : PySem.W.subIn K (.ref a.C_HueError) (.type "BaseException") = some true
  tF_HueError : PySem.W.typeIn K (.ref a.C_HueError) = some (.type "type")
  xF_InvalidWeb : PySem.W.excIn K a.C_InvalidWeb [.type "ValueError", .type "Exception", .type "BaseException", .type "object"] "ValueError.__new__" = true
  kF_InvalidWeb : PySem.W.keepIn K (.ref a.C_InvalidWeb) = true
  bF_InvalidWeb : PySem.W.subIn K (.ref a.C_InvalidWeb) (.type "BaseException") = some true
  tF_InvalidWeb : PySem.W.typeIn K (.ref a.C_InvalidWeb) = some (.type "type")
  xF_InvalidPlace : PySem.W.excIn K a.C_InvalidPlace [.type "ValueError", .type "Exception", .type "BaseException", .type "object"] "ValueError.__new__" = true
  kF_InvalidPlace : PySem.W.keepIn K (.ref a.C_InvalidPlace) = true
  bF_InvalidPlace : PySem.W.subIn K (.ref a.C_InvalidPlace) (.type "BaseException") = some true
  tF_InvalidPlace : PySem.W.typeIn K (.ref a.C_InvalidPlace) = some (.type "type")
  xF_InvalidLists : PySem.W.excIn K a.C_InvalidLists [.type "ValueError", .type "Exception", .type "BaseException", .type "object"] "ValueError.__new__" = true
  kF_InvalidLists : PySem.W.keepIn K (.ref a.C_InvalidLists) = true
  bF_InvalidLists : PySem.W.subIn K (.ref a.C_InvalidLists) (.type "BaseException") = some true
  tF_InvalidLists : PySem.W.typeIn K (.ref a.C_InvalidLists) = some (.type "type")
  xF_InvalidLengths : PySem.W.excIn K (He.ga K "InvalidLengths") [.type "ValueError", .type "Exception", .type "BaseException", .type "object"] "ValueError.__new__" = true
  kF_InvalidLengths : PySem.W.keepIn K (.ref (He.ga K "InvalidLengths")) = true
  bF_InvalidLengths : PySem.W.subIn K (.ref (He.ga K "InvalidLengths")) (.type "BaseException") = some true
  tF_InvalidLengths : PySem.W.typeIn K (.ref (He.ga K "InvalidLengths")) = some (.type "type")
  xF_InvalidShowing : PySem.W.excIn K (He.ga K "InvalidShowing") [.type "ValueError", .type "Exception", .type "BaseException", .type "object"] "ValueError.__new__" = true
  kF_InvalidShowing : PySem.W.keepIn K (.ref (He.ga K "InvalidShowing")) = true
  bF_InvalidShowing : PySem.W.subIn K (.ref (He.ga K "InvalidShowing")) (.type "BaseException") = some true
  tF_InvalidShowing : PySem.W.typeIn K (.ref (He.ga K "InvalidShowing")) = some (.type "type")
  xF_InvalidPainting : PySem.W.excIn K (He.ga K "InvalidPainting") [.type "ValueError", .type "Exception", .type "BaseException", .type "object"] "ValueError.__new__" = true
  kF_InvalidPainting : PySem.W.keepIn K (.ref (He.ga K "InvalidPainting")) = true
  bF_InvalidPainting : PySem.W.subIn K (.ref (He.ga K "InvalidPainting")) (.type "BaseException") = some true
  tF_InvalidPainting : PySem.W.typeIn K (.ref (He.ga K "InvalidPainting")) = some (.type "type")
  xF_InvalidTie : PySem.W.excIn K (He.ga K "InvalidTie") [.type "ValueError", .type "Exception", .type "BaseException", .type "object"] "ValueError.__new__" = true
  kF_InvalidTie : PySem.W.keepIn K (.ref (He.ga K "InvalidTie")) = true
  bF_InvalidTie : PySem.W.subIn K (.ref (He.ga K "InvalidTie")) (.type "BaseException") = some true
  tF_InvalidTie : PySem.W.typeIn K (.ref (He.ga K "InvalidTie")) = some (.type "type")
  xF_Over : PySem.W.excIn K (He.ga K "Over") [.type "ValueError", .type "Exception", .type "BaseException", .type "object"] "ValueError.__new__" = true
  kF_Over : PySem.W.keepIn K (.ref (He.ga K "Over")) = true
  bF_Over : PySem.W.subIn K (.ref (He.ga K "Over")) (.type "BaseException") = some true
  tF_Over : PySem.W.typeIn K (.ref (He.ga K "Over")) = some (.type "type")
  xF_NothingToUndo : PySem.W.excIn K (He.ga K "NothingToUndo") [.type "ValueError", .type "Exception", .type "BaseException", .type "object"] "ValueError.__new__" = true
  kF_NothingToUndo : PySem.W.keepIn K (.ref (He.ga K "NothingToUndo")) = true
  bF_NothingToUndo : PySem.W.subIn K (.ref (He.ga K "NothingToUndo")) (.type "BaseException") = some true
  tF_NothingToUndo : PySem.W.typeIn K (.ref (He.ga K "NothingToUndo")) = some (.type "type")
  xF_InvalidText : PySem.W.excIn K (He.ga K "InvalidText") [.type "ValueError", .type "Exception", .type "BaseException", .type "object"] "ValueError.__new__" = true
  kF_InvalidText : PySem.W.keepIn K (.ref (He.ga K "InvalidText")) = true
  bF_InvalidText : PySem.W.subIn K (.ref (He.ga K "InvalidText")) (.type "BaseException") = some true
  tF_InvalidText : PySem.W.typeIn K (.ref (He.ga K "InvalidText")) = some (.type "type")
  xF_InvalidCommand : PySem.W.excIn K (He.ga K "InvalidCommand") [.type "ValueError", .type "Exception", .type "BaseException", .type "object"] "ValueError.__new__" = true
  kF_InvalidCommand : PySem.W.keepIn K (.ref (He.ga K "InvalidCommand")) = true
  bF_InvalidCommand : PySem.W.subIn K (.ref (He.ga K "InvalidCommand")) (.type "BaseException") = some true
  tF_InvalidCommand : PySem.W.typeIn K (.ref (He.ga K "InvalidCommand")) = some (.type "type")
  xF_NotReady : PySem.W.excIn K (He.ga K "NotReady") [.type "ValueError", .type "Exception", .type "BaseException", .type "object"] "ValueError.__new__" = true
  kF_NotReady : PySem.W.keepIn K (.ref (He.ga K "NotReady")) = true
  bF_NotReady : PySem.W.subIn K (.ref (He.ga K "NotReady")) (.type "BaseException") = some true
  tF_NotReady : PySem.W.typeIn K (.ref (He.ga K "NotReady")) = some (.type "type")
  f_near_among : Addr
  fd_near_among : FuncData
  F_near_among : FnP K "near_among" "near_among" s_near_among f_near_among fd_near_among
  g_near_among : mg "near_among" = some (.ref f_near_among)
  f_parts_among : Addr
  fd_parts_among : FuncData
  F_parts_among : FnP K "parts_among" "parts_among" s_parts_among f_parts_among fd_parts_among
  g_parts_among : mg "parts_among" = some (.ref f_parts_among)
  f_is_count : Addr
  fd_is_count : FuncData
  F_is_count : FnP K "is_count" "is_count" s_is_count f_is_count fd_is_count
  g_is_count : mg "is_count" = some (.ref f_is_count)
  f_walk : Addr
  fd_walk : FuncData
  F_walk : FnP K "walk" "walk" s_walk f_walk fd_walk
  g_walk : mg "walk" = some (.ref f_walk)
  f_core : Addr
  fd_core : FuncData
  F_core : FnP K "core" "core" s_core f_core fd_core
  g_core : mg "core" = some (.ref f_core)
  f_good_parts : Addr
  fd_good_parts : FuncData
  F_good_parts : FnP K "good_parts" "good_parts" s_good_parts f_good_parts fd_good_parts
  g_good_parts : mg "good_parts" = some (.ref f_good_parts)
  f_least_leaf : Addr
  fd_least_leaf : FuncData
  F_least_leaf : FnP K "_least_leaf" "_least_leaf" s_least_leaf f_least_leaf fd_least_leaf
  g_least_leaf : mg "_least_leaf" = some (.ref f_least_leaf)
  f_core_parts : Addr
  fd_core_parts : FuncData
  F_core_parts : FnP K "_core_parts" "_core_parts" s_core_parts f_core_parts fd_core_parts
  g_core_parts : mg "_core_parts" = some (.ref f_core_parts)
  f_form : Addr
  fd_form : FuncData
  F_form : FnP K "_form" "_form" s_form f_form fd_form
  g_form : mg "_form" = some (.ref f_form)
  f_even_ring : Addr
  fd_even_ring : FuncData
  F_even_ring : FnP K "_even_ring" "_even_ring" s_even_ring f_even_ring fd_even_ring
  g_even_ring : mg "_even_ring" = some (.ref f_even_ring)
  f_three_ways : Addr
  fd_three_ways : FuncData
  F_three_ways : FnP K "_three_ways" "_three_ways" s_three_ways f_three_ways fd_three_ways
  g_three_ways : mg "_three_ways" = some (.ref f_three_ways)
  f_is_tie : Addr
  fd_is_tie : FuncData
  F_is_tie : FnP K "_is_tie" "_is_tie" s_is_tie f_is_tie fd_is_tie
  g_is_tie : mg "_is_tie" = some (.ref f_is_tie)
  f_check_web : Addr
  fd_check_web : FuncData
  F_check_web : FnP K "_check_web" "_check_web" s_check_web f_check_web fd_check_web
  g_check_web : mg "_check_web" = some (.ref f_check_web)
  f_neighbour_lists : Addr
  fd_neighbour_lists : FuncData
  F_neighbour_lists : FnP K "_neighbour_lists" "_neighbour_lists" s_neighbour_lists f_neighbour_lists fd_neighbour_lists
  g_neighbour_lists : mg "_neighbour_lists" = some (.ref f_neighbour_lists)
  f_Web_init_ : Addr
  fd_Web_init_ : FuncData
  F_Web_init_ : FnP K "__init__" "Web.__init__" s_Web_init_ f_Web_init_ fd_Web_init_
  M_Web : Mk K a.C_Web f_Web_init_
  f_Web_ties : Addr
  fd_Web_ties : FuncData
  F_Web_ties : FnP K "ties" "Web.ties" s_Web_ties f_Web_ties fd_Web_ties
  p_Web_ties : Addr
  pr_Web_ties : PropOf K a.C_Web "ties" p_Web_ties f_Web_ties
  f_Web_len_ : Addr
  fd_Web_len_ : FuncData
  F_Web_len_ : FnP K "__len__" "Web.__len__" s_Web_len_ f_Web_len_ fd_Web_len_
  l_Web : PySem.W.findIn K (.ref a.C_Web) "__len__" = some (some (.ref f_Web_len_))
  lf_Web : PySem.W.isFn K (.ref f_Web_len_) = true
  f_Web_neighbours : Addr
  fd_Web_neighbours : FuncData
  F_Web_neighbours : FnP K "neighbours" "Web.neighbours" s_Web_neighbours f_Web_neighbours fd_Web_neighbours
  m_Web_neighbours : Meth K a.C_Web "neighbours" f_Web_neighbours
  f_Web_parts : Addr
  fd_Web_parts : FuncData
  F_Web_parts : FnP K "parts" "Web.parts" s_Web_parts f_Web_parts fd_Web_parts
  m_Web_parts : Meth K a.C_Web "parts" f_Web_parts
  f_Web_part_of : Addr
  fd_Web_part_of : FuncData
  F_Web_part_of : FnP K "_part_of" "Web._part_of" s_Web_part_of f_Web_part_of fd_Web_part_of
  m_Web_part_of : Meth K a.C_Web "_part_of" f_Web_part_of
  f_free : Addr
  fd_free : FuncData
  F_free : FnP K "free" "free" s_free f_free fd_free
  g_free : mg "free" = some (.ref f_free)
  f_is_in_tree : Addr
  fd_is_in_tree : FuncData
  F_is_in_tree : FnP K "_is_in_tree" "_is_in_tree" s_is_in_tree f_is_in_tree fd_is_in_tree
  g_is_in_tree : mg "_is_in_tree" = some (.ref f_is_in_tree)
  f_law_jar : Addr
  fd_law_jar : FuncData
  F_law_jar : FnP K "_law_jar" "_law_jar" s_law_jar f_law_jar fd_law_jar
  g_law_jar : mg "_law_jar" = some (.ref f_law_jar)
  f_law_draw : Addr
  fd_law_draw : FuncData
  F_law_draw : FnP K "_law_draw" "_law_draw" s_law_draw f_law_draw fd_law_draw
  g_law_draw : mg "_law_draw" = some (.ref f_law_draw)
  f_law_order : Addr
  fd_law_order : FuncData
  F_law_order : FnP K "_law_order" "_law_order" s_law_order f_law_order fd_law_order
  g_law_order : mg "_law_order" = some (.ref f_law_order)
  f_law_ties : Addr
  fd_law_ties : FuncData
  F_law_ties : FnP K "_law_ties" "_law_ties" s_law_ties f_law_ties fd_law_ties
  g_law_ties : mg "_law_ties" = some (.ref f_law_ties)
  f_law_others : Addr
  fd_law_others : FuncData
  F_law_others : FnP K "_law_others" "_law_others" s_law_others f_law_others fd_law_others
  g_law_others : mg "_law_others" = some (.ref f_law_others)
  f_law_bad : Addr
  fd_law_bad : FuncData
  F_law_bad : FnP K "_law_bad" "_law_bad" s_law_bad f_law_bad fd_law_bad
  g_law_bad : mg "_law_bad" = some (.ref f_law_bad)
  f_law_refused : Addr
  fd_law_refused : FuncData
  F_law_refused : FnP K "_law_refused" "_law_refused" s_law_refused f_law_refused fd_law_refused
  g_law_refused : mg "_law_refused" = some (.ref f_law_refused)
  f_law : Addr
  fd_law : FuncData
  F_law : FnP K "law" "law" s_law f_law fd_law
  g_law : mg "law" = some (.ref f_law)
  z_ValueError : mg "ValueError" = none
  z_abs : mg "abs" = none
  z_all : mg "all" = none
  z_bool : mg "bool" = none
  z_enumerate : mg "enumerate" = none
  z_int : mg "int" = none
  z_isinstance : mg "isinstance" = none
  z_len : mg "len" = none
  z_list : mg "list" = none
  z_max : mg "max" = none
  z_min : mg "min" = none
  z_range : mg "range" = none
  z_set : mg "set" = none
  z_sorted : mg "sorted" = none
  z_str : mg "str" = none
  z_tuple : mg "tuple" = none
  xm : PySem.W.exmOne K (.ref a.C_InvalidPlace) (.ref a.C_HueError) = some true
  ec : ExcC K a.C_InvalidPlace
  ky : PySem.W.kitOne K (.ref a.C_InvalidPlace) (.ref a.C_InvalidPlace) = some true
  kv : PySem.W.kitOne K (.ref a.C_InvalidPlace) (.type "ValueError") = some true
  k6 : PySem.W.kitAny K (.ref a.C_InvalidPlace) [.ref a.C_InvalidWeb, .ref a.C_InvalidLists, .ref (He.ga K "InvalidLengths"), .ref (He.ga K "InvalidShowing"), .ref (He.ga K "InvalidPainting"), .ref (He.ga K "InvalidTie")] = some false
  k5 : PySem.W.kitAny K (.ref a.C_InvalidPlace) [.ref (He.ga K "Over"), .ref (He.ga K "NothingToUndo"), .ref (He.ga K "InvalidText"), .ref (He.ga K "InvalidCommand"), .ref (He.ga K "NotReady")] = some false
  wi : PySem.W.kitOne K (.ref a.C_Web) (.type "int") = some false
section
variable {P : Program} {w : World} {K : PySem.W.Frag} {mg : Str → Option Value} {base : Heap} {a : Ad}
theorem b_is_count (T : Txt K mg a) : Binds K T.fd_is_count ["value"] [] := T.F_is_count.bindsN fun _ _ _ _ _ _ us hl => match us, hl with | [_], _ => rfl
theorem ok_is_count (T : Txt K mg a) : FnOk P w K mg base CX0 1 T.f_is_count T.fd_is_count ["value"] (sp_is_count K) := by
  refine T.F_is_count.ok sc_is_count (fun vs H Q E h => SpG.len vs H Q E h) (fun cdv A outer s H vs Q E hr h => ⟨t_is_count K, PSs.nox ?_, pure_is_count h⟩)
  show PSs _ _ (t_is_count_0 K)
  exact (pss_one (ps_ret (pe_and (pe_callB c_isi (by rfl) T.z_isinstance bt_isinstance (pa_cons (pv 0) (pa_cons (pe_bltn (v := .ty "int") (by rfl) T.z_int bt_int rfl) pa_nil))) (pe_and (pe_not (pe_callB c_isi (by rfl) T.z_isinstance bt_isinstance (pa_cons (pv 0) (pa_cons (pe_bltn (v := .ty "bool") (by rfl) T.z_bool bt_bool rfl) pa_nil)))) (pe_one (pe_cmpR op_ge (pv 0) pe_int (nomark _)))))))
theorem ok_is_count2 (T : Txt K mg a) : FnOk P w K mg base CX0 1 T.f_is_count T.fd_is_count ["value"] (sp_is_count2 K a) := by
  refine T.F_is_count.ok sc_is_count (fun vs H Q E h => SpG.len vs H Q E h) (fun cdv A outer s H vs Q E hr h => ⟨t_is_count2 K a, PSs.nox ?_, pure_is_count2 T.cf T.wi h⟩)
  show PSs _ _ (t_is_count2_0 K a)
  exact (pss_one (ps_ret (pe_and (pe_callB c_isi (by rfl) T.z_isinstance bt_isinstance (pa_cons (pv 0) (pa_cons (pe_bltn (v := .ty "int") (by rfl) T.z_int bt_int rfl) pa_nil))) (pe_and (pe_not (pe_callB c_isi (by rfl) T.z_isinstance bt_isinstance (pa_cons (pv 0) (pa_cons (pe_bltn (v := .ty "bool") (by rfl) T.z_bool bt_bool rfl) pa_nil)))) (pe_one (pe_cmpR op_ge (pv 0) pe_int (nomark _)))))))
theorem b_least_leaf (T : Txt K mg a) : Binds K T.fd_least_leaf ["near"] [] := T.F_least_leaf.bindsN fun _ _ _ _ _ _ us hl => match us, hl with | [_], _ => rfl
theorem ok_least_leaf (T : Txt K mg a) : FnOk P w K mg base CX0 1 T.f_least_leaf T.fd_least_leaf ["near"] (sp_least_leaf K) := by
  refine T.F_least_leaf.ok sc_least_leaf (fun vs H Q E h => SpG.len vs H Q E h) (fun cdv A outer s H vs Q E hr h => ⟨t_least_leaf K, PSs.nox ?_, pure_least_leaf h⟩)
  show PSs _ _ (t_least_leaf_0 K)
  exact (pss_cons (ps_for PassesOwn.never rfl (pi_enum (by rfl) T.z_enumerate (pa_cons (pv 0) pa_nil)) (pg_tup rfl (pgs_cons (pg_name (i := 1) sc_least_leaf.nd rfl (Or.inl rfl)) (pgs_cons (pg_name (i := 2) sc_least_leaf.nd rfl (Or.inl rfl)) pgs_nil))) (pss_one (ps_if (pt_cmpR (op_eqD hr.units) (pe_callB c_len (by rfl) T.z_len bt_len (pa_cons (pv 2) pa_nil)) pe_int (nomark _)) (pss_one (ps_ret (pv 1))) pss_nil))) (pss_one (ps_ret pe_non)))
theorem b_neighbour_lists (T : Txt K mg a) : Binds K T.fd_neighbour_lists ["places", "ties"] [] := T.F_neighbour_lists.bindsN fun _ _ _ _ _ _ us hl => match us, hl with | [_, _], _ => rfl
theorem ok_neighbour_lists (T : Txt K mg a) : FnOk P w K mg base CX0 1 T.f_neighbour_lists T.fd_neighbour_lists ["places", "ties"] (sp_neighbour_lists K) := by
  refine T.F_neighbour_lists.ok sc_neighbour_lists (fun vs H Q E h => SpG.len vs H Q E h) (fun cdv A outer s H vs Q E hr h => ⟨t_neighbour_lists K, PSs.nox ?_, pure_neighbour_lists h⟩)
  show PSs _ _ (t_neighbour_lists_1 K)
  exact (pss_cons (ps_setLc (i := 2) (own := [("place", 5)]) (g := (gName 5)) (tt := tYes) rfl sc_neighbour_lists.nd rfl rfl (sw_true rfl rfl rfl (by decide +kernel)) (pi_range1 (by rfl) T.z_range (pa_cons (pv 0) pa_nil)) (blkOk_by (own := [("place", 5)]) (N := ["places", "ties", "near", "u", "v", "place"]) (sc := defScope s_neighbour_lists) (by decide +kernel)) (fun _ _ _ _ _ => (pg_name (i := 5) sc_neighbour_lists.nd rfl (Or.inl rfl))) (fun _ _ _ _ _ => pts_nil) (fun _ _ _ _ _ => (pe_lst pa_nil))) (pss_cons (ps_for PassesOwn.never rfl (pi_list (pv 1)) (pg_tup rfl (pgs_cons (pg_name (i := 3) sc_neighbour_lists.nd rfl (Or.inl rfl)) (pgs_cons (pg_name (i := 4) sc_neighbour_lists.nd rfl (Or.inl rfl)) pgs_nil))) (pss_cons (ps_expr (pe_bm PySem.F.plainAttrs_list PySem.F.slot_list_append PySem.F.type_list_append mt_append (pe_ix ix_seq (pv 2) (pv 3) (fun _ _ => rfl)) (pa_cons (pv 4) pa_nil))) (pss_one (ps_expr (pe_bm PySem.F.plainAttrs_list PySem.F.slot_list_append PySem.F.type_list_append mt_append (pe_ix ix_seq (pv 2) (pv 4) (fun _ _ => rfl)) (pa_cons (pv 3) pa_nil)))))) (pss_one (ps_ret (pv 2)))))
theorem b_Web_ties (T : Txt K mg a) : Binds K T.fd_Web_ties ["self"] [] := T.F_Web_ties.bindsN fun _ _ _ _ _ _ us hl => match us, hl with | [_], _ => rfl
theorem ok_Web_ties (T : Txt K mg a) : FnOk P w K mg base CX0 1 T.f_Web_ties T.fd_Web_ties ["self"] (sp_Web_ties K a) := by
  refine T.F_Web_ties.ok sc_Web_ties (fun vs H Q E h => SpG.len vs H Q E h) (fun cdv A outer s H vs Q E hr h => ⟨t_Web_ties K a, PSs.nox ?_, pure_Web_ties T.cf h⟩)
  exact (pss_one (ps_ret (pe_callTy c_list (by rfl) T.z_list bt_list (pa_cons (pe_fld (pv 0) rfl) pa_nil))))
theorem b_Web_len_ (T : Txt K mg a) : Binds K T.fd_Web_len_ ["self"] [] := T.F_Web_len_.bindsN fun _ _ _ _ _ _ us hl => match us, hl with | [_], _ => rfl
theorem ok_Web_len_ (T : Txt K mg a) : FnOk P w K mg base CX0 1 T.f_Web_len_ T.fd_Web_len_ ["self"] (sp_Web_len_ K a) := by
  refine T.F_Web_len_.ok sc_Web_len_ (fun vs H Q E h => SpG.len vs H Q E h) (fun cdv A outer s H vs Q E hr h => ⟨t_Web_len_ K a, PSs.nox ?_, pure_Web_len_ T.cf h⟩)
  exact (pss_one (ps_ret (pe_callB c_len (by rfl) T.z_len bt_len (pa_cons (pe_fld (pv 0) rfl) pa_nil))))
theorem b_Web_part_of (T : Txt K mg a) : Binds K T.fd_Web_part_of ["self", "place"] [] := T.F_Web_part_of.bindsN fun _ _ _ _ _ _ us hl => match us, hl with | [_, _], _ => rfl
theorem ok_Web_part_of (T : Txt K mg a) : FnOk P w K mg base CX0 1 T.f_Web_part_of T.fd_Web_part_of ["self", "place"] (sp_Web_part_of K a) := by
  refine T.F_Web_part_of.okC sc_Web_part_of (fun vs H Q E h => SpG.len vs H Q E h) (fun cdv hcd A outer s H vs Q E hr h => ⟨t_Web_part_of K w a, PSs.nox ?_, pure_Web_part_of T.cf h⟩)
  exact (pss_cons (ps_set (i := 2) sc_Web_part_of.nd rfl (Or.inl rfl) (GSO.pe_set1 rfl hcd (pv 1))) (pss_cons (ps_set (i := 3) sc_Web_part_of.nd rfl (Or.inl rfl) (pe_lst (pa_cons (pv 1) pa_nil))) (pss_cons (ps_while PassesOwn.never (pt_truth (pv 3) (fun _ => rfl)) (pss_cons (ps_set (i := 4) sc_Web_part_of.nd rfl (Or.inl rfl) (pe_bm0 PySem.F.plainAttrs_list PySem.F.slot_list_pop PySem.F.type_list_pop mt_pop (pv 3))) (pss_one (ps_for PassesOwn.never rfl (pi_list (pe_ix ix_seq (pe_fld (pv 0) rfl) (pv 4) (fun _ _ => rfl))) (pg_name (i := 5) sc_Web_part_of.nd rfl (Or.inl rfl)) (pss_one (ps_if (pt_cmpR or_snotin (pv 5) (pv 2) (by rfl)) (pss_cons (ps_expr (pe_sadd (pv 2) (pa_cons (pv 5) pa_nil))) (pss_one (ps_expr (pe_bm PySem.F.plainAttrs_list PySem.F.slot_list_append PySem.F.type_list_append mt_append (pv 3) (pa_cons (pv 5) pa_nil))))) pss_nil)))))) (pss_one (ps_ret (pe_callB (cr_sortedSet rfl) (by rfl) T.z_sorted bt_sorted (pa_cons (pv 2) pa_nil)))))))
theorem b_law_jar (T : Txt K mg a) : Binds K T.fd_law_jar ["script", "k"] [] := T.F_law_jar.bindsN fun _ _ _ _ _ _ us hl => match us, hl with | [_, _], _ => rfl
theorem ok_law_jar (T : Txt K mg a) : FnOk P w K mg base CX0 1 T.f_law_jar T.fd_law_jar ["script", "k"] (sp_law_jar K) := by
  refine T.F_law_jar.ok sc_law_jar (fun vs H Q E h => SpG.len vs H Q E h) (fun cdv A outer s H vs Q E hr h => ⟨t_law_jar K, PSs.nox ?_, pure_law_jar h⟩)
  exact (pss_cons (ps_set (i := 2) sc_law_jar.nd rfl (Or.inl rfl) pe_int) (pss_cons (ps_if (pt_cmpR op_lt (pv 1) (pe_callB c_len (by rfl) T.z_len bt_len (pa_cons (pv 0) pa_nil)) (nomark _)) (pss_one (ps_set (i := 2) sc_law_jar.nd rfl (Or.inl rfl) (pe_ix ix_seq (pv 0) (pv 1) (fun _ _ => rfl)))) pss_nil) (pss_cons (ps_set (i := 3) sc_law_jar.nd rfl (Or.inl rfl) (pe_callB c_abs (by rfl) T.z_abs bt_abs (pa_cons (pv 2) pa_nil))) (pss_one (ps_ret (pe_lst (pa_cons (pe_callB (c_max rfl) (by rfl) T.z_max bt_max (pa_cons pe_int (pa_cons (pe_op op_sub (pv 3) (pe_op op_pow pe_int pe_int)) pa_nil))) (pa_cons (pe_op op_plus (pe_op op_mul (pe_op op_mod (pe_callTy c_int (by rfl) T.z_int bt_int (pa_cons (pv 3) pa_nil)) (pe_op op_plus (pe_op op_pow pe_int pe_int) pe_int)) pe_int) (pe_callTy c_int (by rfl) T.z_int bt_int (pa_cons (pe_cmpR op_lt (pv 2) pe_int (nomark _)) pa_nil))) (pa_cons (pe_op op_plus (pe_op op_mul pe_int (pv 1)) pe_int) pa_nil)))))))))
theorem b_law_draw (T : Txt K mg a) : Binds K T.fd_law_draw ["jar", "many"] [] := T.F_law_draw.bindsN fun _ _ _ _ _ _ us hl => match us, hl with | [_, _], _ => rfl
theorem ok_law_draw (T : Txt K mg a) : FnOk P w K mg base CX0 1 T.f_law_draw T.fd_law_draw ["jar", "many"] (sp_law_draw K) := by
  refine T.F_law_draw.ok sc_law_draw (fun vs H Q E h => SpG.len vs H Q E h) (fun cdv A outer s H vs Q E hr h => ⟨t_law_draw K, PSs.nox ?_, pure_law_draw h⟩)
  show PSs _ _ (t_law_draw_4 K)
  exact (pss_cons (ps_if (pt_cmpR op_gt (pe_ix ix_seq (pv 0) pe_int (fun _ _ => rfl)) pe_int (nomark _)) (pss_cons (ps_set (i := 2) sc_law_draw.nd rfl (Or.inl rfl) (pe_op op_mod (pe_callTy c_int (by rfl) T.z_int bt_int (pa_cons (pe_ix ix_seq (pv 0) pe_int (fun _ _ => rfl)) pa_nil)) (pv 1))) (pss_cons (ps_asg (pe_op op_fdivW (pe_ix ix_seq (pv 0) pe_int (fun _ _ => rfl)) (pv 1)) (pg_sub (pv 0) pe_int set_list)) (pss_one (ps_ret (pv 2))))) pss_nil) (pss_cons (ps_asg (pe_op op_plus (pe_ix ix_seq (pv 0) pe_int (fun _ _ => rfl)) pe_int) (pg_sub (pv 0) pe_int set_list)) (pss_cons (ps_set (i := 3) sc_law_draw.nd rfl (Or.inl rfl) (pe_op op_plus (pe_op op_plus (pe_op op_mulW (pe_ix ix_seq (pv 0) pe_int (fun _ _ => rfl)) pe_int) (pe_op op_mulW (pe_op op_mulW (pe_ix ix_seq (pv 0) pe_int (fun _ _ => rfl)) (pe_ix ix_seq (pv 0) pe_int (fun _ _ => rfl))) pe_int)) (pe_ix ix_seq (pv 0) pe_int (fun _ _ => rfl)))) (pss_cons (ps_set (i := 3) sc_law_draw.nd rfl (Or.inl rfl) (pe_op op_mod (pe_callTy c_int (by rfl) T.z_int bt_int (pa_cons (pe_op op_mulW (pv 3) (pv 3)) pa_nil)) (pe_op op_plus (pe_op op_pow pe_int pe_int) pe_int))) (pss_cons (ps_set (i := 3) sc_law_draw.nd rfl (Or.inl rfl) (pe_op op_mod (pe_callTy c_int (by rfl) T.z_int bt_int (pa_cons (pe_op op_plus (pe_op op_mulW (pv 3) (pv 3)) (pe_ix ix_seq (pv 0) pe_int (fun _ _ => rfl))) pa_nil)) (pe_op op_plus (pe_op op_pow pe_int pe_int) pe_int))) (pss_one (ps_ret (pe_op op_mod (pe_callTy c_int (by rfl) T.z_int bt_int (pa_cons (pe_op op_fdivW (pv 3) pe_int) pa_nil)) (pv 1)))))))))
theorem b_law_ties (T : Txt K mg a) : Binds K T.fd_law_ties ["pairs", "order"] [] := T.F_law_ties.bindsN fun _ _ _ _ _ _ us hl => match us, hl with | [_, _], _ => rfl
theorem ok_law_ties (T : Txt K mg a) : FnOk P w K mg base CX0 1 T.f_law_ties T.fd_law_ties ["pairs", "order"] (sp_law_ties K) := by
  refine T.F_law_ties.ok sc_law_ties (fun vs H Q E h => SpG.len vs H Q E h) (fun cdv A outer s H vs Q E hr h => ⟨t_law_ties K, PSs.nox ?_, pure_law_ties h⟩)
  show PSs _ _ (t_law_ties_2 K)
  exact (pss_cons (ps_set (i := 2) sc_law_ties.nd rfl (Or.inl rfl) (pe_lst pa_nil)) (pss_cons (ps_for PassesOwn.never rfl (pi_list (pv 0)) (pg_tup rfl (pgs_cons (pg_name (i := 3) sc_law_ties.nd rfl (Or.inl rfl)) (pgs_cons (pg_name (i := 4) sc_law_ties.nd rfl (Or.inl rfl)) pgs_nil))) (pss_cons (ps_set (i := 5) sc_law_ties.nd rfl (Or.inl rfl) (pe_tup (pa_cons (pe_callB (c_min rfl) (by rfl) T.z_min bt_min (pa_cons (pe_ix ix_seq (pv 1) (pv 3) (fun _ _ => rfl)) (pa_cons (pe_ix ix_seq (pv 1) (pv 4) (fun _ _ => rfl)) pa_nil))) (pa_cons (pe_callB (c_max rfl) (by rfl) T.z_max bt_max (pa_cons (pe_ix ix_seq (pv 1) (pv 3) (fun _ _ => rfl)) (pa_cons (pe_ix ix_seq (pv 1) (pv 4) (fun _ _ => rfl)) pa_nil))) pa_nil)))) (pss_one (ps_if (PW.pt (pw_and (pt_cmpR (op_neD hr.units) (pv 3) (pv 4) (nomark _)) (pw_and1 (pt_cmpR (op_notInD (un65 hr)) (pv 5) (pv 2) (by rfl))))) (pss_one (ps_expr (pe_bm PySem.F.plainAttrs_list PySem.F.slot_list_append PySem.F.type_list_append mt_append (pv 2) (pa_cons (pv 5) pa_nil)))) pss_nil)))) (pss_one (ps_ret (pv 2)))))
theorem b_law_others (T : Txt K mg a) : Binds K T.fd_law_others ["caught"] [] := T.F_law_others.bindsN fun _ _ _ _ _ _ us hl => match us, hl with | [_], _ => rfl
theorem ok_law_others (T : Txt K mg a) : FnOk P w K mg base CX0 1 T.f_law_others T.fd_law_others ["caught"] (sp_law_others K a) := by
  refine T.F_law_others.ok sc_law_others (fun vs H Q E h => SpG.len vs H Q E h) (fun cdv A outer s H vs Q E hr h => ⟨t_law_others K a, PSs.nox ?_, pure_law_others T.cf T.ec T.k6 T.k5 h⟩)
  show PSs _ _ (t_law_others_1 K a)
  exact (pss_cons (ps_if (pt_val (pe_callB c_isE2 (by rfl) T.z_isinstance bt_isinstance (pa_cons (pv 0) (pa_cons (pe_tup (pa_cons (pe_glob (v := .ref a.C_InvalidWeb) (by rfl) T.g_InvalidWeb rfl) (pa_cons (pe_glob (v := .ref a.C_InvalidLists) (by rfl) T.g_InvalidLists rfl) (pa_cons (pe_glob (v := .ref (He.ga K "InvalidLengths")) (by rfl) T.g_InvalidLengths rfl) (pa_cons (pe_glob (v := .ref (He.ga K "InvalidShowing")) (by rfl) T.g_InvalidShowing rfl) (pa_cons (pe_glob (v := .ref (He.ga K "InvalidPainting")) (by rfl) T.g_InvalidPainting rfl) (pa_cons (pe_glob (v := .ref (He.ga K "InvalidTie")) (by rfl) T.g_InvalidTie rfl) pa_nil))))))) pa_nil)))) (pss_one (ps_ret pe_bl)) pss_nil) (pss_one (ps_ret (pe_callB c_isE2 (by rfl) T.z_isinstance bt_isinstance (pa_cons (pv 0) (pa_cons (pe_tup (pa_cons (pe_glob (v := .ref (He.ga K "Over")) (by rfl) T.g_Over rfl) (pa_cons (pe_glob (v := .ref (He.ga K "NothingToUndo")) (by rfl) T.g_NothingToUndo rfl) (pa_cons (pe_glob (v := .ref (He.ga K "InvalidText")) (by rfl) T.g_InvalidText rfl) (pa_cons (pe_glob (v := .ref (He.ga K "InvalidCommand")) (by rfl) T.g_InvalidCommand rfl) (pa_cons (pe_glob (v := .ref (He.ga K "NotReady")) (by rfl) T.g_NotReady rfl) pa_nil)))))) pa_nil))))))
theorem b_even_ring (T : Txt K mg a) : Binds K T.fd_even_ring ["near", "least"] [] := T.F_even_ring.bindsN fun _ _ _ _ _ _ us hl => match us, hl with | [_, _], _ => rfl
theorem ok_even_ring (T : Txt K mg a) : FnOk P w K mg base CX0 2 T.f_even_ring T.fd_even_ring ["near", "least"] (sp_even_ring K) := by
  refine T.F_even_ring.ok sc_even_ring (fun vs H Q E h => SpG.len vs H Q E h) (fun cdv A outer s H vs Q E hr h => ⟨t_even_ring K, PSs.nox ?_, pure_even_ring h⟩)
  exact pss_void
theorem b_three_ways (T : Txt K mg a) : Binds K T.fd_three_ways ["near", "s", "t"] [] := T.F_three_ways.bindsN fun _ _ _ _ _ _ us hl => match us, hl with | [_, _, _], _ => rfl
theorem ok_three_ways (T : Txt K mg a) : FnOk P w K mg base CX0 2 T.f_three_ways T.fd_three_ways ["near", "s", "t"] (sp_three_ways K) := by
  refine T.F_three_ways.ok sc_three_ways (fun vs H Q E h => SpG.len vs H Q E h) (fun cdv A outer s H vs Q E hr h => ⟨t_three_ways K, PSs.nox ?_, pure_three_ways h⟩)
  exact pss_void
theorem b_is_tie (T : Txt K mg a) : Binds K T.fd_is_tie ["places", "value"] [] := T.F_is_tie.bindsN fun _ _ _ _ _ _ us hl => match us, hl with | [_, _], _ => rfl
theorem ok_is_tie (T : Txt K mg a) : FnOk P w K mg base CX0 2 T.f_is_tie T.fd_is_tie ["places", "value"] (sp_is_tie K) := by
  refine T.F_is_tie.ok sc_is_tie (fun vs H Q E h => SpG.len vs H Q E h) (fun cdv A outer s H vs Q E hr h => ⟨t_is_tie K, PSs.nox ?_, pure_is_tie h⟩)
  show PSs _ _ (t_is_tie_1 K)
  exact (pss_cons (ps_if (PW.pt (pw_or (pt_not (pt_val (pe_callB c_isi (by rfl) T.z_isinstance bt_isinstance (pa_cons (pv 1) (pa_cons (pe_bltn (v := .ty "tuple") (by rfl) T.z_tuple bt_tuple rfl) pa_nil))))) (pw_or1 (pt_cmpR (op_neD hr.units) (pe_callB c_len (by rfl) T.z_len bt_len (pa_cons (pv 1) pa_nil)) pe_int (nomark _))))) (pss_one (ps_ret pe_bl)) pss_nil) (pss_cons (ps_asg (pv 1) (pg_tup rfl (pgs_cons (pg_name (i := 2) sc_is_tie.nd rfl (Or.inl rfl)) (pgs_cons (pg_name (i := 3) sc_is_tie.nd rfl (Or.inl rfl)) pgs_nil)))) (pss_one (ps_ret (pe_and (pe_call (ok_is_count T) (hr.mono (by decide)) (by rfl) T.g_is_count T.F_is_count.kp (b_is_count T) .nil pass0 (pa_cons (pv 2) pa_nil)) (pe_and (pe_call (ok_is_count T) (hr.mono (by decide)) (by rfl) T.g_is_count T.F_is_count.kp (b_is_count T) .nil pass0 (pa_cons (pv 3) pa_nil)) (pe_one (pe_chain op_lt op_lt (pv 2) (pv 3) (pv 0)))))))))
theorem b_Web_neighbours (T : Txt K mg a) : Binds K T.fd_Web_neighbours ["self", "place"] [] := T.F_Web_neighbours.bindsN fun _ _ _ _ _ _ us hl => match us, hl with | [_, _], _ => rfl
theorem ok_Web_neighbours (T : Txt K mg a) : FnOk P w K mg base (L2.CX P w) 2 T.f_Web_neighbours T.fd_Web_neighbours ["self", "place"] (sp_Web_neighbours K a) := by
  refine T.F_Web_neighbours.ok sc_Web_neighbours (fun vs H Q E h => SpG.len vs H Q E h) (fun cdv A outer s H vs Q E hr h => ⟨t_Web_neighbours K a E, ?_, pure_Web_neighbours T.cf h⟩)
  show PSs _ _ (t_Web_neighbours_0 K a E)
  exact (pss_cons (ps_if (PW.pt (pw_or (pt_not (pt_val (pe_call (ok_is_count T) (hr.mono (by decide)) (by rfl) T.g_is_count T.F_is_count.kp (b_is_count T) .nil pass0 (pa_cons (pv 1) pa_nil)))) (pw_or1 (pt_cmpR op_ge (pv 1) (pe_callB c_len (by rfl) T.z_len bt_len (pa_cons (pe_fld (pv 0) rfl) pa_nil)) (nomark _))))) (pss_one (ps_raise rfl (takes_of rfl rfl rfl rfl) (pmk_own PySem.F.excBase_ValueError T.xF_InvalidPlace T.g_InvalidPlace T.kF_InvalidPlace (raises_own T.bF_InvalidPlace T.tF_InvalidPlace) (by exact rfl)))) pss_nil) (pss_one (ps_ret (pe_callTy c_list (by rfl) T.z_list bt_list (pa_cons (pe_ix ix_seq (pe_fld (pv 0) rfl) (pv 1) (fun _ _ => rfl)) pa_nil)))))
theorem ok_Web_neighbours2 (T : Txt K mg a) : FnOk P w K mg base (L2.CX P w) 2 T.f_Web_neighbours T.fd_Web_neighbours ["self", "place"] (sp_Web_neighbours2 K a) := by
  refine T.F_Web_neighbours.ok sc_Web_neighbours (fun vs H Q E h => SpG.len vs H Q E h) (fun cdv A outer s H vs Q E hr h => ⟨t_Web_neighbours2 K a E, ?_, pure_Web_neighbours2 T.cf h⟩)
  show PSs _ _ (t_Web_neighbours2_0 K a E)
  exact (pss_cons (ps_if (PW.pt (pw_or (pt_not (pt_val (pe_call (ok_is_count2 T) (hr.mono (by decide)) (by rfl) T.g_is_count T.F_is_count.kp (b_is_count T) .nil pass0 (pa_cons (pv 1) pa_nil)))) (pw_or1 (pt_cmpR op_ge (pv 1) (pe_callB c_len (by rfl) T.z_len bt_len (pa_cons (pe_fld (pv 0) rfl) pa_nil)) (nomark _))))) (pss_one (ps_raise rfl (takes_of rfl rfl rfl rfl) (pmk_own PySem.F.excBase_ValueError T.xF_InvalidPlace T.g_InvalidPlace T.kF_InvalidPlace (raises_own T.bF_InvalidPlace T.tF_InvalidPlace) (by exact rfl)))) pss_nil) (pss_one (ps_ret (pe_callTy c_list (by rfl) T.z_list bt_list (pa_cons (pe_ix ix_seq (pe_fld (pv 0) rfl) (pv 1) (fun _ _ => rfl)) pa_nil)))))
theorem b_Web_parts (T : Txt K mg a) : Binds K T.fd_Web_parts ["self"] [] := T.F_Web_parts.bindsN fun _ _ _ _ _ _ us hl => match us, hl with | [_], _ => rfl
theorem ok_Web_parts (T : Txt K mg a) : FnOk P w K mg base CX0 2 T.f_Web_parts T.fd_Web_parts ["self"] (sp_Web_parts K a) := by
  refine T.F_Web_parts.okC sc_Web_parts (fun vs H Q E h => SpG.len vs H Q E h) (fun cdv hcd A outer s H vs Q E hr h => ⟨t_Web_parts K w a, PSs.nox ?_, pure_Web_parts T.cf h⟩)
  exact (pss_cons (ps_set (i := 1) sc_Web_parts.nd rfl (Or.inl rfl) (pe_lst pa_nil)) (pss_cons (ps_set (i := 2) sc_Web_parts.nd rfl (Or.inl rfl) (pe_callTy0 cr_set0 (by rfl) T.z_set PyProof.Rows.boot_set)) (pss_cons (ps_for PassesOwn.never rfl (pi_range1 (by rfl) T.z_range (pa_cons (pe_callB c_len (by rfl) T.z_len bt_len (pa_cons (pe_fld (pv 0) rfl) pa_nil)) pa_nil)) (pg_name (i := 3) sc_Web_parts.nd rfl (Or.inl rfl)) (pss_one (ps_if (pt_cmpR or_snotin (pv 3) (pv 2) (by rfl)) (pss_cons (ps_set (i := 4) sc_Web_parts.nd rfl (Or.inl rfl) (pe_meth (pv 0) T.cf.cl_Web T.m_Web_part_of (ok_Web_part_of T) (hr.mono (by decide)) (b_Web_part_of T) .nil pass0 (pa_cons (pv 3) pa_nil))) (pss_cons (ps_expr (pe_bm PySem.F.plainAttrs_list PySem.F.slot_list_append PySem.F.type_list_append mt_append (pv 1) (pa_cons (pv 4) pa_nil))) (pss_one (ps_for PassesOwn.never rfl (pi_list (pv 4)) (pg_name (i := 5) sc_Web_parts.nd rfl (Or.inl rfl)) (pss_one (ps_expr (pe_sadd (pv 2) (pa_cons (pv 5) pa_nil)))))))) pss_nil))) (pss_one (ps_ret (pv 1))))))
theorem b_law_order (T : Txt K mg a) : Binds K T.fd_law_order ["jar", "many"] [] := T.F_law_order.bindsN fun _ _ _ _ _ _ us hl => match us, hl with | [_, _], _ => rfl
theorem ok_law_order (T : Txt K mg a) : FnOk P w K mg base CX0 2 T.f_law_order T.fd_law_order ["jar", "many"] (sp_law_order K) := by
  refine T.F_law_order.ok sc_law_order (fun vs H Q E h => SpG.len vs H Q E h) (fun cdv A outer s H vs Q E hr h => ⟨t_law_order K, PSs.nox ?_, pure_law_order h⟩)
  show PSs _ _ (t_law_order_1 K)
  exact (pss_cons (ps_set (i := 2) sc_law_order.nd rfl (Or.inl rfl) (pe_listRg rfl (by rfl) T.z_list (prg_1 (by rfl) T.z_range (pv 1)))) (pss_cons (ps_set (i := 3) sc_law_order.nd rfl (Or.inl rfl) (pe_lst pa_nil)) (pss_cons (ps_for PassesOwn.never rfl (pi_range1 (by rfl) T.z_range (pa_cons (pv 1) pa_nil)) (pg_name (i := 4) sc_law_order.nd rfl (Or.inl rfl)) (pss_one (ps_expr (pe_bm PySem.F.plainAttrs_list PySem.F.slot_list_append PySem.F.type_list_append mt_append (pv 3) (pa_cons (pe_bm PySem.F.plainAttrs_list PySem.F.slot_list_pop PySem.F.type_list_pop mt_popAt (pv 2) (pa_cons (pe_call (ok_law_draw T) (hr.mono (by decide)) (by rfl) T.g_law_draw T.F_law_draw.kp (b_law_draw T) .nil pass0 (pa_cons (pv 0) (pa_cons (pe_callB c_len (by rfl) T.z_len bt_len (pa_cons (pv 2) pa_nil)) pa_nil))) pa_nil)) pa_nil))))) (pss_one (ps_ret (pv 3))))))
theorem b_near_among (T : Txt K mg a) : Binds K T.fd_near_among ["web", "places"] [] := T.F_near_among.bindsN fun _ _ _ _ _ _ us hl => match us, hl with | [_, _], _ => rfl
theorem ok_near_among (T : Txt K mg a) : FnOk P w K mg base (L2.CX P w) 3 T.f_near_among T.fd_near_among ["web", "places"] (sp_near_among K a) := by
  refine T.F_near_among.ok sc_near_among (fun vs H Q E h => SpG.len vs H Q E h) (fun cdv A outer s H vs Q E hr h => ⟨t_near_among K a E, ?_, pure_near_among T.cf h⟩)
  show PSs _ _ (t_near_among_0 K a E)
  exact (pss_one (ps_ret (pe_dc (own := [("place", 2)]) (g := (gName 2)) (tt := tYes) rfl sc_near_among.nd (pi_list (pv 1)) (blkOk_by (own := [("place", 2)]) (N := ["web", "places", "place", "near"]) (sc := defScope s_near_among) (by decide +kernel)) (fun _ _ _ _ _ => (pg_name (i := 2) sc_near_among.nd rfl (Or.inl rfl))) (fun _ _ _ _ _ => pts_nil) (fun _ _ _ _ _ => (pv 2)) (fun _ _ _ _ _ => (pe_lc (own := [("near", 3)]) (g := (gName 3)) (tt := (tTest (tOp (rInD K) (tVar 3) (tVar 1)))) rfl sc_near_among.nd (pi_list (pe_meth (pv 0) T.cf.cl_Web T.m_Web_neighbours (ok_Web_neighbours T) (hr.mono (by decide)) (b_Web_neighbours T) .nil (passes_call takes0 (fun _ _ _ _ h => h)) (pa_cons (pv 2) pa_nil))) (blkOk_by (own := [("near", 3)]) (N := ["web", "places", "place", "near"]) (sc := (⟨.function, [(".0", .local), ("place", .local), ("places", .cell), ("web", .cell)], false, false, []⟩ : Scope)) (by decide +kernel)) (fun _ _ _ _ _ => (pg_name (i := 3) sc_near_among.nd rfl (Or.inl rfl))) (fun _ _ _ _ _ => (pts_one (pt_cmpR (op_inD (un65 hr)) (pv 3) (pv 1) (by rfl)))) (fun _ _ _ _ _ => (pv 3)))))))
theorem b_core (T : Txt K mg a) : Binds K T.fd_core ["web"] [] := T.F_core.bindsN fun _ _ _ _ _ _ us hl => match us, hl with | [_], _ => rfl
theorem ok_core (T : Txt K mg a) : FnOk P w K mg base (L2.CX P w) 3 T.f_core T.fd_core ["web"] (sp_core K a) := by
  refine T.F_core.ok sc_core (fun vs H Q E h => SpG.len vs H Q E h) (fun cdv A outer s H vs Q E hr h => ⟨t_core K a E, ?_, pure_core T.cf h⟩)
  show PSs _ _ (t_core_3 K a E)
  exact (pss_cons (ps_setLc (i := 1) (own := [("place", 5)]) (g := (gName 5)) (tt := tYes) rfl sc_core.nd rfl rfl (sw_true rfl rfl rfl (by decide +kernel)) (pi_range1 (by rfl) T.z_range (pa_cons (pe_callB (c_lenOwn T.l_Web T.lf_Web (ok_Web_len_ T) (hr.mono (by decide)) (b_Web_len_ T) pass0) (by rfl) T.z_len bt_len (pa_cons (pv 0) pa_nil)) pa_nil)) (blkOk_by (own := [("place", 5)]) (N := ["web", "near", "struck", "leaf", "other", "place"]) (sc := defScope s_core) (by decide +kernel)) (fun _ _ _ _ _ => (pg_name (i := 5) sc_core.nd rfl (Or.inl rfl))) (fun _ _ _ _ _ => pts_nil) (fun _ _ _ _ _ => (pe_meth (pv 0) T.cf.cl_Web T.m_Web_neighbours (ok_Web_neighbours T) (hr.mono (by decide)) (b_Web_neighbours T) .nil (passes_call takes0 (fun _ _ _ _ h => h)) (pa_cons (pv 5) pa_nil)))) (pss_cons (ps_set (i := 2) sc_core.nd rfl (Or.inr rfl) (pe_lst pa_nil)) (pss_cons (ps_set (i := 3) sc_core.nd rfl (Or.inl rfl) (pe_call (ok_least_leaf T) (hr.mono (by decide)) (by rfl) T.g_least_leaf T.F_least_leaf.kp (b_least_leaf T) .nil pass0 (pa_cons (pv 1) pa_nil))) (pss_cons (ps_while (passes_of rfl) (pt_cmpR op_notN0 (pv 3) pe_non (nomark _)) (pss_cons (ps_set (i := 4) sc_core.nd rfl (Or.inl rfl) (pe_bm0 PySem.F.plainAttrs_list PySem.F.slot_list_pop PySem.F.type_list_pop mt_pop (pe_ix ix_seq (pv 1) (pv 3) (fun _ _ => rfl)))) (pss_cons (ps_expr (pe_bm PySem.F.plainAttrs_list PySem.F.slot_list_remove PySem.F.type_list_remove mt_remove (pe_ix ix_seq (pv 1) (pv 4) (fun _ _ => rfl)) (pa_cons (pv 3) pa_nil))) (pss_cons (ps_expr (pe_bm PySem.F.plainAttrs_list PySem.F.slot_list_append PySem.F.type_list_append mt_append (pv 2) (pa_cons (pv 3) pa_nil))) (pss_one (ps_set (i := 3) sc_core.nd rfl (Or.inl rfl) (pe_call (ok_least_leaf T) (hr.mono (by decide)) (by rfl) T.g_least_leaf T.F_least_leaf.kp (b_least_leaf T) .nil pass0 (pa_cons (pv 1) pa_nil)))))))) (pss_one (ps_ret (pe_tup (pa_cons (pv 2) (pa_cons (pe_lc (own := [("place", 5)]) (g := (gName 5)) (tt := (tTest (tOp (rNotInD K) (tVar 5) (tVar 2)))) rfl sc_core.nd (pi_range1 (by rfl) T.z_range (pa_cons (pe_callB (c_lenOwn T.l_Web T.lf_Web (ok_Web_len_ T) (hr.mono (by decide)) (b_Web_len_ T) pass0) (by rfl) T.z_len bt_len (pa_cons (pv 0) pa_nil)) pa_nil)) (blkOk_by (own := [("place", 5)]) (N := ["web", "near", "struck", "leaf", "other", "place"]) (sc := defScope s_core) (by decide +kernel)) (fun _ _ _ _ _ => (pg_name (i := 5) sc_core.nd rfl (Or.inl rfl))) (fun _ _ _ _ _ => (pts_one (pt_cmpR (op_notInD (un65 hr)) (pv 5) (pv 2) (by rfl)))) (fun _ _ _ _ _ => (pv 5))) pa_nil)))))))))
theorem b_check_web (T : Txt K mg a) : Binds K T.fd_check_web ["places", "ties"] [] := T.F_check_web.bindsN fun _ _ _ _ _ _ us hl => match us, hl with | [_, _], _ => rfl
theorem ok_check_web (T : Txt K mg a) : FnOk P w K mg base (L2.CX P w) 3 T.f_check_web T.fd_check_web ["places", "ties"] (sp_check_web K a) := by
  refine T.F_check_web.ok sc_check_web (fun vs H Q E h => SpG.len vs H Q E h) (fun cdv A outer s H vs Q E hr h => ⟨t_check_web K a E, ?_, pure_check_web T.cf h⟩)
  exact (pss_cons (ps_if (pt_not (pt_val (pe_call (ok_is_count T) (hr.mono (by decide)) (by rfl) T.g_is_count T.F_is_count.kp (b_is_count T) .nil pass0 (pa_cons (pv 0) pa_nil)))) (pss_one (ps_raise rfl (takes_of rfl rfl rfl rfl) (pmk_own PySem.F.excBase_ValueError T.xF_InvalidWeb T.g_InvalidWeb T.kF_InvalidWeb (raises_own T.bF_InvalidWeb T.tF_InvalidWeb) (by exact rfl)))) pss_nil) (pss_cons (ps_if (pt_not (pt_val (pe_callB c_isi (by rfl) T.z_isinstance bt_isinstance (pa_cons (pv 1) (pa_cons (pe_bltn (v := .ty "list") (by rfl) T.z_list bt_list rfl) pa_nil))))) (pss_one (ps_raise rfl (takes_of rfl rfl rfl rfl) (pmk_own PySem.F.excBase_ValueError T.xF_InvalidWeb T.g_InvalidWeb T.kF_InvalidWeb (raises_own T.bF_InvalidWeb T.tF_InvalidWeb) (by exact rfl)))) pss_nil) (pss_cons (ps_if (pt_not (pt_val (pe_callB (c_all rfl) (by rfl) T.z_all bt_all (pa_cons (pe_lc (own := [("tie", 2)]) (g := (gName 2)) (tt := tYes) rfl sc_check_web.nd (pi_list (pv 1)) (blkOk_by (own := [("tie", 2)]) (N := ["places", "ties", "tie"]) (sc := defScope s_check_web) (by decide +kernel)) (fun _ _ _ _ _ => (pg_name (i := 2) sc_check_web.nd rfl (Or.inl rfl))) (fun _ _ _ _ _ => pts_nil) (fun _ _ _ _ _ => (pe_call (ok_is_tie T) (hr.mono (by decide)) (by rfl) T.g_is_tie T.F_is_tie.kp (b_is_tie T) .nil pass0 (pa_cons (pv 0) (pa_cons (pv 2) pa_nil))))) pa_nil)))) (pss_one (ps_raise rfl (takes_of rfl rfl rfl rfl) (pmk_own PySem.F.excBase_ValueError T.xF_InvalidWeb T.g_InvalidWeb T.kF_InvalidWeb (raises_own T.bF_InvalidWeb T.tF_InvalidWeb) (by exact rfl)))) pss_nil) (pss_one (ps_if (pt_cmpR op_lt (GW.pe_lenSetW rfl (by rfl) T.z_len (by rfl) T.z_set (un64 hr) (pv 1)) (pe_callB c_len (by rfl) T.z_len bt_len (pa_cons (pv 1) pa_nil)) (nomark _)) (pss_one (ps_raise rfl (takes_of rfl rfl rfl rfl) (pmk_own PySem.F.excBase_ValueError T.xF_InvalidWeb T.g_InvalidWeb T.kF_InvalidWeb (raises_own T.bF_InvalidWeb T.tF_InvalidWeb) (by exact rfl)))) pss_nil)))))
theorem b_law_bad (T : Txt K mg a) : Binds K T.fd_law_bad ["jar", "web", "sort"] [] := T.F_law_bad.bindsN fun _ _ _ _ _ _ us hl => match us, hl with | [_, _, _], _ => rfl
theorem ok_law_bad (T : Txt K mg a) : FnOk P w K mg base CX0 3 T.f_law_bad T.fd_law_bad ["jar", "web", "sort"] (sp_law_bad K a) := by
  refine T.F_law_bad.ok sc_law_bad (fun vs H Q E h => SpG.len vs H Q E h) (fun cdv A outer s H vs Q E hr h => ⟨t_law_bad K a, PSs.nox ?_, pure_law_bad T.cf h⟩)
  show PSs _ _ (t_law_bad_2 K a)
  exact (pss_cons (ps_set (i := 3) sc_law_bad.nd rfl (Or.inl rfl) (pe_callB (c_lenOwn T.l_Web T.lf_Web (ok_Web_len_ T) (hr.mono (by decide)) (b_Web_len_ T) pass0) (by rfl) T.z_len bt_len (pa_cons (pv 1) pa_nil))) (pss_cons (ps_set (i := 4) sc_law_bad.nd rfl (Or.inl rfl) (pe_call (ok_law_draw T) (hr.mono (by decide)) (by rfl) T.g_law_draw T.F_law_draw.kp (b_law_draw T) .nil pass0 (pa_cons (pv 0) (pa_cons (pe_op op_pow pe_int pe_int) pa_nil)))) (pss_cons (ps_set (i := 5) sc_law_bad.nd rfl (Or.inl rfl) (pe_lst (pa_cons (pv 3) (pa_cons (pe_op op_plus (pe_op op_plus (pv 3) pe_int) (pv 4)) (pa_cons (pe_op op_sub pe_int pe_int) (pa_cons (pe_op op_sub (pe_op op_sub pe_int pe_int) (pv 4)) (pa_cons (pe_op op_sub pe_int (pv 3)) (pa_cons pe_bl (pa_cons pe_bl (pa_cons pe_non (pa_cons pe_str (pa_cons pe_str (pa_cons (pe_callTy c_strI (by rfl) T.z_str bt_str (pa_cons (pv 4) pa_nil)) (pa_cons (pe_lst pa_nil) (pa_cons (pe_lst (pa_cons pe_int pa_nil)) (pa_cons (pe_tup pa_nil) (pa_cons (pe_tup (pa_cons pe_int pa_nil)) pa_nil))))))))))))))))) (pss_one (ps_ret (pe_ix ix_seq (pe_op op_plus (pv 5) (pe_lst (pa_cons pe_dnewK (pa_cons (pv 1) (pa_cons (pe_disp (pps_cons pe_int pe_int pps_nil) rfl rfl (fun h => nomatch h) (by decide)) (pa_cons pe_str pa_nil)))))) (pv 2) (fun _ _ => rfl)))))))
theorem b_parts_among (T : Txt K mg a) : Binds K T.fd_parts_among ["web", "places"] [] := T.F_parts_among.bindsN fun _ _ _ _ _ _ us hl => match us, hl with | [_, _], _ => rfl
theorem ok_parts_among (T : Txt K mg a) : FnOk P w K mg base (L2.CX P w) 4 T.f_parts_among T.fd_parts_among ["web", "places"] (sp_parts_among K a) := by
  refine T.F_parts_among.ok sc_parts_among (fun vs H Q E h => SpG.len vs H Q E h) (fun cdv A outer s H vs Q E hr h => ⟨t_parts_among K a E, ?_, pure_parts_among T.cf h⟩)
  show PSs _ _ (t_parts_among_4 K a E)
  exact (pss_cons (ps_set (i := 2) sc_parts_among.nd rfl (Or.inl rfl) (pe_call (ok_near_among T) (hr.mono (by decide)) (by rfl) T.g_near_among T.F_near_among.kp (b_near_among T) .nil (passes_call (takes_of rfl rfl rfl rfl) (fun _ _ _ _ h => h)) (pa_cons (pv 0) (pa_cons (pv 1) pa_nil)))) (pss_cons (ps_set (i := 3) sc_parts_among.nd rfl (Or.inl rfl) (pe_lst pa_nil)) (pss_cons (ps_set (i := 4) sc_parts_among.nd rfl (Or.inl rfl) (pv 1)) (pss_cons (ps_while (passes_of rfl) (pt_truth (pv 4) (fun _ => rfl)) (pss_cons (ps_set (i := 5) sc_parts_among.nd rfl (Or.inr rfl) (pe_lst (pa_cons (pe_ix ix_seq (pv 4) pe_int (fun _ _ => rfl)) pa_nil))) (pss_cons (ps_set (i := 6) sc_parts_among.nd rfl (Or.inl rfl) pe_int) (pss_cons (ps_while (passes_of rfl) (pt_cmpR op_lt (pv 6) (pe_callB c_len (by rfl) T.z_len bt_len (pa_cons (pv 5) pa_nil)) (nomark _)) (pss_cons (ps_expr (pe_bm PySem.F.plainAttrs_list PySem.F.slot_list_extend PySem.F.type_list_extend mt_extend (pv 5) (pa_cons (pe_lc (own := [("other", 7)]) (g := (gName 7)) (tt := (tTest (tOp (rNotInD K) (tVar 7) (tVar 5)))) rfl sc_parts_among.nd (pi_list (pe_dget (un1 hr.units) (pv 2) (pe_ix ix_seq (pv 5) (pv 6) (fun _ _ => rfl)) (fun _ _ => rfl))) (blkOk_by (own := [("other", 7)]) (N := ["web", "places", "near", "found", "left", "part", "at", "other", "place"]) (sc := defScope s_parts_among) (by decide +kernel)) (fun _ _ _ _ _ => (pg_name (i := 7) sc_parts_among.nd rfl (Or.inl rfl))) (fun _ _ _ _ _ => (pts_one (pt_cmpR (op_notInD (un65 hr)) (pv 7) (pv 5) (by rfl)))) (fun _ _ _ _ _ => (pv 7))) pa_nil))) (pss_one (ps_aug (i := 6) sc_parts_among.nd rfl (Or.inl rfl) pe_int ip_add)))) (pss_cons (ps_expr (pe_bm PySem.F.plainAttrs_list PySem.F.slot_list_append PySem.F.type_list_append mt_append (pv 3) (pa_cons (pe_callB c_sorted (by rfl) T.z_sorted bt_sorted (pa_cons (pv 5) pa_nil)) pa_nil))) (pss_one (ps_setLc (i := 4) (own := [("place", 8)]) (g := (gName 8)) (tt := (tTest (tOp (rNotInD K) (tVar 8) (tVar 5)))) rfl sc_parts_among.nd rfl rfl (sw_true rfl rfl rfl (by decide +kernel)) (pi_list (pv 4)) (blkOk_by (own := [("place", 8)]) (N := ["web", "places", "near", "found", "left", "part", "at", "other", "place"]) (sc := defScope s_parts_among) (by decide +kernel)) (fun _ _ _ _ _ => (pg_name (i := 8) sc_parts_among.nd rfl (Or.inl rfl))) (fun _ _ _ _ _ => (pts_one (pt_cmpR (op_notInD (un65 hr)) (pv 8) (pv 5) (by rfl)))) (fun _ _ _ _ _ => (pv 8))))))))) (pss_one (ps_ret (pv 3)))))))
theorem b_form (T : Txt K mg a) : Binds K T.fd_form ["web", "places"] [] := T.F_form.bindsN fun _ _ _ _ _ _ us hl => match us, hl with | [_, _], _ => rfl
theorem ok_form (T : Txt K mg a) : FnOk P w K mg base (L2.CX P w) 4 T.f_form T.fd_form ["web", "places"] (sp_form K a) := by
  refine T.F_form.ok sc_form (fun vs H Q E h => SpG.len vs H Q E h) (fun cdv A outer s H vs Q E hr h => ⟨t_form K a E, ?_, pure_form T.cf h⟩)
  show PSs _ _ (t_form_4 K a E)
  exact (pss_cons (ps_if (pt_cmpR (op_eqD hr.units) (pe_callB c_len (by rfl) T.z_len bt_len (pa_cons (pv 1) pa_nil)) pe_int (nomark _)) (pss_one (ps_ret (pe_tup (pa_cons pe_str (pa_cons (pe_ix ix_seq (pv 1) pe_int (fun _ _ => rfl)) pa_nil))))) pss_nil) (pss_cons (ps_set (i := 2) sc_form.nd rfl (Or.inr rfl) (pe_call (ok_near_among T) (hr.mono (by decide)) (by rfl) T.g_near_among T.F_near_among.kp (b_near_among T) .nil (passes_call (takes_of rfl rfl rfl rfl) (fun _ _ _ _ h => h)) (pa_cons (pv 0) (pa_cons (pv 1) pa_nil)))) (pss_cons (ps_setLc (i := 3) (own := [("place", 4)]) (g := (gName 4)) (tt := (tTest (tOp (rGtI) (tCB (rLenA K) (tCons (tDGet (tVar 2) (tVar 4)) tNil)) (tC (.int 2))))) rfl sc_form.nd rfl rfl (sw_true rfl rfl rfl (by decide +kernel)) (pi_list (pv 1)) (blkOk_by (own := [("place", 4)]) (N := ["web", "places", "near", "hubs", "place"]) (sc := defScope s_form) (by decide +kernel)) (fun _ _ _ _ _ => (pg_name (i := 4) sc_form.nd rfl (Or.inl rfl))) (fun _ _ _ _ _ => (pts_one (pt_cmpR op_gt (pe_callB c_len (by rfl) T.z_len bt_len (pa_cons (pe_dget (un1 hr.units) (pv 2) (pv 4) (fun _ _ => rfl)) pa_nil)) pe_int (nomark _)))) (fun _ _ _ _ _ => (pv 4))) (pss_cons (ps_if (pt_not (pt_truth (pv 3) (fun _ => rfl))) (pss_one (ps_ret (pe_call (ok_even_ring T) (hr.mono (by decide)) (by rfl) T.g_even_ring T.F_even_ring.kp (b_even_ring T) .nil pass0 (pa_cons (pv 2) (pa_cons (pe_ix ix_seq (pv 1) pe_int (fun _ _ => rfl)) pa_nil))))) pss_nil) (pss_cons (ps_if (pt_cmpR (op_eqD hr.units) (pe_lc (own := [("place", 4)]) (g := (gName 4)) (tt := tYes) rfl sc_form.nd (pi_list (pv 3)) (blkOk_by (own := [("place", 4)]) (N := ["web", "places", "near", "hubs", "place"]) (sc := defScope s_form) (by decide +kernel)) (fun _ _ _ _ _ => (pg_name (i := 4) sc_form.nd rfl (Or.inl rfl))) (fun _ _ _ _ _ => pts_nil) (fun _ _ _ _ _ => (pe_callB c_len (by rfl) T.z_len bt_len (pa_cons (pe_dget (un1 hr.units) (pv 2) (pv 4) (fun _ _ => rfl)) pa_nil)))) (pe_lst (pa_cons pe_int (pa_cons pe_int pa_nil))) (nomark _)) (pss_one (ps_ret (pe_call (ok_three_ways T) (hr.mono (by decide)) (by rfl) T.g_three_ways T.F_three_ways.kp (b_three_ways T) .nil pass0 (pa_cons (pv 2) (pa_cons (pe_ix ix_seq (pv 3) pe_int (fun _ _ => rfl)) (pa_cons (pe_ix ix_seq (pv 3) pe_int (fun _ _ => rfl)) pa_nil)))))) pss_nil) (pss_one (ps_ret pe_non)))))))
theorem b_Web_init_ (T : Txt K mg a) : Binds K T.fd_Web_init_ ["self", "places", "ties"] [] := T.F_Web_init_.bindsN fun _ _ _ _ _ _ us hl => match us, hl with | [_, _, _], _ => rfl
theorem ok_Web_init_ (T : Txt K mg a) : FnOk P w K mg base (L2.CX P w) 4 T.f_Web_init_ T.fd_Web_init_ ["self", "places", "ties"] (sp_Web_init_ K a) := by
  refine T.F_Web_init_.ok sc_Web_init_ (fun vs H Q E h => SpG.len vs H Q E h) (fun cdv A outer s H vs Q E hr h => ⟨t_Web_init_ K a E, ?_, pure_Web_init_ T.cf h⟩)
  exact (pss_cons (ps_expr (pe_call (ok_check_web T) (hr.mono (by decide)) (by rfl) T.g_check_web T.F_check_web.kp (b_check_web T) .nil (passes_call (takes_of rfl rfl rfl rfl) (fun _ _ _ _ h => h)) (pa_cons (pv 1) (pa_cons (pv 2) pa_nil)))) (pss_cons (ps_fld (pv 0) (pe_callB c_sorted (by rfl) T.z_sorted bt_sorted (pa_cons (pe_lc (own := [("u", 3), ("v", 4)]) (g := (gTup K 2 (gCons (gName 3) (gCons (gName 4) gNil)))) (tt := tYes) rfl sc_Web_init_.nd (pi_list (pv 2)) (blkOk_by (own := [("u", 3), ("v", 4)]) (N := ["self", "places", "ties", "u", "v"]) (sc := defScope s_Web_init_) (by decide +kernel)) (fun _ _ _ _ _ => (pg_tup rfl (pgs_cons (pg_name (i := 3) sc_Web_init_.nd rfl (Or.inl rfl)) (pgs_cons (pg_name (i := 4) sc_Web_init_.nd rfl (Or.inl rfl)) pgs_nil)))) (fun _ _ _ _ _ => pts_nil) (fun _ _ _ _ _ => (pe_tup (pa_cons (pv 3) (pa_cons (pv 4) pa_nil))))) pa_nil)) rfl) (pss_one (ps_fld (pv 0) (pe_call (ok_neighbour_lists T) (hr.mono (by decide)) (by rfl) T.g_neighbour_lists T.F_neighbour_lists.kp (b_neighbour_lists T) .nil pass0 (pa_cons (pv 1) (pa_cons (pe_fld (pv 0) rfl) pa_nil))) rfl))))
theorem b_is_in_tree (T : Txt K mg a) : Binds K T.fd_is_in_tree ["web", "place"] [] := T.F_is_in_tree.bindsN fun _ _ _ _ _ _ us hl => match us, hl with | [_, _], _ => rfl
theorem ok_is_in_tree (T : Txt K mg a) : FnOk P w K mg base (L2.CX P w) 4 T.f_is_in_tree T.fd_is_in_tree ["web", "place"] (sp_is_in_tree K a) := by
  refine T.F_is_in_tree.ok sc_is_in_tree (fun vs H Q E h => SpG.len vs H Q E h) (fun cdv A outer s H vs Q E hr h => ⟨t_is_in_tree K a E, ?_, pure_is_in_tree T.cf h⟩)
  exact (pss_cons (ps_set (i := 2) sc_is_in_tree.nd rfl (Or.inr rfl) (pe_ix ix_seq (pe_call (ok_core T) (hr.mono (by decide)) (by rfl) T.g_core T.F_core.kp (b_core T) .nil (passes_call (takes_of rfl rfl rfl rfl) (fun _ _ _ _ h => h)) (pa_cons (pv 0) pa_nil)) pe_int (fun _ _ => rfl))) (pss_cons (ps_set (i := 3) sc_is_in_tree.nd rfl (Or.inl rfl) (pe_ix ix_seq (pe_lc (own := [("part", 4)]) (g := (gName 4)) (tt := (tTest (tOp (rInD K) (tVar 1) (tVar 4)))) rfl sc_is_in_tree.nd (pi_list (pe_meth0 (pv 0) T.cf.cl_Web T.m_Web_parts (ok_Web_parts T) (hr.mono (by decide)) (b_Web_parts T) .nil pass0)) (blkOk_by (own := [("part", 4)]) (N := ["web", "place", "left", "own", "part", "other"]) (sc := defScope s_is_in_tree) (by decide +kernel)) (fun _ _ _ _ _ => (pg_name (i := 4) sc_is_in_tree.nd rfl (Or.inl rfl))) (fun _ _ _ _ _ => (pts_one (pt_cmpR (op_inD (un65 hr)) (pv 1) (pv 4) (by rfl)))) (fun _ _ _ _ _ => (pv 4))) pe_int (fun _ _ => rfl))) (pss_one (ps_ret (pe_cmpR (op_eqD hr.units) (pe_callB c_len (by rfl) T.z_len bt_len (pa_cons (pe_lc (own := [("other", 5)]) (g := (gName 5)) (tt := (tTest (tOp (rInD K) (tVar 5) (tVar 2)))) rfl sc_is_in_tree.nd (pi_list (pv 3)) (blkOk_by (own := [("other", 5)]) (N := ["web", "place", "left", "own", "part", "other"]) (sc := defScope s_is_in_tree) (by decide +kernel)) (fun _ _ _ _ _ => (pg_name (i := 5) sc_is_in_tree.nd rfl (Or.inl rfl))) (fun _ _ _ _ _ => (pts_one (pt_cmpR (op_inD (un65 hr)) (pv 5) (pv 2) (by rfl)))) (fun _ _ _ _ _ => (pv 5))) pa_nil)) pe_int (nomark _))))))
theorem b_core_parts (T : Txt K mg a) : Binds K T.fd_core_parts ["web"] [] := T.F_core_parts.bindsN fun _ _ _ _ _ _ us hl => match us, hl with | [_], _ => rfl
theorem ok_core_parts (T : Txt K mg a) : FnOk P w K mg base (L2.CX P w) 5 T.f_core_parts T.fd_core_parts ["web"] (sp_core_parts K a) := by
  refine T.F_core_parts.ok sc_core_parts (fun vs H Q E h => SpG.len vs H Q E h) (fun cdv A outer s H vs Q E hr h => ⟨t_core_parts K a E, ?_, pure_core_parts T.cf h⟩)
  exact (pss_one (ps_ret (pe_call (ok_parts_among T) (hr.mono (by decide)) (by rfl) T.g_parts_among T.F_parts_among.kp (b_parts_among T) .nil (passes_call (takes_of rfl rfl rfl rfl) (fun _ _ _ _ h => h)) (pa_cons (pv 0) (pa_cons (pe_ix ix_seq (pe_call (ok_core T) (hr.mono (by decide)) (by rfl) T.g_core T.F_core.kp (b_core T) .nil (passes_call (takes_of rfl rfl rfl rfl) (fun _ _ _ _ h => h)) (pa_cons (pv 0) pa_nil)) pe_int (fun _ _ => rfl)) pa_nil)))))
theorem b_good_parts (T : Txt K mg a) : Binds K T.fd_good_parts ["web"] [] := T.F_good_parts.bindsN fun _ _ _ _ _ _ us hl => match us, hl with | [_], _ => rfl
theorem ok_good_parts (T : Txt K mg a) : FnOk P w K mg base (L2.CX P w) 6 T.f_good_parts T.fd_good_parts ["web"] (sp_good_parts K a) := by
  refine T.F_good_parts.ok sc_good_parts (fun vs H Q E h => SpG.len vs H Q E h) (fun cdv A outer s H vs Q E hr h => ⟨t_good_parts K a E, ?_, pure_good_parts T.cf h⟩)
  show PSs _ _ (t_good_parts_0 K a E)
  exact (pss_one (ps_ret (pe_lc (own := [("places", 1)]) (g := (gName 1)) (tt := tYes) rfl sc_good_parts.nd (pi_list (pe_call (ok_core_parts T) (hr.mono (by decide)) (by rfl) T.g_core_parts T.F_core_parts.kp (b_core_parts T) .nil (passes_call (takes_of rfl rfl rfl rfl) (fun _ _ _ _ h => h)) (pa_cons (pv 0) pa_nil))) (blkOk_by (own := [("places", 1)]) (N := ["web", "places"]) (sc := defScope s_good_parts) (by decide +kernel)) (fun _ _ _ _ _ => (pg_name (i := 1) sc_good_parts.nd rfl (Or.inl rfl))) (fun _ _ _ _ _ => pts_nil) (fun _ _ _ _ _ => (pe_call (ok_form T) (hr.mono (by decide)) (by rfl) T.g_form T.F_form.kp (b_form T) .nil (passes_call takes0 (fun _ _ _ _ h => h)) (pa_cons (pv 0) (pa_cons (pv 1) pa_nil)))))))
theorem b_free (T : Txt K mg a) : Binds K T.fd_free ["web", "place"] [] := T.F_free.bindsN fun _ _ _ _ _ _ us hl => match us, hl with | [_, _], _ => rfl
theorem ok_free (T : Txt K mg a) : FnOk P w K mg base (L2.CX P w) 7 T.f_free T.fd_free ["web", "place"] (sp_free K a) := by
  refine T.F_free.ok sc_free (fun vs H Q E h => SpG.len vs H Q E h) (fun cdv A outer s H vs Q E hr h => ⟨t_free K a E, ?_, pure_free T.cf h⟩)
  exact (pss_cons (ps_expr (pe_meth (pv 0) T.cf.cl_Web T.m_Web_neighbours (ok_Web_neighbours2 T) (hr.mono (by decide)) (b_Web_neighbours T) .nil (passes_call (takes_of rfl rfl rfl rfl) (fun _ _ _ _ h => h)) (pa_cons (pv 1) pa_nil))) (pss_one (ps_ret (pe_and (pe_call (ok_is_in_tree T) (hr.mono (by decide)) (by rfl) T.g_is_in_tree T.F_is_in_tree.kp (b_is_in_tree T) .nil (passes_call (takes_of rfl rfl rfl rfl) (fun _ _ _ _ h => h)) (pa_cons (pv 0) (pa_cons (pv 1) pa_nil))) (pe_one (pe_cmpR (op_notInD (un65 hr)) pe_non (pe_call (ok_good_parts T) (hr.mono (by decide)) (by rfl) T.g_good_parts T.F_good_parts.kp (b_good_parts T) .nil (passes_call (takes_of rfl rfl rfl rfl) (fun _ _ _ _ h => h)) (pa_cons (pv 0) pa_nil)) (by rfl)))))))
theorem b_law_refused (T : Txt K mg a) : Binds K T.fd_law_refused ["web", "value"] [] := T.F_law_refused.bindsN fun _ _ _ _ _ _ us hl => match us, hl with | [_, _], _ => rfl
theorem ok_law_refused (T : Txt K mg a) : FnOk P w K mg base CX0 8 T.f_law_refused T.fd_law_refused ["web", "value"] (sp_law_refused K a) := by
  refine T.F_law_refused.ok sc_law_refused (fun vs H Q E h => SpG.len vs H Q E h) (fun cdv A outer s H vs Q E hr h => ⟨t_law_refused K a, PSs.nox ?_, pure_law_refused T.cf T.xm T.ec T.ky T.kv h⟩)
  exact (pss_cons (ps_set (i := 2) sc_law_refused.nd rfl (Or.inl rfl) pe_non) (pss_cons (ps_try_keep (i := 3) (j := 2) (tb := fun W => (tDrop (tCallS (sp_free K a) (L2.WE W) (tCons (tVar 0) (tCons (tVar 1) tNil))))) rfl rfl rfl sc_law_refused.nd rfl rfl ⟨rfl, by decide, Or.inl T.g_HueError⟩ (fun W pn xe tk _ => (pss_one (ps_expr (pe_callS (ok_free T) (hr.mono (by decide)) rfl T.g_free T.F_free.kp (b_free T) (fun σ => passAt tk σ) (by exact (pa_cons (pv 0) (pa_cons (pv 1) pa_nil))))))) (fun _ _ => pss_one (ps_set (i := 2) sc_law_refused.nd rfl (Or.inl rfl) (pv 3))) (show 3 < 4 by decide)) (pss_one (ps_ret (pe_and (pe_callB c_isE1 (by rfl) T.z_isinstance bt_isinstance (pa_cons (pv 2) (pa_cons (pe_glob (v := .ref a.C_InvalidPlace) (by rfl) T.g_InvalidPlace rfl) pa_nil))) (pe_and (pe_callB c_isE1 (by rfl) T.z_isinstance bt_isinstance (pa_cons (pv 2) (pa_cons (pe_bltn (v := .ty "ValueError") (by rfl) T.z_ValueError bt_ValueError rfl) pa_nil))) (pe_one (pe_not (pe_call (ok_law_others T) (hr.mono (by decide)) (by rfl) T.g_law_others T.F_law_others.kp (b_law_others T) .nil pass0 (pa_cons (pv 2) pa_nil))))))))))
theorem ok_law (T : Txt K mg a) : FnOk P w K mg base CX0 9 T.f_law T.fd_law ["script"] (sp_law K a) := by
  refine T.F_law.ok sc_law (fun vs H Q E h => SpG.len vs H Q E h) (fun cdv A outer s H vs Q E hr h => ⟨t_law K a, PSs.nox ?_, pure_law T.cf h⟩)
  show PSs _ _ (t_law_9 K a)
  exact (pss_cons (ps_for PassesOwn.never rfl (pi_range1 (by rfl) T.z_range (pa_cons (pe_callB (c_max rfl) (by rfl) T.z_max bt_max (pa_cons pe_int (pa_cons (pe_callB (c_min rfl) (by rfl) T.z_min bt_min (pa_cons pe_int (pa_cons (pe_callB c_len (by rfl) T.z_len bt_len (pa_cons (pv 0) pa_nil)) pa_nil))) pa_nil))) pa_nil)) (pg_name (i := 1) sc_law.nd rfl (Or.inl rfl)) (pss_cons (ps_set (i := 2) sc_law.nd rfl (Or.inr rfl) (pe_call (ok_law_jar T) (hr.mono (by decide)) (by rfl) T.g_law_jar T.F_law_jar.kp (b_law_jar T) .nil pass0 (pa_cons (pv 0) (pa_cons (pv 1) pa_nil)))) (pss_cons (ps_set (i := 3) sc_law.nd rfl (Or.inl rfl) (pe_ix ix_seq (pe_lst (pa_cons pe_int (pa_cons pe_int (pa_cons pe_int pa_nil)))) (pe_call (ok_law_draw T) (hr.mono (by decide)) (by rfl) T.g_law_draw T.F_law_draw.kp (b_law_draw T) .nil pass0 (pa_cons (pv 2) (pa_cons pe_int pa_nil))) (fun _ _ => rfl))) (pss_cons (ps_set (i := 4) sc_law.nd rfl (Or.inl rfl) (pe_cmpR op_gt (pv 3) pe_int (nomark _))) (pss_cons (ps_set (i := 5) sc_law.nd rfl (Or.inl rfl) (pe_op op_plus (pe_op op_plus (pv 3) pe_int) (pe_call (ok_law_draw T) (hr.mono (by decide)) (by rfl) T.g_law_draw T.F_law_draw.kp (b_law_draw T) .nil pass0 (pa_cons (pv 2) (pa_cons pe_int pa_nil))))) (pss_cons (ps_setLc (i := 6) (own := [("number", 13)]) (g := (gName 13)) (tt := tYes) rfl sc_law.nd rfl rfl (sw_true rfl rfl rfl (by decide +kernel)) (pi_range1 (by rfl) T.z_range (pa_cons (pe_op op_sub (pv 5) pe_int) pa_nil)) (blkOk_by (own := [("number", 13)]) (N := ["script", "k", "jar", "ring", "ringed", "many", "pairs", "order", "ties", "web", "place", "values", "value", "number", "turn"]) (sc := defScope s_law) (by decide +kernel)) (fun _ _ _ _ _ => (pg_name (i := 13) sc_law.nd rfl (Or.inl rfl))) (fun _ _ _ _ _ => pts_nil) (fun _ _ _ _ _ => (pe_tup (pa_cons (pv 13) (pa_cons (pe_op op_plus (pv 13) pe_int) pa_nil))))) (pss_cons (ps_if (pt_val (pv 4)) (pss_one (ps_expr (pe_bm PySem.F.plainAttrs_list PySem.F.slot_list_append PySem.F.type_list_append mt_append (pv 6) (pa_cons (pe_tup (pa_cons pe_int (pa_cons (pe_op op_sub (pv 3) pe_int) pa_nil))) pa_nil)))) pss_nil) (pss_cons (ps_set (i := 7) sc_law.nd rfl (Or.inl rfl) (pe_call (ok_law_order T) (hr.mono (by decide)) (by rfl) T.g_law_order T.F_law_order.kp (b_law_order T) .nil pass0 (pa_cons (pv 2) (pa_cons (pv 5) pa_nil)))) (pss_cons (ps_set (i := 8) sc_law.nd rfl (Or.inl rfl) (pe_call (ok_law_ties T) (hr.mono (by decide)) (by rfl) T.g_law_ties T.F_law_ties.kp (b_law_ties T) .nil pass0 (pa_cons (pv 6) (pa_cons (pv 7) pa_nil)))) (pss_cons (ps_set (i := 9) sc_law.nd rfl (Or.inr rfl) (pe_make T.M_Web (ok_Web_init_ T) (hr.mono (by decide)) (by rfl) T.g_Web (b_Web_init_ T) .nil (passes_call takes0 (fun _ _ _ _ h => h)) (pa_cons (pv 5) (pa_cons (pe_callTy c_list (by rfl) T.z_list bt_list (pa_cons (pv 8) pa_nil)) pa_nil)))) (pss_cons (ps_set (i := 10) sc_law.nd rfl (Or.inl rfl) (pe_call (ok_law_draw T) (hr.mono (by decide)) (by rfl) T.g_law_draw T.F_law_draw.kp (b_law_draw T) .nil pass0 (pa_cons (pv 2) (pa_cons (pv 5) pa_nil)))) (pss_cons (ps_setLc (i := 11) (own := [("turn", 14)]) (g := (gName 14)) (tt := tYes) rfl sc_law.nd rfl rfl (sw_true rfl rfl rfl (by decide +kernel)) (pi_range1 (by rfl) T.z_range (pa_cons pe_int pa_nil)) (blkOk_by (own := [("turn", 14)]) (N := ["script", "k", "jar", "ring", "ringed", "many", "pairs", "order", "ties", "web", "place", "values", "value", "number", "turn"]) (sc := defScope s_law) (by decide +kernel)) (fun _ _ _ _ _ => (pg_name (i := 14) sc_law.nd rfl (Or.inl rfl))) (fun _ _ _ _ _ => pts_nil) (fun _ _ _ _ _ => (pe_call (ok_law_bad T) (hr.mono (by decide)) (by rfl) T.g_law_bad T.F_law_bad.kp (b_law_bad T) .nil pass0 (pa_cons (pv 2) (pa_cons (pv 9) (pa_cons (pe_call (ok_law_draw T) (hr.mono (by decide)) (by rfl) T.g_law_draw T.F_law_draw.kp (b_law_draw T) .nil pass0 (pa_cons (pv 2) (pa_cons pe_int pa_nil))) pa_nil)))))) (pss_cons (ps_for PassesOwn.never rfl (pi_list (pe_op op_plus (pv 11) (pv 11))) (pg_name (i := 12) sc_law.nd rfl (Or.inl rfl)) (pss_one (ps_if (PW.pt (pw_or (pt_cmpR (op_eqD hr.units) (pe_call (ok_free T) (hr.mono (by decide)) (by rfl) T.g_free T.F_free.kp (b_free T) .nil (passes_call takes0 (fun _ _ _ _ h => h)) (pa_cons (pv 9) (pa_cons (pv 10) pa_nil))) (pv 4) (nomark _)) (pw_or (pt_not (pt_val (pe_call (ok_law_refused T) (hr.mono (by decide)) (by rfl) T.g_law_refused T.F_law_refused.kp (b_law_refused T) .nil pass0 (pa_cons (pv 9) (pa_cons (pv 12) pa_nil))))) (pw_or1 (pt_cmpR (op_eqD hr.units) (pe_call (ok_free T) (hr.mono (by decide)) (by rfl) T.g_free T.F_free.kp (b_free T) .nil (passes_call takes0 (fun _ _ _ _ h => h)) (pa_cons (pv 9) (pa_cons (pv 10) pa_nil))) (pv 4) (nomark _)))))) (pss_one (ps_ret pe_bl)) pss_nil))) (pss_one (ps_if (PW.pt (pw_or (pt_not (pt_val (pe_callB c_isi (by rfl) T.z_isinstance bt_isinstance (pa_cons (pe_call (ok_free T) (hr.mono (by decide)) (by rfl) T.g_free T.F_free.kp (b_free T) .nil (passes_call takes0 (fun _ _ _ _ h => h)) (pa_cons (pv 9) (pa_cons (pv 10) pa_nil))) (pa_cons (pe_bltn (v := .ty "bool") (by rfl) T.z_bool bt_bool rfl) pa_nil))))) (pw_or1 (pt_cmpR (op_neD hr.units) (pe_prop (pv 9) T.cf.cl_Web T.pr_Web_ties (ok_Web_ties T) (hr.mono (by decide)) (b_Web_ties T) .nil pass0 rfl) (pe_callB c_sorted (by rfl) T.z_sorted bt_sorted (pa_cons (pv 8) pa_nil)) (nomark _))))) (pss_one (ps_ret pe_bl)) pss_nil))))))))))))))) (pss_one (ps_ret pe_bl)))
end
end G.J

namespace G.J
open PySem PySem.Spec PyProof.Rows L2
theorem law_ask {K : PySem.W.Frag} {a : Ad} {H : Hp} {x : Addr} {ns : List Int} {Q : VK} {E : XK} (hl : ns.length ≤ 63) (hS : SqL K H x (ns.map V.int)) (hq : ∀ H', Q (.bl true) H') : sp_law K a [.ref x] H Q E := by
  refine ⟨[per (scrP K ns)], fun g _ => g = dat (.bool true), fun _ _ => False, fun _ => 0, rfl, ⟨ns, rfl, hl, rfl⟩, ⟨rfl, fun i g v h1 h2 => ?_⟩, fun v g Γp ω' H' e _ p _ => ?_, fun _ _ _ _ h => h.elim⟩
  · match i, h1, h2 with
    | 0, h1, h2 =>
      cases h1
      cases h2
      exact ⟨x, rfl, Same.seq (fun b o e => vw_mk rfl e) hS⟩
    | i + 1, h1, _ => simp at h1
  · subst e
    cases DR.bl_inv p
    exact hq H'
def adOf (K : PySem.W.Frag) : Ad := ⟨He.ga K "Web", He.ga K "HueError", He.ga K "InvalidWeb", He.ga K "InvalidLists", He.ga K "InvalidPlace"⟩
theorem txt {K : PySem.W.Frag} {h : Heap} {mg : Str → Option Value} (X : K.In h) (G : h.Ns mainGlobals mg) (c : SaysP xf fa fn pr K) : ∃ T : Txt K mg (adOf K), T.f_law = He.ga K "law" := by
  obtain ⟨fd_near_among, F_near_among⟩ := c.d.def_ 0 (d := d_near_among) rfl
  obtain ⟨fd_parts_among, F_parts_among⟩ := c.d.def_ 1 (d := d_parts_among) rfl
  obtain ⟨fd_is_count, F_is_count⟩ := c.d.def_ 2 (d := d_is_count) rfl
  obtain ⟨fd_walk, F_walk⟩ := c.d.def_ 3 (d := d_walk) rfl
  obtain ⟨fd_core, F_core⟩ := c.d.def_ 4 (d := d_core) rfl
  obtain ⟨fd_good_parts, F_good_parts⟩ := c.d.def_ 5 (d := d_good_parts) rfl
  obtain ⟨fd_least_leaf, F_least_leaf⟩ := c.d.def_ 6 (d := d_least_leaf) rfl
  obtain ⟨fd_core_parts, F_core_parts⟩ := c.d.def_ 7 (d := d_core_parts) rfl
  obtain ⟨fd_form, F_form⟩ := c.d.def_ 8 (d := d_form) rfl
  obtain ⟨fd_even_ring, F_even_ring⟩ := c.d.def_ 9 (d := d_even_ring) rfl
  obtain ⟨fd_three_ways, F_three_ways⟩ := c.d.def_ 10 (d := d_three_ways) rfl
  obtain ⟨fd_is_tie, F_is_tie⟩ := c.d.def_ 11 (d := d_is_tie) rfl
  obtain ⟨fd_check_web, F_check_web⟩ := c.d.def_ 12 (d := d_check_web) rfl
  obtain ⟨fd_neighbour_lists, F_neighbour_lists⟩ := c.d.def_ 13 (d := d_neighbour_lists) rfl
  obtain ⟨fd_Web_init_, F_Web_init_⟩ := c.d.def_ 14 (d := d_Web_init_) rfl
  obtain ⟨fd_Web_len_, F_Web_len_⟩ := c.d.def_ 15 (d := d_Web_len_) rfl
  obtain ⟨fd_Web_neighbours, F_Web_neighbours⟩ := c.d.def_ 16 (d := d_Web_neighbours) rfl
  obtain ⟨fd_Web_parts, F_Web_parts⟩ := c.d.def_ 17 (d := d_Web_parts) rfl
  obtain ⟨fd_Web_part_of, F_Web_part_of⟩ := c.d.def_ 18 (d := d_Web_part_of) rfl
  obtain ⟨fd_free, F_free⟩ := c.d.def_ 19 (d := d_free) rfl
  obtain ⟨fd_is_in_tree, F_is_in_tree⟩ := c.d.def_ 20 (d := d_is_in_tree) rfl
  obtain ⟨fd_law_jar, F_law_jar⟩ := c.d.def_ 21 (d := d_law_jar) rfl
  obtain ⟨fd_law_draw, F_law_draw⟩ := c.d.def_ 22 (d := d_law_draw) rfl
  obtain ⟨fd_law_order, F_law_order⟩ := c.d.def_ 23 (d := d_law_order) rfl
  obtain ⟨fd_law_ties, F_law_ties⟩ := c.d.def_ 24 (d := d_law_ties) rfl
  obtain ⟨fd_law_others, F_law_others⟩ := c.d.def_ 25 (d := d_law_others) rfl
  obtain ⟨fd_law_bad, F_law_bad⟩ := c.d.def_ 26 (d := d_law_bad) rfl
  obtain ⟨fd_law_refused, F_law_refused⟩ := c.d.def_ 27 (d := d_law_refused) rfl
  obtain ⟨fd_law, F_law⟩ := c.d.def_ 28 (d := d_law) rfl
  obtain ⟨pr_Web_ties, fd_Web_ties, F_Web_ties⟩ := c.p 0 (q := q_Web_ties) rfl
  exact ⟨{
    xm := of_decide_eq_true ((He.ba (He.ba (He.ba c.x).2).2).1),
    ec := exc_okB ((He.ba (He.ba (He.ba (He.ba c.x).2).2).2).1),
    ky := of_decide_eq_true ((He.ba (He.ba (He.ba (He.ba (He.ba c.x).2).2).2).2).1),
    kv := of_decide_eq_true ((He.ba (He.ba (He.ba (He.ba (He.ba (He.ba c.x).2).2).2).2).2).1),
    k6 := of_decide_eq_true ((He.ba (He.ba (He.ba (He.ba (He.ba (He.ba (He.ba c.x).2).2).2).2).2).2).1),
    k5 := of_decide_eq_true ((He.ba (He.ba (He.ba (He.ba (He.ba (He.ba (He.ba (He.ba c.x).2).2).2).2).2).2).2).1),
    wi := of_decide_eq_true ((He.ba (He.ba (He.ba (He.ba (He.ba (He.ba (He.ba (He.ba c.x).2).2).2).2).2).2).2).2),
    cf := ⟨He.cls_ok (c.d.fact 38 (f := .cls "Web") rfl), He.noat_ok (c.d.fact 39 (f := .noat "Web" "_ties") rfl), He.noat_ok (c.d.fact 40 (f := .noat "Web" "_near") rfl), ins_ok (He.cls_ok (c.d.fact 38 (f := .cls "Web") rfl)) ((He.ba c.x).1), oth_ok ((He.ba (He.ba c.x).2).1)⟩,
    g_HueError := He.glo_ok X G (c.d.fact 24 (f := .glo "HueError") rfl),
    g_InvalidWeb := He.glo_ok X G (c.d.fact 25 (f := .glo "InvalidWeb") rfl),
    g_InvalidPlace := He.glo_ok X G (c.d.fact 26 (f := .glo "InvalidPlace") rfl),
    g_InvalidLists := He.glo_ok X G (c.d.fact 27 (f := .glo "InvalidLists") rfl),
    g_InvalidLengths := He.glo_ok X G (c.d.fact 28 (f := .glo "InvalidLengths") rfl),
    g_InvalidShowing := He.glo_ok X G (c.d.fact 29 (f := .glo "InvalidShowing") rfl),
    g_InvalidPainting := He.glo_ok X G (c.d.fact 30 (f := .glo "InvalidPainting") rfl),
    g_InvalidTie := He.glo_ok X G (c.d.fact 31 (f := .glo "InvalidTie") rfl),
    g_Over := He.glo_ok X G (c.d.fact 32 (f := .glo "Over") rfl),
    g_NothingToUndo := He.glo_ok X G (c.d.fact 33 (f := .glo "NothingToUndo") rfl),
    g_InvalidText := He.glo_ok X G (c.d.fact 34 (f := .glo "InvalidText") rfl),
    g_InvalidCommand := He.glo_ok X G (c.d.fact 35 (f := .glo "InvalidCommand") rfl),
    g_NotReady := He.glo_ok X G (c.d.fact 36 (f := .glo "NotReady") rfl),
    g_Web := He.glo_ok X G (c.d.fact 37 (f := .glo "Web") rfl),
    xF_HueError := (He.exc_ok (c.d.fact 46 (f := .exc "HueError") rfl)).1,
    kF_HueError := (He.exc_ok (c.d.fact 46 (f := .exc "HueError") rfl)).2.1,
    bF_HueError := (He.exc_ok (c.d.fact 46 (f := .exc "HueError") rfl)).2.2.1,
    tF_HueError := (He.exc_ok (c.d.fact 46 (f := .exc "HueError") rfl)).2.2.2,
    xF_InvalidWeb := (He.exc_ok (c.d.fact 47 (f := .exc "InvalidWeb") rfl)).1,
    kF_InvalidWeb := (He.exc_ok (c.d.fact 47 (f := .exc "InvalidWeb") rfl)).2.1,
    bF_InvalidWeb := (He.exc_ok (c.d.fact 47 (f := .exc "InvalidWeb") rfl)).2.2.1,
    tF_InvalidWeb := (He.exc_ok (c.d.fact 47 (f := .exc "InvalidWeb") rfl)).2.2.2,
    xF_InvalidPlace := (He.exc_ok (c.d.fact 48 (f := .exc "InvalidPlace") rfl)).1,
    kF_InvalidPlace := (He.exc_ok (c.d.fact 48 (f := .exc "InvalidPlace") rfl)).2.1,
    bF_InvalidPlace := (He.exc_ok (c.d.fact 48 (f := .exc "InvalidPlace") rfl)).2.2.1,
    tF_InvalidPlace := (He.exc_ok (c.d.fact 48 (f := .exc "InvalidPlace") rfl)).2.2.2,
    xF_InvalidLists := (He.exc_ok (c.d.fact 49 (f := .exc "InvalidLists") rfl)).1,
    kF_InvalidLists := (He.exc_ok (c.d.fact 49 (f := .exc "InvalidLists") rfl)).2.1,
    bF_InvalidLists := (He.exc_ok (c.d.fact 49 (f := .exc "InvalidLists") rfl)).2.2.1,
    tF_InvalidLists := (He.exc_ok (c.d.fact 49 (f := .exc "InvalidLists") rfl)).2.2.2,
    xF_InvalidLengths := (He.exc_ok (c.d.fact 50 (f := .exc "InvalidLengths") rfl)).1,
    kF_InvalidLengths := (He.exc_ok (c.d.fact 50 (f := .exc "InvalidLengths") rfl)).2.1,
    bF_InvalidLengths := (He.exc_ok (c.d.fact 50 (f := .exc "InvalidLengths") rfl)).2.2.1,
    tF_InvalidLengths := (He.exc_ok (c.d.fact 50 (f := .exc "InvalidLengths") rfl)).2.2.2,
    xF_InvalidShowing := (He.exc_ok (c.d.fact 51 (f := .exc "InvalidShowing") rfl)).1,
    kF_InvalidShowing := (He.exc_ok (c.d.fact 51 (f := .exc "InvalidShowing") rfl)).2.1,
    bF_InvalidShowing := (He.exc_ok (c.d.fact 51 (f := .exc "InvalidShowing") rfl)).2.2.1,
    tF_InvalidShowing := (He.exc_ok (c.d.fact 51 (f := .exc "InvalidShowing") rfl)).2.2.2,
    xF_InvalidPainting := (He.exc_ok (c.d.fact 52 (f := .exc "InvalidPainting") rfl)).1,
    kF_InvalidPainting := (He.exc_ok (c.d.fact 52 (f := .exc "InvalidPainting") rfl)).2.1,
    bF_InvalidPainting := (He.exc_ok (c.d.fact 52 (f := .exc "InvalidPainting") rfl)).2.2.1,
    tF_InvalidPainting := (He.exc_ok (c.d.fact 52 (f := .exc "InvalidPainting") rfl)).2.2.2,
    xF_InvalidTie := (He.exc_ok (c.d.fact 53 (f := .exc "InvalidTie") rfl)).1,
    kF_InvalidTie := (He.exc_ok (c.d.fact 53 (f := .exc "InvalidTie") rfl)).2.1,
    bF_InvalidTie := (He.exc_ok (c.d.fact 53 (f := .exc "InvalidTie") rfl)).2.2.1,
    tF_InvalidTie := (He.exc_ok (c.d.fact 53 (f := .exc "InvalidTie") rfl)).2.2.2,
    xF_Over := (He.exc_ok (c.d.fact 54 (f := .exc "Over") rfl)).1,
    kF_Over := (He.exc_ok (c.d.fact 54 (f := .exc "Over") rfl)).2.1,
    bF_Over := (He.exc_ok (c.d.fact 54 (f := .exc "Over") rfl)).2.2.1,
    tF_Over := (He.exc_ok (c.d.fact 54 (f := .exc "Over") rfl)).2.2.2,
    xF_NothingToUndo := (He.exc_ok (c.d.fact 55 (f := .exc "NothingToUndo") rfl)).1,
    kF_NothingToUndo := (He.exc_ok (c.d.fact 55 (f := .exc "NothingToUndo") rfl)).2.1,
    bF_NothingToUndo := (He.exc_ok (c.d.fact 55 (f := .exc "NothingToUndo") rfl)).2.2.1,
    tF_NothingToUndo := (He.exc_ok (c.d.fact 55 (f := .exc "NothingToUndo") rfl)).2.2.2,
    xF_InvalidText := (He.exc_ok (c.d.fact 56 (f := .exc "InvalidText") rfl)).1,
    kF_InvalidText := (He.exc_ok (c.d.fact 56 (f := .exc "InvalidText") rfl)).2.1,
    bF_InvalidText := (He.exc_ok (c.d.fact 56 (f := .exc "InvalidText") rfl)).2.2.1,
    tF_InvalidText := (He.exc_ok (c.d.fact 56 (f := .exc "InvalidText") rfl)).2.2.2,
    xF_InvalidCommand := (He.exc_ok (c.d.fact 57 (f := .exc "InvalidCommand") rfl)).1,
    kF_InvalidCommand := (He.exc_ok (c.d.fact 57 (f := .exc "InvalidCommand") rfl)).2.1,
    bF_InvalidCommand := (He.exc_ok (c.d.fact 57 (f := .exc "InvalidCommand") rfl)).2.2.1,
    tF_InvalidCommand := (He.exc_ok (c.d.fact 57 (f := .exc "InvalidCommand") rfl)).2.2.2,
    xF_NotReady := (He.exc_ok (c.d.fact 58 (f := .exc "NotReady") rfl)).1,
    kF_NotReady := (He.exc_ok (c.d.fact 58 (f := .exc "NotReady") rfl)).2.1,
    bF_NotReady := (He.exc_ok (c.d.fact 58 (f := .exc "NotReady") rfl)).2.2.1,
    tF_NotReady := (He.exc_ok (c.d.fact 58 (f := .exc "NotReady") rfl)).2.2.2,
    f_near_among := He.ga K "near_among",
    fd_near_among := fd_near_among,
    F_near_among := F_near_among,
    g_near_among := He.glo_ok X G (c.d.fact 0 (f := .glo "near_among") rfl),
    f_parts_among := He.ga K "parts_among",
    fd_parts_among := fd_parts_among,
    F_parts_among := F_parts_among,
    g_parts_among := He.glo_ok X G (c.d.fact 1 (f := .glo "parts_among") rfl),
    f_is_count := He.ga K "is_count",
    fd_is_count := fd_is_count,
    F_is_count := F_is_count,
    g_is_count := He.glo_ok X G (c.d.fact 2 (f := .glo "is_count") rfl),
    f_walk := He.ga K "walk",
    fd_walk := fd_walk,
    F_walk := F_walk,
    g_walk := He.glo_ok X G (c.d.fact 3 (f := .glo "walk") rfl),
    f_core := He.ga K "core",
    fd_core := fd_core,
    F_core := F_core,
    g_core := He.glo_ok X G (c.d.fact 4 (f := .glo "core") rfl),
    f_good_parts := He.ga K "good_parts",
    fd_good_parts := fd_good_parts,
    F_good_parts := F_good_parts,
    g_good_parts := He.glo_ok X G (c.d.fact 5 (f := .glo "good_parts") rfl),
    f_least_leaf := He.ga K "_least_leaf",
    fd_least_leaf := fd_least_leaf,
    F_least_leaf := F_least_leaf,
    g_least_leaf := He.glo_ok X G (c.d.fact 6 (f := .glo "_least_leaf") rfl),
    f_core_parts := He.ga K "_core_parts",
    fd_core_parts := fd_core_parts,
    F_core_parts := F_core_parts,
    g_core_parts := He.glo_ok X G (c.d.fact 7 (f := .glo "_core_parts") rfl),
    f_form := He.ga K "_form",
    fd_form := fd_form,
    F_form := F_form,
    g_form := He.glo_ok X G (c.d.fact 8 (f := .glo "_form") rfl),
    f_even_ring := He.ga K "_even_ring",
    fd_even_ring := fd_even_ring,
    F_even_ring := F_even_ring,
    g_even_ring := He.glo_ok X G (c.d.fact 9 (f := .glo "_even_ring") rfl),
    f_three_ways := He.ga K "_three_ways",
    fd_three_ways := fd_three_ways,
    F_three_ways := F_three_ways,
    g_three_ways := He.glo_ok X G (c.d.fact 10 (f := .glo "_three_ways") rfl),
    f_is_tie := He.ga K "_is_tie",
    fd_is_tie := fd_is_tie,
    F_is_tie := F_is_tie,
    g_is_tie := He.glo_ok X G (c.d.fact 11 (f := .glo "_is_tie") rfl),
    f_check_web := He.ga K "_check_web",
    fd_check_web := fd_check_web,
    F_check_web := F_check_web,
    g_check_web := He.glo_ok X G (c.d.fact 12 (f := .glo "_check_web") rfl),
    f_neighbour_lists := He.ga K "_neighbour_lists",
    fd_neighbour_lists := fd_neighbour_lists,
    F_neighbour_lists := F_neighbour_lists,
    g_neighbour_lists := He.glo_ok X G (c.d.fact 13 (f := .glo "_neighbour_lists") rfl),
    f_Web_init_ := He.ma K (He.ga K "Web") "__init__",
    fd_Web_init_ := fd_Web_init_,
    F_Web_init_ := F_Web_init_,
    M_Web := He.mkr_ok (c.d.fact 41 (f := .mkr "Web") rfl),
    f_Web_ties := pG K q_Web_ties,
    fd_Web_ties := fd_Web_ties,
    F_Web_ties := F_Web_ties,
    p_Web_ties := pA K q_Web_ties,
    pr_Web_ties := pr_Web_ties,
    f_Web_len_ := He.ma K (He.ga K "Web") "__len__",
    fd_Web_len_ := fd_Web_len_,
    F_Web_len_ := F_Web_len_,
    l_Web := (He.meth_ok (c.d.fact 42 (f := .meth "Web" "__len__") rfl)).1,
    lf_Web := (He.meth_ok (c.d.fact 42 (f := .meth "Web" "__len__") rfl)).2,
    f_Web_neighbours := He.ma K (He.ga K "Web") "neighbours",
    fd_Web_neighbours := fd_Web_neighbours,
    F_Web_neighbours := F_Web_neighbours,
    m_Web_neighbours := ⟨(He.meth_ok (c.d.fact 43 (f := .meth "Web" "neighbours") rfl)).1, (He.meth_ok (c.d.fact 43 (f := .meth "Web" "neighbours") rfl)).2, F_Web_neighbours.kp⟩,
    f_Web_parts := He.ma K (He.ga K "Web") "parts",
    fd_Web_parts := fd_Web_parts,
    F_Web_parts := F_Web_parts,
    m_Web_parts := ⟨(He.meth_ok (c.d.fact 44 (f := .meth "Web" "parts") rfl)).1, (He.meth_ok (c.d.fact 44 (f := .meth "Web" "parts") rfl)).2, F_Web_parts.kp⟩,
    f_Web_part_of := He.ma K (He.ga K "Web") "_part_of",
    fd_Web_part_of := fd_Web_part_of,
    F_Web_part_of := F_Web_part_of,
    m_Web_part_of := ⟨(He.meth_ok (c.d.fact 45 (f := .meth "Web" "_part_of") rfl)).1, (He.meth_ok (c.d.fact 45 (f := .meth "Web" "_part_of") rfl)).2, F_Web_part_of.kp⟩,
    f_free := He.ga K "free",
    fd_free := fd_free,
    F_free := F_free,
    g_free := He.glo_ok X G (c.d.fact 14 (f := .glo "free") rfl),
    f_is_in_tree := He.ga K "_is_in_tree",
    fd_is_in_tree := fd_is_in_tree,
    F_is_in_tree := F_is_in_tree,
    g_is_in_tree := He.glo_ok X G (c.d.fact 15 (f := .glo "_is_in_tree") rfl),
    f_law_jar := He.ga K "_law_jar",
    fd_law_jar := fd_law_jar,
    F_law_jar := F_law_jar,
    g_law_jar := He.glo_ok X G (c.d.fact 16 (f := .glo "_law_jar") rfl),
    f_law_draw := He.ga K "_law_draw",
    fd_law_draw := fd_law_draw,
    F_law_draw := F_law_draw,
    g_law_draw := He.glo_ok X G (c.d.fact 17 (f := .glo "_law_draw") rfl),
    f_law_order := He.ga K "_law_order",
    fd_law_order := fd_law_order,
    F_law_order := F_law_order,
    g_law_order := He.glo_ok X G (c.d.fact 18 (f := .glo "_law_order") rfl),
    f_law_ties := He.ga K "_law_ties",
    fd_law_ties := fd_law_ties,
    F_law_ties := F_law_ties,
    g_law_ties := He.glo_ok X G (c.d.fact 19 (f := .glo "_law_ties") rfl),
    f_law_others := He.ga K "_law_others",
    fd_law_others := fd_law_others,
    F_law_others := F_law_others,
    g_law_others := He.glo_ok X G (c.d.fact 20 (f := .glo "_law_others") rfl),
    f_law_bad := He.ga K "_law_bad",
    fd_law_bad := fd_law_bad,
    F_law_bad := F_law_bad,
    g_law_bad := He.glo_ok X G (c.d.fact 21 (f := .glo "_law_bad") rfl),
    f_law_refused := He.ga K "_law_refused",
    fd_law_refused := fd_law_refused,
    F_law_refused := F_law_refused,
    g_law_refused := He.glo_ok X G (c.d.fact 22 (f := .glo "_law_refused") rfl),
    f_law := He.ga K "law",
    fd_law := fd_law,
    F_law := F_law,
    g_law := He.glo_ok X G (c.d.fact 23 (f := .glo "law") rfl),
    z_ValueError := He.free_ok X G (c.d.fact 59 (f := .free "ValueError") rfl),
    z_abs := He.free_ok X G (c.d.fact 60 (f := .free "abs") rfl),
    z_all := He.free_ok X G (c.d.fact 61 (f := .free "all") rfl),
    z_bool := He.free_ok X G (c.d.fact 62 (f := .free "bool") rfl),
    z_enumerate := He.free_ok X G (c.d.fact 63 (f := .free "enumerate") rfl),
    z_int := He.free_ok X G (c.d.fact 64 (f := .free "int") rfl),
    z_isinstance := He.free_ok X G (c.d.fact 65 (f := .free "isinstance") rfl),
    z_len := He.free_ok X G (c.d.fact 66 (f := .free "len") rfl),
    z_list := He.free_ok X G (c.d.fact 67 (f := .free "list") rfl),
    z_max := He.free_ok X G (c.d.fact 68 (f := .free "max") rfl),
    z_min := He.free_ok X G (c.d.fact 69 (f := .free "min") rfl),
    z_range := He.free_ok X G (c.d.fact 70 (f := .free "range") rfl),
    z_set := He.free_ok X G (c.d.fact 71 (f := .free "set") rfl),
    z_sorted := He.free_ok X G (c.d.fact 72 (f := .free "sorted") rfl),
    z_str := He.free_ok X G (c.d.fact 73 (f := .free "str") rfl),
    z_tuple := He.free_ok X G (c.d.fact 74 (f := .free "tuple") rfl) }, rfl⟩
end G.J
open PySem PySem.W PySem.Calls PyProof.Rows
theorem PySem.Challenge.cw_ownhues_k39_free_of_no_place_holds : PySem.Challenge.rw_ownhues_k39_free_of_no_place.Holds := by
  w_on; o_law
  refine HandSHeadRun.head_any (r := OpenLaw.row PySem.Challenge.rw_ownhues_k39_free_of_no_place) (q := view (OpenLaw.row PySem.Challenge.rw_ownhues_k39_free_of_no_place).prog [46]) (H := G.hk) (ob := G.ob) (M := 9000) (loose := G.loose) (d := HandSHeadRun.topDef (OpenLaw.row PySem.Challenge.rw_ownhues_k39_free_of_no_place).prog 46) (kwd := []) G.ob_eq
    (by kernel_rfl) (fun s => by kernel_rfl) G.run (by kernel_rfl) (by kernel_rfl) (by kernel_rfl) (by rfl) (by first | assumption | decide +kernel) (by decide +kernel) ⟨rfl, rfl, rfl, rfl, rfl, by decide +kernel⟩ ?hw ?hc
  case hw => w_witness2
  case hc =>
    refine L2.walk_ofE (l := PySem.Challenge.rw_ownhues_k39_free_of_no_place) (n := 63) (k := 9) (x := "script") (CX := L2.CX0) rfl (by decide) (by kernel_rfl) ⟨rfl, by decide, by decide⟩ ?F (fun _ _ _ _ z => z)
    intro w mg fa h Y N hmg0
    obtain ⟨K, KX, c⟩ := Y
    have hmg : mg ("law" : PySem.Str) = some (.ref fa) := by
      have e : (HandSHeadRun.topDef (OpenLaw.row PySem.Challenge.rw_ownhues_k39_free_of_no_place).prog 46).name = ("law" : PySem.Str) := by kernel_rfl
      rw [← e]
      exact hmg0
    obtain ⟨T, hT⟩ := G.J.txt KX N c
    have e := hmg.symm.trans T.g_law
    injection e with e
    injection e with e
    subst e
    exact ⟨K, T.fd_law, G.J.sp_law K (G.J.adOf K), KX, fun s v => L2.FunD.bindsA (ps := ["script"]) T.F_law (fun _ _ _ _ _ _ us hl => match us, hl with | [_], _ => rfl) s [v] rfl, fun H x ns hl _ hS => G.J.law_ask hl hS (fun _ => rfl), fun base _ _ => G.J.ok_law T⟩

