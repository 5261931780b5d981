import PyProof.Rows.All
import Wide.All
import OpenK.AllK
import Wide.FinOn
import HandS.Base
import HandS.Call
import HandS.Ends
import HandS.Defaults
import HandS.Property
import HandS.Head0
import HandS.Head1
import HandS.Head2
import HandS.HeadEnd
import HandS.HeadHook1
import HandS.HeadHook2
import HandS.ForMost
import HandS.Wide
import HandS.Deep
import HandS.SortInts
import HandS.SortRule
import HandS.IsInst
import HandS.Conv
import HandS.TupSets
import PyProof.InstSpecial
import HandS.Iter
import HandS.Exc
import HandS.ExcOwn
import HandS.TryOnly
import HandS.Steps
import PyProof.InstNe
import HandS.Style
import PyProof.ReprRoads
import PyProof.ReprBulk
import PyProof.FitsInt
import HandS.ExcValue
import HandS.ExcIs
import PyProof.Rows.SetFrom
import HandS.SetFor
import HandS.Strs
import PyProof.EqLayable
import HandS.Comp
import HandS.SetBool
import KE.KDictZip
import HandS.WordsExc
import PySem.Challenge.RW_ownhues_k11_hues_and_new_names
set_option Elab.async false
set_option linter.all false
set_option maxRecDepth 100000
set_option maxHeartbeats 0
set_option pp.maxSteps 500
set_option pp.proofs false
namespace G
open PySem PySem.Spec PyProof.Rows L2
/-! ### the head with properties: each is a datum -/
structure PrD where
  cls : Str
  name : Str
  qual : Str
  params : Arguments
  body : List Stmt
  scope : Scope
def pA (K : PySem.W.Frag) (q : PrD) : Addr := He.ma K (He.ga K q.cls) q.name
def pG (K : PySem.W.Frag) (q : PrD) : Addr := match PySem.W.recIn K (pA K q) "property" with
  | some (.ref g :: _) => g
  | _ => 0
def fnAt (K : PySem.W.Frag) (f : Addr) : He.FnW := match K.lookup f with
  | some ⟨_, _, .func fd, _⟩ => some (fd.name, fd.qualname, fd.params, fd.body, fd.scope, fd.globals, fd.closure, fd.builtins)
  | _ => none
def PrD.val (q : PrD) : He.FnW := some (q.name, q.qual, q.params, .stmts q.body, q.scope, mainGlobals, [], builtinsNs)
def PrD.rec_ (K : PySem.W.Frag) (q : PrD) : Bool := match PySem.W.recIn K (pA K q) "property" with
  | some (.ref _ :: _) => true
  | _ => false
def PrD.fn (K : PySem.W.Frag) (q : PrD) : Bool := match K.lookup (pG K q) with
  | some ⟨_, _, .func fd, _⟩ => PySem.W.codeIn K fd.code q.qual && (He.dflB K fd.defaults [] && He.kwdB K fd.kwdefaults [])
  | _ => false
def PrD.ok (K : PySem.W.Frag) (q : PrD) : Bool := He.eqO (PySem.W.findIn K (.ref (He.ga K q.cls)) q.name) (some (some (.ref (pA K q)))) && (He.eqO (PySem.W.specialIn K (.ref (pA K q)) "__get__") (some (some (.builtin "property.__get__"))) &&
  (decide (PySem.W.takesIn K (.ref (pA K q)) = some true) && (q.rec_ K && (PySem.W.keepIn K (.ref (pG K q)) && q.fn K))))
theorem PrD.all {K : PySem.W.Frag} {q : PrD} (e : fnAt K (pG K q) = q.val) (c : q.ok K = true) : PropOf K (He.ga K q.cls) q.name (pA K q) (pG K q) ∧ ∃ fd, FunD K q.name q.qual q.params q.body q.scope [] [] (pG K q) fd := by
  obtain ⟨h1, c⟩ := He.ba c
  obtain ⟨h2, c⟩ := He.ba c
  obtain ⟨h3, c⟩ := He.ba c
  obtain ⟨h4, c⟩ := He.ba c
  obtain ⟨kp, c2⟩ := He.ba c
  refine ⟨⟨He.eqO_ok h1, He.eqO_ok h2, of_decide_eq_true h3, ?_⟩, ?_⟩
  · unfold PrD.rec_ at h4
    unfold pG
    split at h4
    · rename_i g r hr
      rw [hr]
      exact ⟨r, rfl⟩
    · cases h4
  · unfold PrD.fn at c2
    unfold fnAt at e
    cases hq : K.lookup (pG K q) with
    | none =>
      rw [hq] at c2
      cases c2
    | some o =>
      obtain ⟨oc, od, dt, osl⟩ := o
      rw [hq] at c2 e
      cases dt with
      | func fd =>
        obtain ⟨n1, n2, n3, n4, n5, n6, n7, n8, n9, n10, n11, n12, n13, n14, n15⟩ := fd
        have e2 : (some (n1, n2, n3, n4, n5, n6, n7, n15) : He.FnW) = some (q.name, q.qual, q.params, .stmts q.body, q.scope, mainGlobals, [], builtinsNs) := e
        simp only [Option.some.injEq, Prod.mk.injEq] at e2
        obtain ⟨h1, h2, h3, h4, h5, h6, h7, h8⟩ := e2
        subst h1 h2 h3 h4 h5 h6 h7 h8
        have c3 : (PySem.W.codeIn K n13 q.qual && (He.dflB K n8 [] && He.kwdB K n9 [])) = true := c2
        obtain ⟨k1, k2⟩ := He.ba c3
        obtain ⟨k3, k4⟩ := He.ba k2
        exact ⟨_, ⟨oc, od, n8, n9, n10, n11, n12, n13, n14, osl, rfl, hq, k1, He.dflB_ok k3, He.kwdB_ok k4⟩, kp⟩
      | _ => cases c2
abbrev AlP : Type := He.AlD × He.AlD
def obsP (xf : PySem.W.Frag → Bool) (fa : List He.Fa) (fn : List He.DefD) (pr : List PrD) (K : PySem.W.Frag) : AlP := (He.obsD fa fn K, ((pr.all fun q => q.ok K) && xf K, pr.map fun q => fnAt K (pG K q)))
def valP (fn : List He.DefD) (pr : List PrD) : AlP := (He.valD fn, (true, pr.map PrD.val))
def obsPG (xf : PySem.W.Frag → Bool) (n : Nat) (fa : List He.Fa) (fn : List He.DefD) (pr : List PrD) (g : Addr → Option Obj) : AlP := obsP xf fa fn pr (He.frG g (sysModules :: He.asD g n))
def SaysP (xf : PySem.W.Frag → Bool) (fa : List He.Fa) (fn : List He.DefD) (pr : List PrD) (K : PySem.W.Frag) : Prop := obsP xf fa fn pr K = valP fn pr
def hookP (xf : PySem.W.Frag → Bool) (n : Nat) (fa : List He.Fa) (fn : List He.DefD) (pr : List PrD) : PySem.W.Hook where
  α := AlP
  obs := fun s => obsPG xf n fa fn pr s.heap.get?
  val := fun _ => valP fn pr
  says := fun _ h => ∃ K : PySem.W.Frag, K.In h ∧ SaysP xf fa fn pr K
  of := fun _ _ e => ⟨_, He.frG_in, e⟩
  keeps := fun _ _ _ ⟨K, hK, c⟩ k => ⟨K, PySem.W.Frag.In.keeps hK k, c⟩
theorem obsPG_eq {xf : PySem.W.Frag → Bool} {n : Nat} {fa : List He.Fa} {fn : List He.DefD} {pr : List PrD} {g : Addr → Option Obj} {s : Shared} (h : ∀ a, g a = s.heap.get? a) : obsPG xf n fa fn pr g = (hookP xf n fa fn pr).obs s := by
  have e : g = s.heap.get? := funext h
  rw [e] <;> rfl
theorem SaysP.d {xf : PySem.W.Frag → Bool} {fa : List He.Fa} {fn : List He.DefD} {pr : List PrD} {K : PySem.W.Frag} (c : SaysP xf fa fn pr K) : He.SaysD fa fn K := congrArg (fun z : AlP => z.1) c
theorem SaysP.p {xf : PySem.W.Frag → Bool} {fa : List He.Fa} {fn : List He.DefD} {pr : List PrD} {K : PySem.W.Frag} (c : SaysP xf fa fn pr K) (i : Nat) {q : PrD} (h : pr[i]? = some q) :
    PropOf K (He.ga K q.cls) q.name (pA K q) (pG K q) ∧ ∃ fd, FunD K q.name q.qual q.params q.body q.scope [] [] (pG K q) fd := by
  have c2 : (pr.all fun q => q.ok K) = true := (He.ba (show ((pr.all fun q => q.ok K) && xf K) = true from congrArg (fun z : AlP => z.2.1) c)).1
  have e : pr.map (fun q => fnAt K (pG K q)) = pr.map PrD.val := congrArg (fun z : AlP => z.2.2) c
  have e2 : (pr.map fun q => fnAt K (pG K q))[i]? = (pr.map PrD.val)[i]? := by rw [e]
  rw [List.getElem?_map, List.getElem?_map, h] at e2
  exact PrD.all (Option.some.inj e2) (List.all_eq_true.mp c2 q (List.mem_of_getElem? h))
theorem SaysP.x {xf : PySem.W.Frag → Bool} {fa : List He.Fa} {fn : List He.DefD} {pr : List PrD} {K : PySem.W.Frag} (c : SaysP xf fa fn pr K) : xf K = true := (He.ba (show ((pr.all fun q => q.ok K) && xf K) = true from congrArg (fun z : AlP => z.2.1) c)).2
end G

/-! A small logic over the readings: slots hold assertions, each with a region of its own (a colour). 0 what stands still, 1 the frame, 2 what an expression has made, i + 3 the slot i's own. -/
namespace G
open PySem L2

abbrev Col := Addr → Nat
def vw (ω : Col) (H : Hp) (c : Nat) : Hp := fun b => if ω b = c then H b else none
theorem vw_iff {ω : Col} {H : Hp} {c : Nat} {a : Addr} {o : HO} : vw ω H c a = some o ↔ ω a = c ∧ H a = some o := by
  unfold vw
  by_cases h : ω a = c
  · rw [if_pos h]; exact ⟨fun e => ⟨h, e⟩, fun e => e.2⟩
  · rw [if_neg h]; exact ⟨(fun e => nomatch e), (fun e => absurd e.1 h)⟩
theorem vw_mk {ω : Col} {H : Hp} {c : Nat} {a : Addr} {o : HO} (h : ω a = c) (e : H a = some o) : vw ω H c a = some o := vw_iff.mpr ⟨h, e⟩
theorem vw_H {ω : Col} {H : Hp} {c : Nat} {a : Addr} {o : HO} (e : vw ω H c a = some o) : H a = some o := (vw_iff.mp e).2
theorem vw_c {ω : Col} {H : Hp} {c : Nat} {a : Addr} {o : HO} (e : vw ω H c a = some o) : ω a = c := (vw_iff.mp e).1

/-! ### data in the heap, its lists tracked -/
mutual
inductive DR (H : Hp) : V → PyData → Prop
  | non : DR H .non .none
  | bl (b : Bool) : DR H (.bl b) (.bool b)
  | int (i : Int) : DR H (.int i) (.int i)
  | str (x : Str) : DR H (.str x) (.str x)
  | lst {a : Addr} {xs : List V} {ds : List PyData} : H a = some (.lst xs) → DRs H xs ds → DR H (.ref a) (.list ds)
  | tup {a : Addr} {xs : List V} {ds : List PyData} : H a = some (.tup xs) → DRs H xs ds → DR H (.ref a) (.tuple ds)
  | dic {a : Addr} {ps : List (Int × Int)} : H a = some (.dK (ps.map fun p => (Sum.inl p.1, V.int p.2))) → DR H (.ref a) (.dict (ps.map fun p => (.int p.1, .int p.2)))
inductive DRs (H : Hp) : List V → List PyData → Prop
  | nil : DRs H [] []
  | cons {v : V} {vs : List V} {d : PyData} {ds : List PyData} : DR H v d → DRs H vs ds → DRs H (v :: vs) (d :: ds)
end
mutual
theorem DR.mono {H H' : Hp} (s : Same H H') : ∀ (d : PyData) {v : V}, DR H v d → DR H' v d
  | .none, _, h => by cases h; exact .non
  | .bool b, _, h => by cases h; exact .bl b
  | .int i, _, h => by cases h; exact .int i
  | .str x, _, h => by cases h; exact .str x
  | .list ds, _, h => by cases h with | lst e t => exact .lst (s _ _ e) (DRs.mono s ds t)
  | .tuple ds, _, h => by cases h with | tup e t => exact .tup (s _ _ e) (DRs.mono s ds t)
  | .dict _, _, h => by cases h with | dic e => exact .dic (s _ _ e)
theorem DRs.mono {H H' : Hp} (s : Same H H') : ∀ (ds : List PyData) {vs : List V}, DRs H vs ds → DRs H' vs ds
  | [], _, h => by cases h; exact .nil
  | d :: ds, _, h => by cases h with | cons a b => exact .cons (DR.mono s d a) (DRs.mono s ds b)
end
mutual
theorem DR.dp {K : PySem.W.Frag} {H : Hp} : ∀ (d : PyData) {v : V}, d.canLay0 = true → DR H v d → Dp K H v d
  | .none, _, _, h => by cases h; exact .non
  | .bool b, _, _, h => by cases h; exact .bl b
  | .int i, _, _, h => by cases h; exact .int i
  | .str x, _, _, h => by cases h; exact .str x
  | .list ds, _, l, h => by cases h with | lst e t => exact .lst (SqL.of e) (DRs.dp ds l t)
  | .tuple ds, _, l, h => by cases h with | tup e t => exact .tup (SqT.of e) (DRs.dp ds l t)
  | .dict _, _, l, _ => Bool.noConfusion l
theorem DRs.dp {K : PySem.W.Frag} {H : Hp} : ∀ (ds : List PyData) {vs : List V}, PyData.canLayAll0 ds = true → DRs H vs ds → DpAll K H vs ds
  | [], _, _, h => by cases h; exact .nil
  | d :: ds, _, l, h => by
    obtain ⟨l1, l2⟩ := Bool.and_eq_true_iff.mp (show (d.canLay0 && PyData.canLayAll0 ds) = true from l)
    cases h with | cons a b => exact .cons (DR.dp d l1 a) (DRs.dp ds l2 b)
end
section
variable {K : PySem.W.Frag} {H : Hp}
theorem DRs.length : ∀ {ds : List PyData} {vs : List V}, DRs H vs ds → vs.length = ds.length
  | [], _, h => by cases h; rfl
  | d :: ds, _, h => by cases h with | cons a b => simp [DRs.length b]
theorem DRs.get : ∀ {ds : List PyData} {vs : List V} {i : Nat} {v : V}, DRs H vs ds → vs[i]? = some v → ∃ d, ds[i]? = some d ∧ DR H v d
  | [], _, _, _, h, e => by cases h; simp at e
  | d :: ds, _, 0, _, h, e => by cases h with | cons a b => simp at e; subst e; exact ⟨d, rfl, a⟩
  | d :: ds, _, i + 1, _, h, e => by cases h with | cons a b => exact DRs.get (i := i) b (by simpa using e)
theorem DRs.at : ∀ {ds : List PyData} {vs : List V} {i : Nat} {d : PyData}, DRs H vs ds → ds[i]? = some d → ∃ v, vs[i]? = some v ∧ DR H v d
  | [], _, _, _, h, e => by simp at e
  | d :: ds, _, 0, _, h, e => by cases h with | cons a b => simp at e; subst e; exact ⟨_, rfl, a⟩
  | d :: ds, _, i + 1, _, h, e => by cases h with | cons a b => exact DRs.at (i := i) b (by simpa using e)
theorem DRs.append : ∀ {ds es : List PyData} {vs ws : List V}, DRs H vs ds → DRs H ws es → DRs H (vs ++ ws) (ds ++ es)
  | [], _, _, _, h, h' => by cases h; exact h'
  | d :: ds, _, _, _, h, h' => by cases h with | cons a b => exact .cons a (DRs.append b h')
theorem DRs.snoc {ds : List PyData} {d : PyData} {vs : List V} {v : V} (h : DRs H vs ds) (h' : DR H v d) : DRs H (vs ++ [v]) (ds ++ [d]) := h.append (.cons h' .nil)
theorem DRs.drop : ∀ {ds : List PyData} {vs : List V} (n : Nat), DRs H vs ds → DRs H (vs.drop n) (ds.drop n)
  | _, _, 0, h => h
  | [], _, n + 1, h => by cases h; exact .nil
  | d :: ds, _, n + 1, h => by cases h with | cons a b => exact DRs.drop n b
theorem DRs.take : ∀ {ds : List PyData} {vs : List V} (n : Nat), DRs H vs ds → DRs H (vs.take n) (ds.take n)
  | _, _, 0, h => .nil
  | [], _, n + 1, h => by cases h; exact .nil
  | d :: ds, _, n + 1, h => by cases h with | cons a b => exact .cons a (DRs.take n b)
theorem DRs.erase : ∀ {ds : List PyData} {vs : List V} (n : Nat), DRs H vs ds → DRs H (vs.eraseIdx n) (ds.eraseIdx n)
  | [], _, _, h => by cases h; simp; exact .nil
  | d :: ds, _, 0, h => by cases h with | cons a b => exact b
  | d :: ds, _, n + 1, h => by cases h with | cons a b => exact .cons a (DRs.erase n b)
theorem DRs.set : ∀ {ds : List PyData} {vs : List V} (n : Nat) {d : PyData} {v : V}, DRs H vs ds → DR H v d → DRs H (vs.set n v) (ds.set n d)
  | [], _, _, _, _, h, _ => by cases h; exact .nil
  | d :: ds, _, 0, _, _, h, h' => by cases h with | cons a b => exact .cons h' b
  | d :: ds, _, n + 1, _, _, h, h' => by cases h with | cons a b => exact .cons a (DRs.set n b h')
theorem DRs.reverse : ∀ {ds : List PyData} {vs : List V}, DRs H vs ds → DRs H vs.reverse ds.reverse
  | [], _, h => by cases h; exact .nil
  | d :: ds, _, h => by cases h with | cons a b => simp only [List.reverse_cons]; exact (DRs.reverse b).snoc a
theorem DRs.ints : ∀ {ns : List Int} {vs : List V}, DRs H vs (ns.map PyData.int) → vs = ns.map V.int
  | [], _, h => by cases h; rfl
  | n :: ns, _, h => by
    cases h with | cons a b => cases a; rw [DRs.ints b]; rfl
theorem DRs.of_ints : ∀ {ns : List Int}, DRs H (ns.map V.int) (ns.map PyData.int)
  | [] => .nil
  | n :: ns => .cons (.int n) DRs.of_ints
theorem DR.int_inv {v : V} {i : Int} (h : DR H v (.int i)) : v = .int i := by cases h; rfl
theorem DR.bl_inv {v : V} {b : Bool} (h : DR H v (.bool b)) : v = .bl b := by cases h; rfl
theorem DR.str_inv {v : V} {b : Str} (h : DR H v (.str b)) : v = .str b := by cases h; rfl
theorem DR.non_inv {v : V} (h : DR H v .none) : v = .non := by cases h; rfl
theorem DR.lst_inv {v : V} {ds : List PyData} (h : DR H v (.list ds)) : ∃ a xs, v = .ref a ∧ H a = some (.lst xs) ∧ DRs H xs ds := by
  cases h with | lst e t => exact ⟨_, _, rfl, e, t⟩
theorem DR.tup_inv {v : V} {ds : List PyData} (h : DR H v (.tuple ds)) : ∃ a xs, v = .ref a ∧ H a = some (.tup xs) ∧ DRs H xs ds := by
  cases h with | tup e t => exact ⟨_, _, rfl, e, t⟩
end

/-! ### what a slot holds -/
structure Gp where
  p : Hp → V → Hp → Prop
  mono : ∀ {A A' : Hp} {v : V} {R R' : Hp}, Same A A' → Same R R' → p A v R → p A' v R'
/-- what stands still -/
structure Per where
  q : Hp → V → Prop
  mono : ∀ {A A' : Hp} {v : V}, Same A A' → q A v → q A' v
def per (q : Per) : Gp := ⟨fun A v _ => q.q A v, fun a _ h => q.mono a h⟩
def dP (d : PyData) : Per := ⟨fun A v => DR A v d, fun a h => h.mono a⟩
abbrev dat (d : PyData) : Gp := per (dP d)
/-- a list of one's own, of data that stands still -/
def own (ds : List PyData) : Gp := ⟨fun A v R => ∃ a vs, v = .ref a ∧ R a = some (.lst vs) ∧ DRs A vs ds,
  fun a r ⟨x, vs, e, h, t⟩ => ⟨x, vs, e, r _ _ h, t.mono a⟩⟩
abbrev Ga := List (Option Gp)
def Sta (Γ : Ga) (ω : Col) (σ : L2.St) (H : Hp) : Prop := σ.length = Γ.length ∧ ∀ (i : Nat) (g : Gp), Γ[i]? = some (some g) → ∃ v, σ[i]? = some (some v) ∧ g.p (vw ω H 0) v (vw ω H (i + 3))
def Fr (ω ω' : Col) (H H' : Hp) : Prop := Same (vw ω H 0) (vw ω' H' 0) ∧ Same (vw ω H 1) (vw ω' H' 1)
theorem Fr.refl {ω : Col} {H : Hp} : Fr ω ω H H := ⟨Same.refl _, Same.refl _⟩
theorem Fr.trans {ω ω1 ω2 : Col} {H H1 H2 : Hp} (a : Fr ω ω1 H H1) (b : Fr ω1 ω2 H1 H2) : Fr ω ω2 H H2 := ⟨a.1.trans b.1, a.2.trans b.2⟩

/-! ### expressions -/
def WE (te : TE) (Γ : Ga) (k : Gp → Ga → Prop) : Prop := ∀ ω σ H, Sta Γ ω σ H → ∀ Q : VK,
  (∀ v g Γ' ω' H', k g Γ' → Sta Γ' ω' σ H' → g.p (vw ω' H' 0) v (vw ω' H' 2) → Fr ω ω' H H' → Q v H') → te σ H Q
def WQ (te : TE) (Γ : Ga) (k : Per → Ga → Prop) : Prop := ∀ ω σ H, Sta Γ ω σ H → ∀ Q : VK,
  (∀ v q Γ' ω' H', k q Γ' → Sta Γ' ω' σ H' → q.q (vw ω' H' 0) v → Fr ω ω' H H' → Q v H') → te σ H Q
def WT (tt : TT) (Γ : Ga) (k : Bool → Ga → Prop) : Prop := ∀ ω σ H, Sta Γ ω σ H → ∀ Q : Bool → Hp → Prop,
  (∀ b Γ' ω' H', k b Γ' → Sta Γ' ω' σ H' → Fr ω ω' H H' → Q b H') → tt σ H Q
inductive Arg where
  | s (i : Nat)
  | q (q : Per)
def ArgOk (σ : L2.St) (A : Hp) : Arg → V → Prop
  | .s i, v => σ[i]? = some (some v)
  | .q q, v => q.q A v
theorem ArgOk.mono {σ : L2.St} {A A' : Hp} (s : Same A A') : ∀ {a : Arg} {v : V}, ArgOk σ A a v → ArgOk σ A' a v
  | .s _, _, h => h
  | .q q, _, h => q.mono s h
inductive ArgsOk (σ : L2.St) (A : Hp) : List Arg → List V → Prop
  | nil : ArgsOk σ A [] []
  | cons {a : Arg} {as : List Arg} {v : V} {vs : List V} : ArgOk σ A a v → ArgsOk σ A as vs → ArgsOk σ A (a :: as) (v :: vs)
theorem ArgsOk.mono {σ : L2.St} {A A' : Hp} (s : Same A A') : ∀ {as : List Arg} {vs : List V}, ArgsOk σ A as vs → ArgsOk σ A' as vs
  | [], _, h => by cases h; exact .nil
  | a :: as, _, h => by cases h with | cons x y => exact .cons (x.mono s) (ArgsOk.mono s y)
def WA (ta : TA) (Γ : Ga) (k : List Arg → Ga → Prop) : Prop := ∀ ω σ H, Sta Γ ω σ H → ∀ Q : List V → Hp → Prop,
  (∀ vs as Γ' ω' H', k as Γ' → Sta Γ' ω' σ H' → ArgsOk σ (vw ω' H' 0) as vs → Fr ω ω' H H' → Q vs H') → ta σ H Q
/-- g may be shut: it stands still from now on -/
def Frz (g : Gp) (q : Per) : Prop := ∀ A v R A', Same A A' → Same R A' → g.p A v R → q.q A' v
theorem frz_per {q : Per} : Frz (per q) q := fun _ _ _ _ a _ h => q.mono a h
theorem frz_own {ds : List PyData} : Frz (own ds) (dP (.list ds)) := fun _ _ _ _ a r ⟨x, vs, e, h, t⟩ => by
  subst e
  exact .lst (r _ _ h) (t.mono a)

/-- recolouring c to 0 -/
def shut (ω : Col) (c : Nat) : Col := fun b => if ω b = c then 0 else ω b
theorem shut_0 {ω : Col} {H : Hp} {c : Nat} : Same (vw ω H 0) (vw (shut ω c) H 0) := fun a o h => by
  obtain ⟨h1, h2⟩ := vw_iff.mp h
  refine vw_mk ?_ h2
  unfold shut
  split
  · rfl
  · exact h1
theorem shut_c {ω : Col} {H : Hp} {c : Nat} : Same (vw ω H c) (vw (shut ω c) H 0) := fun a o h => by
  obtain ⟨h1, h2⟩ := vw_iff.mp h
  refine vw_mk ?_ h2
  unfold shut
  rw [if_pos h1]
theorem shut_ne {ω : Col} {H : Hp} {c d : Nat} (n : d ≠ c) : Same (vw ω H d) (vw (shut ω c) H d) := fun a o h => by
  obtain ⟨h1, h2⟩ := vw_iff.mp h
  refine vw_mk ?_ h2
  unfold shut
  rw [if_neg (by rw [h1]; exact n)]
  exact h1
theorem Sta.move {Γ : Ga} {ω ω' : Col} {σ : L2.St} {H H' : Hp} (S : Sta Γ ω σ H) (a : Same (vw ω H 0) (vw ω' H' 0)) (r : ∀ i g, Γ[i]? = some (some g) → Same (vw ω H (i + 3)) (vw ω' H' (i + 3))) : Sta Γ ω' σ H' :=
  ⟨S.1, fun i g h => by
    obtain ⟨v, e, p⟩ := S.2 i g h
    exact ⟨v, e, g.mono a (r i g h) p⟩⟩
theorem wq_of {te : TE} {Γ : Ga} {k : Per → Ga → Prop} (h : WE te Γ fun g Γ' => ∃ q, Frz g q ∧ k q Γ') : WQ te Γ k := fun ω σ H S Q c =>
  h ω σ H S Q fun v g Γ' ω' H' ⟨q, fz, kk⟩ S' p fr => by
    refine c v q Γ' (shut ω' 2) H' kk (S'.move shut_0 fun i _ _ => shut_ne (by omega)) (fz _ _ _ _ shut_0 shut_c p) (fr.trans ⟨shut_0, shut_ne (by decide)⟩)
section
variable {K : PySem.W.Frag} {Γ : Ga} {k : Gp → Ga → Prop} {kt : Bool → Ga → Prop} {ta tb tc te : TE} {t u : TT}
theorem we_var {i : Nat} {q : Per} (h : Γ[i]? = some (some (per q))) (c : k (per q) Γ) : WE (tVar i) Γ k := fun ω σ H S Q f => by
  obtain ⟨v, e, p⟩ := S.2 i _ h
  exact ⟨v, e, f v _ Γ ω H c S p Fr.refl⟩
theorem set_eq {α : Type} {l : List α} {i j : Nat} {x : α} : (l.set i x)[j]? = if i = j then (if i < l.length then some x else none) else l[j]? := by
  rw [List.getElem?_set]
/-- a slot's own is shut when it is read as a value -/
theorem we_varF {i : Nat} {g : Gp} {q : Per} (h : Γ[i]? = some (some g)) (z : Frz g q) (c : k (per q) (Γ.set i (some (per q)))) : WE (tVar i) Γ k := fun ω σ H S Q f => by
  obtain ⟨v, e, p⟩ := S.2 i _ h
  have pq : q.q (vw (shut ω (i + 3)) H 0) v := z _ _ _ _ shut_0 shut_c p
  refine ⟨v, e, f v (per q) _ (shut ω (i + 3)) H c ⟨by rw [List.length_set]; exact S.1, fun j g' hj => ?_⟩ pq ⟨shut_0, shut_ne (by omega)⟩⟩
  rw [set_eq] at hj
  by_cases hij : i = j
  · rw [if_pos hij] at hj
    split at hj
    · cases hj
      subst hij
      exact ⟨v, e, pq⟩
    · cases hj
  · rw [if_neg hij] at hj
    obtain ⟨w, e', p'⟩ := S.2 j _ hj
    exact ⟨w, e', g'.mono shut_0 (shut_ne (by omega)) p'⟩
theorem we_c {v : V} {q : Per} (h : ∀ A, q.q A v) (c : k (per q) Γ) : WE (tC v) Γ k := fun ω σ H S Q f => f v _ Γ ω H c S (h _) Fr.refl
theorem we_int {i : Int} (c : k (dat (.int i)) Γ) : WE (tC (.int i)) Γ k := we_c (q := dP (.int i)) (fun _ => DR.int i) c
theorem we_bl {i : Bool} (c : k (dat (.bool i)) Γ) : WE (tC (.bl i)) Γ k := we_c (q := dP (.bool i)) (fun _ => DR.bl i) c
theorem we_str {i : Str} (c : k (dat (.str i)) Γ) : WE (tC (.str i)) Γ k := we_c (q := dP (.str i)) (fun _ => DR.str i) c
theorem we_non (c : k (dat .none) Γ) : WE (tC .non) Γ k := we_c (q := dP .none) (fun _ => DR.non) c
theorem WE.imp {k k' : Gp → Ga → Prop} (h : WE te Γ k) (f : ∀ g Γ', k g Γ' → k' g Γ') : WE te Γ k' := fun ω σ H S Q c => h ω σ H S Q fun v g Γ' ω' H' kk => c v g Γ' ω' H' (f _ _ kk)
theorem WQ.imp {k k' : Per → Ga → Prop} (h : WQ te Γ k) (f : ∀ g Γ', k g Γ' → k' g Γ') : WQ te Γ k' := fun ω σ H S Q c => h ω σ H S Q fun v g Γ' ω' H' kk => c v g Γ' ω' H' (f _ _ kk)
theorem WT.imp {t : TT} {k k' : Bool → Ga → Prop} (h : WT t Γ k) (f : ∀ g Γ', k g Γ' → k' g Γ') : WT t Γ k' := fun ω σ H S Q c => h ω σ H S Q fun g Γ' ω' H' kk => c g Γ' ω' H' (f _ _ kk)

/-- a two-place operation upon what stands still -/
theorem we_op {r : R2} (h : WQ ta Γ fun q Γ1 => WQ tb Γ1 fun q' Γ2 => ∀ (ω : Col) (σ : L2.St) (H : Hp) (v w : V), Sta Γ2 ω σ H → q.q (vw ω H 0) v → q'.q (vw ω H 0) w → ∀ Q : VK,
    (∀ (v : V) (g : Gp) (Γ' : Ga) (ω' : Col) (H' : Hp), k g Γ' → Sta Γ' ω' σ H' → g.p (vw ω' H' 0) v (vw ω' H' 2) → Fr ω ω' H H' → Q v H') → r v w H Q) : WE (tOp r ta tb) Γ k := fun ω σ H S Q f =>
  h ω σ H S _ fun v q Γ1 ω1 H1 h1 S1 p1 f1 => h1 ω1 σ H1 S1 _ fun w q' Γ2 ω2 H2 h2 S2 p2 f2 =>
    h2 ω2 σ H2 v w S2 (q.mono f2.1 p1) p2 Q fun v g Γ' ω' H' kk S' p f3 => f v g Γ' ω' H' kk S' p ((f1.trans f2).trans f3)
theorem we_un {r : V → Hp → VK → Prop} (h : WQ ta Γ fun q Γ2 => ∀ (ω : Col) (σ : L2.St) (H : Hp) (v : V), Sta Γ2 ω σ H → q.q (vw ω H 0) v → ∀ Q : VK,
    (∀ (v : V) (g : Gp) (Γ' : Ga) (ω' : Col) (H' : Hp), k g Γ' → Sta Γ' ω' σ H' → g.p (vw ω' H' 0) v (vw ω' H' 2) → Fr ω ω' H H' → Q v H') → r v H Q) : WE (tUn r ta) Γ k := fun ω σ H S Q f =>
  h ω σ H S _ fun v q Γ1 ω1 H1 h1 S1 p1 f1 => h1 ω1 σ H1 v S1 p1 Q fun v g Γ' ω' H' kk S' p f3 => f v g Γ' ω' H' kk S' p (f1.trans f3)
end
end G

namespace G
open PySem L2

/-! ### something new -/
def paint (ω : Col) (p : Addr) (c : Nat) : Col := fun b => if b = p then c else ω b
theorem paint_same {ω : Col} {H : Hp} {p : Addr} {c : Nat} {o : HO} (n : H p = none) (d : Nat) : Same (vw ω H d) (vw (paint ω p c) (upd H p o) d) := fun a u h => by
  obtain ⟨h1, h2⟩ := vw_iff.mp h
  have e : a ≠ p := ne_of_none h2 n
  exact vw_mk (by unfold paint; rw [if_neg e]; exact h1) (by rw [upd_ne e]; exact h2)
theorem paint_at {ω : Col} {H : Hp} {p : Addr} {c : Nat} {o : HO} : vw (paint ω p c) (upd H p o) c p = some o := vw_mk (by unfold paint; rw [if_pos rfl]) upd_same
theorem paint_fr {ω : Col} {H : Hp} {p : Addr} {c : Nat} {o : HO} (n : H p = none) : Fr ω (paint ω p c) H (upd H p o) := ⟨paint_same n 0, paint_same n 1⟩
theorem Sta.new {Γ : Ga} {ω : Col} {σ : L2.St} {H : Hp} (S : Sta Γ ω σ H) {p : Addr} (c : Nat) {o : HO} (n : H p = none) : Sta Γ (paint ω p c) σ (upd H p o) :=
  S.move (paint_same n 0) fun _ _ _ => paint_same n _
/-- an own object is changed -/
theorem mut_same {ω : Col} {H : Hp} {p : Addr} {o : HO} {d : Nat} (n : ω p ≠ d) : Same (vw ω H d) (vw ω (upd H p o) d) := fun a u h => by
  obtain ⟨h1, h2⟩ := vw_iff.mp h
  have e : a ≠ p := fun q => n (by rw [← q]; exact h1)
  exact vw_mk h1 (by rw [upd_ne e]; exact h2)
theorem Sta.set {Γ : Ga} {ω ω' : Col} {σ : L2.St} {H H' : Hp} (S : Sta Γ ω σ H) {i : Nat} {v : V} {g : Gp} (a : Same (vw ω H 0) (vw ω' H' 0)) (r : ∀ j g, j ≠ i → Γ[j]? = some (some g) → Same (vw ω H (j + 3)) (vw ω' H' (j + 3)))
    (e : σ[i]? = some (some v)) (p : g.p (vw ω' H' 0) v (vw ω' H' (i + 3))) : Sta (Γ.set i (some g)) ω' σ H' := by
  refine ⟨by rw [List.length_set]; exact S.1, fun j g' hj => ?_⟩
  rw [set_eq] at hj
  by_cases hij : i = j
  · rw [if_pos hij] at hj
    split at hj
    · cases hj
      subst hij
      exact ⟨v, e, p⟩
    · cases hj
  · rw [if_neg hij] at hj
    obtain ⟨w, e', p'⟩ := S.2 j _ hj
    exact ⟨w, e', g'.mono a (r j _ (Ne.symm hij) hj) p'⟩
/-- the assignment x = e: the result's own goes to the slot -/
def give (ω : Col) (c d : Nat) : Col := fun b => if ω b = c then d else if ω b = d then c else ω b
theorem give_c {ω : Col} {H : Hp} {c d : Nat} : Same (vw ω H c) (vw (give ω c d) H d) := fun a o h => by
  obtain ⟨h1, h2⟩ := vw_iff.mp h
  exact vw_mk (by unfold give; rw [if_pos h1]) h2
theorem give_ne {ω : Col} {H : Hp} {c d e : Nat} (n : e ≠ c) (m : e ≠ d) : Same (vw ω H e) (vw (give ω c d) H e) := fun a o h => by
  obtain ⟨h1, h2⟩ := vw_iff.mp h
  exact vw_mk (by unfold give; rw [if_neg (by rw [h1]; exact n), if_neg (by rw [h1]; exact m)]; exact h1) h2
theorem Sta.asg {Γ : Ga} {ω : Col} {σ : L2.St} {H : Hp} (S : Sta Γ ω σ H) {i : Nat} {v : V} {g : Gp} (p : g.p (vw ω H 0) v (vw ω H 2)) : Sta (Γ.set i (some g)) (give ω 2 (i + 3)) (σ.set i (some v)) H := by
  refine ⟨by rw [List.length_set, List.length_set]; exact S.1, fun j g' hj => ?_⟩
  rw [set_eq] at hj
  by_cases hij : i = j
  · rw [if_pos hij] at hj
    split at hj
    next hl =>
      cases hj
      subst hij
      exact ⟨v, by rw [set_eq, if_pos rfl, if_pos (by rw [S.1]; exact hl)], g.mono (give_ne (by omega) (by omega)) give_c p⟩
    · cases hj
  · rw [if_neg hij] at hj
    obtain ⟨w, e', p'⟩ := S.2 j _ hj
    exact ⟨w, by rw [set_eq, if_neg hij]; exact e', g'.mono (give_ne (by omega) (by omega)) (give_ne (by omega) (by omega)) p'⟩
theorem give_fr {ω : Col} {H : Hp} {i : Nat} : Fr ω (give ω 2 (i + 3)) H H := ⟨give_ne (by omega) (by omega), give_ne (by omega) (by omega)⟩

section
variable {K : PySem.W.Frag} {Γ : Ga} {k : Gp → Ga → Prop} {kt : Bool → Ga → Prop} {ka : List Arg → Ga → Prop} {ta tb tc te : TE} {t u : TT} {tr : TA} {r r' : R2}

/-! ### tests -/
theorem wt_test (h : WQ te Γ fun q Γ1 => ∃ b, q = dP (.bool b) ∧ kt b Γ1) : WT (tTest te) Γ kt := fun ω σ H S Q f => h ω σ H S _ fun v q Γ1 ω1 H1 ⟨b, e, hk⟩ S1 p f1 => by
  subst e
  exact ⟨b, DR.bl_inv p, f b Γ1 ω1 H1 hk S1 f1⟩
theorem wt_B (h : WQ te Γ fun q Γ1 => ∃ b, q = dP (.bool b) ∧ kt b Γ1) : WT (tB te) Γ kt := fun ω σ H S Q f => h ω σ H S _ fun v q Γ1 ω1 H1 ⟨b, e, hk⟩ S1 p f1 => by
  subst e
  exact ⟨b, DR.bl_inv p, f b Γ1 ω1 H1 hk S1 f1⟩
theorem wt_not (h : WT t Γ fun b Γ1 => kt (!b) Γ1) : WT (tNot t) Γ kt := fun ω σ H S Q f => h ω σ H S _ fun b Γ1 ω1 H1 hk S1 f1 => f _ Γ1 ω1 H1 hk S1 f1
theorem wt_and (h : WT t Γ fun b Γ1 => if b = true then WT u Γ1 kt else kt false Γ1) : WT (tAnd t u) Γ kt := fun ω σ H S Q f => h ω σ H S _ fun b Γ1 ω1 H1 hk S1 f1 => by
  cases b with
  | true => exact iteT ((show WT u Γ1 kt from hk) ω1 σ H1 S1 Q fun b Γ2 ω2 H2 hk S2 f2 => f b Γ2 ω2 H2 hk S2 (f1.trans f2))
  | false => exact iteF (f false Γ1 ω1 H1 hk S1 f1)
theorem wt_or (h : WT t Γ fun b Γ1 => if b = true then kt true Γ1 else WT u Γ1 kt) : WT (tOr t u) Γ kt := fun ω σ H S Q f => h ω σ H S _ fun b Γ1 ω1 H1 hk S1 f1 => by
  cases b with
  | false => exact iteF ((show WT u Γ1 kt from hk) ω1 σ H1 S1 Q fun b Γ2 ω2 H2 hk S2 f2 => f b Γ2 ω2 H2 hk S2 (f1.trans f2))
  | true => exact iteT (f true Γ1 ω1 H1 hk S1 f1)
/-! ### and, or, not as values; a if t else b -/
theorem we_and (h : WQ ta Γ fun q Γ1 => ∃ b, q = dP (.bool b) ∧ if b = true then WE tb Γ1 k else k (dat (.bool false)) Γ1) : WE (tAndV ta tb) Γ k := fun ω σ H S Q f => h ω σ H S _ fun v q Γ1 ω1 H1 ⟨b, e, hk⟩ S1 p f1 => by
  subst e
  refine ⟨b, DR.bl_inv p, ?_⟩
  cases b with
  | true => exact iteT ((show WE tb Γ1 k from hk) ω1 σ H1 S1 Q fun v g Γ2 ω2 H2 hk S2 p2 f2 => f v g Γ2 ω2 H2 hk S2 p2 (f1.trans f2))
  | false => exact iteF (f _ _ Γ1 ω1 H1 hk S1 (DR.bl false) f1)
theorem we_or (h : WQ ta Γ fun q Γ1 => ∃ b, q = dP (.bool b) ∧ if b = true then k (dat (.bool true)) Γ1 else WE tb Γ1 k) : WE (tOrV ta tb) Γ k := fun ω σ H S Q f => h ω σ H S _ fun v q Γ1 ω1 H1 ⟨b, e, hk⟩ S1 p f1 => by
  subst e
  refine ⟨b, DR.bl_inv p, ?_⟩
  cases b with
  | false => exact iteF ((show WE tb Γ1 k from hk) ω1 σ H1 S1 Q fun v g Γ2 ω2 H2 hk S2 p2 f2 => f v g Γ2 ω2 H2 hk S2 p2 (f1.trans f2))
  | true => exact iteT (f _ _ Γ1 ω1 H1 hk S1 (DR.bl true) f1)
theorem we_not (h : WQ ta Γ fun q Γ1 => ∃ b, q = dP (.bool b) ∧ k (dat (.bool (!b))) Γ1) : WE (tNotV ta) Γ k := fun ω σ H S Q f => h ω σ H S _ fun v q Γ1 ω1 H1 ⟨b, e, hk⟩ S1 p f1 => by
  subst e
  exact ⟨b, DR.bl_inv p, f _ _ Γ1 ω1 H1 hk S1 (DR.bl _) f1⟩
theorem we_if (h : WT t Γ fun b Γ1 => if b = true then WE ta Γ1 k else WE tb Γ1 k) : WE (tIf t ta tb) Γ k := fun ω σ H S Q f => h ω σ H S _ fun b Γ1 ω1 H1 hk S1 f1 => by
  cases b with
  | true => exact iteT ((show WE ta Γ1 k from hk) ω1 σ H1 S1 Q fun v g Γ2 ω2 H2 hk S2 p2 f2 => f v g Γ2 ω2 H2 hk S2 p2 (f1.trans f2))
  | false => exact iteF ((show WE tb Γ1 k from hk) ω1 σ H1 S1 Q fun v g Γ2 ω2 H2 hk S2 p2 f2 => f v g Γ2 ω2 H2 hk S2 p2 (f1.trans f2))
/-! ### arguments -/
theorem wa_nil (h : ka [] Γ) : WA tNil Γ ka := fun ω σ H S Q f => f [] [] Γ ω H h S .nil Fr.refl
theorem wa_cons (h : WQ te Γ fun q Γ1 => WA tr Γ1 fun as Γ2 => ka (.q q :: as) Γ2) : WA (tCons te tr) Γ ka := fun ω σ H S Q f => h ω σ H S _ fun v q Γ1 ω1 H1 hk S1 p f1 =>
  hk ω1 σ H1 S1 _ fun vs as Γ2 ω2 H2 h2 S2 a f2 => f (v :: vs) (.q q :: as) Γ2 ω2 H2 h2 S2 (.cons (q.mono f2.1 p) a) (f1.trans f2)
theorem wa_slot {i : Nat} (hi : ∃ g, Γ[i]? = some (some g)) (h : WA tr Γ fun as Γ2 => ka (.s i :: as) Γ2) : WA (tCons (tVar i) tr) Γ ka := fun ω σ H S Q f => by
  obtain ⟨g, hg⟩ := hi
  obtain ⟨v, e, p⟩ := S.2 i g hg
  exact ⟨v, e, h ω σ H S _ fun vs as Γ2 ω2 H2 h2 S2 a f2 => f (v :: vs) (.s i :: as) Γ2 ω2 H2 h2 S2 (.cons e a) f2⟩
theorem WA.imp {ka' : List Arg → Ga → Prop} (h : WA tr Γ ka) (f : ∀ as Γ', ka as Γ' → ka' as Γ') : WA tr Γ ka' := fun ω σ H S Q c => h ω σ H S Q fun vs as Γ' ω' H' kk => c vs as Γ' ω' H' (f _ _ kk)
/-- arguments that are all data -/
def ArgD : List Arg → List PyData → Prop
  | [], [] => True
  | .q q :: as, d :: ds => q = dP d ∧ ArgD as ds
  | _, _ => False
theorem ArgD.drs {σ : L2.St} {A : Hp} : ∀ {as : List Arg} {ds : List PyData} {vs : List V}, ArgD as ds → ArgsOk σ A as vs → DRs A vs ds
  | [], [], _, _, h => by cases h; exact .nil
  | [], _ :: _, _, h, _ => h.elim
  | .q q :: as, [], _, h, _ => h.elim
  | .s i :: as, _, _, h, _ => by unfold ArgD at h; exact h.elim
  | .q q :: as, d :: ds, _, h, a => by
    obtain ⟨e, h⟩ := h
    subst e
    cases a with | cons x y => exact .cons x (ArgD.drs h y)
theorem we_tup (h : WA tr Γ fun as Γ1 => ∃ ds, ArgD as ds ∧ ds.length ≤ 100000 ∧ k (dat (.tuple ds)) Γ1) : WE (tTup tr) Γ k := fun ω σ H S Q f => h ω σ H S _ fun vs as Γ1 ω1 H1 ⟨ds, e, hl, hk⟩ S1 a f1 => by
  have hd := e.drs a
  refine ⟨by rw [hd.length]; exact Nat.le_trans hl (by decide), fun p hp => f _ _ Γ1 (paint ω1 p 0) _ hk (S1.new 0 hp) ?_ (f1.trans (paint_fr hp))⟩
  exact DR.tup paint_at (hd.mono (paint_same hp 0))
theorem we_lst (h : WA tr Γ fun as Γ1 => ∃ ds, ArgD as ds ∧ ds.length ≤ 100000 ∧ k (own ds) Γ1) : WE (tLst tr) Γ k := fun ω σ H S Q f => h ω σ H S _ fun vs as Γ1 ω1 H1 ⟨ds, e, hl, hk⟩ S1 a f1 => by
  have hd := e.drs a
  exact ⟨by rw [hd.length]; exact Nat.le_trans hl (by decide), fun p hp => f _ _ Γ1 (paint ω1 p 2) _ hk (S1.new 2 hp) ⟨p, vs, rfl, paint_at, hd.mono (paint_same hp 0)⟩ (f1.trans (paint_fr hp))⟩

/-! ### operations -/
def rOr (r r' : R2) : R2 := fun x y H Q => r x y H Q ∨ r' x y H Q
theorem op_or {X : Cx} {f : Value → Value → Sem Value} (h : OpR X f r) (h' : OpR X f r') : OpR X f (rOr r r') := fun pins s σ H x y v u Q I rx ry q => by
  rcases q with q | q
  · exact h pins s σ H x y v u Q I rx ry q
  · exact h' pins s σ H x y v u Q I rx ry q
/-- what r does upon two data -/
def OpD (r : R2) (d e : PyData) (q : Per) : Prop := ∀ (A H : Hp) (v w : V), Same A H → DR A v d → DR A w e → ∀ Q : VK, (∀ z, q.q A z → Q z H) → r v w H Q
theorem OpD.lft {d e : PyData} {q : Per} (h : OpD r d e q) : OpD (rOr r r') d e q := fun A H v w s a b Q c => .inl (h A H v w s a b Q c)
theorem od_I {C : Int → Int → Prop} {gi : Int → Int → Int} {i j : Int} (c : C i j) : OpD (rI C fun i j => .int (gi i j)) (.int i) (.int j) (dP (.int (gi i j))) := fun A H v w _ hv hw Q g => by
  cases hv.int_inv
  cases hw.int_inv
  exact ⟨i, j, rfl, rfl, c, g _ (DR.int _)⟩
theorem od_I0 {gi : Int → Int → Int} {i j : Int} : OpD (rI0 fun i j => .int (gi i j)) (.int i) (.int j) (dP (.int (gi i j))) := fun A H v w _ hv hw Q g => by
  cases hv.int_inv
  cases hw.int_inv
  exact ⟨i, j, rfl, rfl, g _ (DR.int _)⟩
theorem od_B0 {gi : Int → Int → Bool} {i j : Int} : OpD (rI0 fun i j => .bl (gi i j)) (.int i) (.int j) (dP (.bool (gi i j))) := fun A H v w _ hv hw Q g => by
  cases hv.int_inv
  cases hw.int_inv
  exact ⟨i, j, rfl, rfl, g _ (DR.bl _)⟩
theorem Dp.same {H H' : Hp} {v : V} {d : PyData} (z : SeqAt.shaped d = true) (s : Same H H') (h : DR H v d) : Dp K H' v d := DR.dp d (SeqAt.canLay_of_shaped z) (h.mono s)
theorem od_eq {d e : PyData} (hd : SeqAt.shaped d = true) (he : SeqAt.shaped e = true) : OpD (rEqD K) d e (dP (.bool (PyData.eqv d e))) := fun A H v w s a b Q g => ⟨d, e, Dp.same hd s a, Dp.same he s b, hd, he, g _ (DR.bl _)⟩
theorem od_ne {d e : PyData} (hd : SeqAt.shaped d = true) (he : SeqAt.shaped e = true) : OpD (rNeD K) d e (dP (.bool (!PyData.eqv d e))) := fun A H v w s a b Q g => ⟨d, e, Dp.same hd s a, Dp.same he s b, hd, he, g _ (DR.bl _)⟩
theorem od_in {d : PyData} {ds : List PyData} (hd : SeqAt.shaped d = true) (he : SeqAt.shaped (.list ds) = true) : OpD (rInD K) d (.list ds) (dP (.bool (ds.any fun z => PyData.eqv z d))) := fun A H v w s a b Q g =>
  ⟨d, ds, Dp.same hd s a, Dp.same he s b, hd, he, g _ (DR.bl _)⟩
theorem od_notIn {d : PyData} {ds : List PyData} (hd : SeqAt.shaped d = true) (he : SeqAt.shaped (.list ds) = true) : OpD (rNotInD K) d (.list ds) (dP (.bool (!ds.any fun z => PyData.eqv z d))) := fun A H v w s a b Q g =>
  ⟨d, ds, Dp.same hd s a, Dp.same he s b, hd, he, g _ (DR.bl _)⟩
theorem od_ixL {ds : List PyData} {i : Int} {d : PyData} (h : atI ds i = some d) : OpD (rIx K) (.list ds) (.int i) (dP d) := fun A H v w s a b Q g => by
  obtain ⟨x, xs, rfl, hx, hd⟩ := a.lst_inv
  cases b.int_inv
  obtain ⟨z, hz, dz⟩ : ∃ z, atI xs i = some z ∧ DR A z d := by
    unfold atI at h ⊢
    rw [← hd.length] at h
    cases e : ixN xs.length i with
    | none => rw [e] at h; cases h
    | some j =>
      rw [e] at h
      obtain ⟨z, hz, dz⟩ := hd.at (i := j) h
      exact ⟨z, hz, dz⟩
  exact .inl ⟨x, xs, i, z, rfl, rfl, SqL.of (s _ _ hx), hz, g _ dz⟩
theorem at_nat {α : Type} {xs : List α} {i : Int} {d : α} (j : Nat) (e : i = j) (h : xs[j]? = some d) : atI xs i = some d := by
  rw [e]
  exact atI_nat h
/-- a slot's own list read by its place -/
theorem we_ixS {i : Nat} {ds : List PyData} (h : Γ[i]? = some (some (own ds))) (hb : WQ tb Γ fun q Γ1 => ∃ j d, q = dP (.int j) ∧ Γ1[i]? = some (some (own ds)) ∧ atI ds j = some d ∧ k (dat d) Γ1) : WE (tOp (rIx K) (tVar i) tb) Γ k := fun ω σ H S Q f => by
  obtain ⟨v, e, p⟩ := S.2 i _ h
  refine ⟨v, e, hb ω σ H S _ fun w q Γ1 ω1 H1 ⟨j, d, eq, hi, ha, hk⟩ S1 pq f1 => ?_⟩
  subst eq
  cases DR.int_inv pq
  obtain ⟨v', e', p'⟩ := S1.2 i _ hi
  rw [e] at e'
  cases e'
  obtain ⟨a, vs, rfl, hr, hd⟩ := p'
  obtain ⟨z, hz, dz⟩ : ∃ z, atI vs j = some z ∧ DR (vw ω1 H1 0) z d := by
    unfold atI at ha ⊢
    rw [← hd.length] at ha
    cases e : ixN vs.length j with
    | none => rw [e] at ha; cases ha
    | some j =>
      rw [e] at ha
      obtain ⟨z, hz, dz⟩ := hd.at (i := j) ha
      exact ⟨z, hz, dz⟩
  exact .inl ⟨a, vs, j, z, rfl, rfl, SqL.of (vw_H hr), hz, f _ _ Γ1 ω1 H1 hk S1 dz f1⟩
/-! ### calls of built-ins upon data -/
def CbD (r : List V → Hp → VK → Prop) (ds : List PyData) (q : Per) : Prop := ∀ (A H : Hp) (vs : List V), Same A H → DRs A vs ds → ∀ Q : VK, (∀ z, q.q A z → Q z H) → r vs H Q
/-- .. that gives a new list -/
def CbL (r : List V → Hp → VK → Prop) (ds : List PyData) (P : List PyData → Prop) : Prop := ∀ (A H : Hp) (vs : List V), Same A H → DRs A vs ds → ∀ Q : VK, (∀ es xs p, P es → DRs A xs es → H p = none → Q (.ref p) (upd H p (.lst xs))) → r vs H Q
/-- len of a slot's own list -/
theorem we_lenS {i : Nat} {ds : List PyData} (h : Γ[i]? = some (some (own ds))) (hk : k (dat (.int ds.length)) Γ) : WE (tCB (fun xs H Q => ∃ x n, xs = [x] ∧ LenV K x H n ∧ Q (.int n) H) (tCons (tVar i) tNil)) Γ k := fun ω σ H S Q f => by
  obtain ⟨v, e, p⟩ := S.2 i _ h
  obtain ⟨a, vs, rfl, hr, hd⟩ := id p
  exact ⟨_, e, _, vs.length, rfl, .inl ⟨vs, SqL.of (vw_H hr), rfl⟩, by rw [hd.length]; exact f _ _ Γ ω H hk S (DR.int _) Fr.refl⟩
end
end G

namespace G
open PySem L2

/-! ### statements -/
structure Pe where
  nx : Ga → Prop
  rt : Gp → Ga → Prop
  bk : Ga → Prop
  ct : Ga → Prop
/-- what follows another statement; what a loop's body is to reach -/
abbrev Pe.to (D : Pe) (n : Ga → Prop) : Pe := ⟨n, D.rt, D.bk, D.ct⟩
abbrev Pe.lp (D : Pe) (n : Ga → Prop) : Pe := ⟨n, D.rt, D.nx, n⟩
def Pin (P : Nat → Bool) (σ σ' : L2.St) : Prop := σ'.length = σ.length ∧ ∀ i, P i = true → σ'[i]? = σ[i]?
theorem Pin.refl {P : Nat → Bool} {σ : L2.St} : Pin P σ σ := ⟨rfl, fun _ _ => rfl⟩
theorem Pin.trans {P : Nat → Bool} {σ σ1 σ2 : L2.St} (a : Pin P σ σ1) (b : Pin P σ1 σ2) : Pin P σ σ2 := ⟨b.1.trans a.1, fun i h => (b.2 i h).trans (a.2 i h)⟩
structure Met (P : Nat → Bool) (D : Pe) (ω : Col) (σ : L2.St) (H : Hp) (E : Ends) : Prop where
  nx : ∀ Γ' ω' σ' H', D.nx Γ' → Sta Γ' ω' σ' H' → Fr ω ω' H H' → Pin P σ σ' → E.nx σ' H'
  rt : ∀ v g Γ' ω' σ' H', D.rt g Γ' → Sta Γ' ω' σ' H' → Gp.p g (vw ω' H' 0) v (vw ω' H' 2) → Fr ω ω' H H' → Pin P σ σ' → E.rt v H'
  bk : ∀ Γ' ω' σ' H', D.bk Γ' → Sta Γ' ω' σ' H' → Fr ω ω' H H' → Pin P σ σ' → E.bk σ' H'
  ct : ∀ Γ' ω' σ' H', D.ct Γ' → Sta Γ' ω' σ' H' → Fr ω ω' H H' → Pin P σ σ' → E.ct σ' H'
theorem Met.after {P : Nat → Bool} {D : Pe} {ω ω1 : Col} {σ σ1 : L2.St} {H H1 : Hp} {E : Ends} (m : Met P D ω σ H E) (f : Fr ω ω1 H H1) (p : Pin P σ σ1) : Met P D ω1 σ1 H1 E :=
  ⟨fun Γ' ω' σ' H' h S g q => m.nx Γ' ω' σ' H' h S (f.trans g) (p.trans q), fun v g Γ' ω' σ' H' h S x y q => m.rt v g Γ' ω' σ' H' h S x (f.trans y) (p.trans q),
   fun Γ' ω' σ' H' h S g q => m.bk Γ' ω' σ' H' h S (f.trans g) (p.trans q), fun Γ' ω' σ' H' h S g q => m.ct Γ' ω' σ' H' h S (f.trans g) (p.trans q)⟩
def WS (P : Nat → Bool) (t : TS) (Γ : Ga) (D : Pe) : Prop := ∀ ω σ H, Sta Γ ω σ H → ∀ E : Ends, Met P D ω σ H E → t E σ H
def WG (P : Nat → Bool) (g : TG) (q : Per) (Γ : Ga) (k : Ga → Prop) : Prop := ∀ ω σ H v, Sta Γ ω σ H → q.q (vw ω H 0) v → ∀ R : L2.St → Hp → Prop,
  (∀ Γ' ω' σ' H', k Γ' → Sta Γ' ω' σ' H' → Fr ω ω' H H' → Pin P σ σ' → R σ' H') → g v σ H R
section
variable {K : PySem.W.Frag} {P : Nat → Bool} {Γ : Ga} {D : Pe} {k : Gp → Ga → Prop} {kt : Bool → Ga → Prop} {kg : Ga → Prop} {te tl : TE} {c : TT} {t u tb : TS} {ta : TA} {g : TG}
theorem ws_seq (h : WS P t Γ (D.to fun Γ' => WS P u Γ' D)) : WS P (tSeq t u) Γ D := fun ω σ H S E m =>
  h ω σ H S { E with nx := u E } ⟨fun Γ' ω' σ' H' hk S' f p => (show WS P u Γ' D from hk) ω' σ' H' S' E (m.after f p), m.rt, m.bk, m.ct⟩
theorem ws_next (h : D.nx Γ) : WS P tNext Γ D := fun ω σ H S E m => m.nx Γ ω σ H h S Fr.refl Pin.refl
theorem pin_set {σ : L2.St} {i : Nat} {x : Option V} (h : P i = false) : Pin P σ (σ.set i x) := ⟨by rw [List.length_set], fun j hj => by
  rw [set_eq, if_neg]
  intro e
  subst e
  rw [h] at hj
  cases hj⟩
theorem ws_asg {i : Nat} (hp : P i = false) (h : WE te Γ fun g Γ' => D.nx (Γ'.set i (some g))) : WS P (tAsg te (gName i)) Γ D := fun ω σ H S E m => h ω σ H S _ fun v g Γ' ω' H' hk S' p f =>
  m.nx _ _ _ H' hk (S'.asg p) (f.trans give_fr) (pin_set hp)
theorem ws_asgG (h : WQ te Γ fun q Γ' => WG P g q Γ' D.nx) : WS P (tAsg te g) Γ D := fun ω σ H S E m => h ω σ H S _ fun v q Γ' ω' H' hk S' p f =>
  hk ω' σ H' v S' p _ fun Γ2 ω2 σ2 H2 h2 S2 f2 p2 => m.nx Γ2 ω2 σ2 H2 h2 S2 (f.trans f2) p2
theorem Sta.setq {ω : Col} {σ : L2.St} {H : Hp} (S : Sta Γ ω σ H) {i : Nat} {v : V} {q : Per} (p : q.q (vw ω H 0) v) : Sta (Γ.set i (some (per q))) ω (σ.set i (some v)) H := by
  refine ⟨by rw [List.length_set, List.length_set]; exact S.1, fun j g' hj => ?_⟩
  rw [set_eq] at hj
  by_cases hij : i = j
  · rw [if_pos hij] at hj
    split at hj
    next hl =>
      cases hj
      subst hij
      exact ⟨v, by rw [set_eq, if_pos rfl, if_pos (by rw [S.1]; exact hl)], p⟩
    · cases hj
  · rw [if_neg hij] at hj
    obtain ⟨w, e', p'⟩ := S.2 j _ hj
    exact ⟨w, by rw [set_eq, if_neg hij]; exact e', p'⟩
theorem wg_name {i : Nat} {q : Per} (hp : P i = false) (h : kg (Γ.set i (some (per q)))) : WG P (gName i) q Γ kg := fun ω σ H v S p R f => f _ ω _ H h (S.setq p) Fr.refl (pin_set hp)
def WGs (P : Nat → Bool) (g : TGs) (ds : List PyData) (Γ : Ga) (k : Ga → Prop) : Prop := ∀ ω σ H vs, Sta Γ ω σ H → DRs (vw ω H 0) vs ds → ∀ R : L2.St → Hp → Prop,
  (∀ Γ' ω' σ' H', k Γ' → Sta Γ' ω' σ' H' → Fr ω ω' H H' → Pin P σ σ' → R σ' H') → g vs σ H R
theorem wgs_nil (h : kg Γ) : WGs P gNil [] Γ kg := fun ω σ H vs S p R f => by
  cases p
  exact ⟨rfl, f Γ ω σ H h S Fr.refl Pin.refl⟩
theorem wgs_cons {gs : TGs} {d : PyData} {ds : List PyData} (h : WG P g (dP d) Γ fun Γ1 => WGs P gs ds Γ1 kg) : WGs P (gCons g gs) (d :: ds) Γ kg := fun ω σ H vs S p R f => by
  cases p with | cons a b =>
  exact ⟨_, _, rfl, h ω σ H _ S a _ fun Γ1 ω1 σ1 H1 h1 S1 f1 p1 => h1 ω1 σ1 H1 _ S1 (b.mono f1.1) R fun Γ2 ω2 σ2 H2 h2 S2 f2 p2 => f Γ2 ω2 σ2 H2 h2 S2 (f1.trans f2) (p1.trans p2)⟩
theorem wg_tup {gs : TGs} {n : Nat} {ds : List PyData} (hn : ds.length = n) (h : WGs P gs ds Γ kg) : WG P (gTup K n gs) (dP (.tuple ds)) Γ kg := fun ω σ H v S p R f => by
  obtain ⟨a, xs, rfl, ha, hd⟩ := DR.tup_inv p
  exact ⟨a, xs, rfl, SqT.of (vw_H ha), by rw [hd.length]; exact hn, h ω σ H xs S hd R f⟩
/-- xs[i] = e, xs a slot's own -/
theorem wg_set {i : Nat} {ds : List PyData} {ti : TE} {d : PyData} (hi : Γ[i]? = some (some (own ds))) (h : WQ ti Γ fun q Γ1 => ∃ j m ds', q = dP (.int j) ∧ Γ1[i]? = some (some (own ds')) ∧ ixN ds'.length j = some m ∧ kg (Γ1.set i (some (own (ds'.set m d))))) :
    WG P (gSub (tVar i) ti rSetL) (dP d) Γ kg := fun ω σ H v S p R f => by
  obtain ⟨x, e, p0⟩ := S.2 i _ hi
  refine ⟨x, e, h ω σ H S _ fun w q Γ1 ω1 H1 ⟨j, m, ds', eq, hi1, hj, hk⟩ S1 pq f1 => ?_⟩
  subst eq
  cases DR.int_inv pq
  obtain ⟨x', e', p1⟩ := S1.2 i _ hi1
  rw [e] at e'
  cases e'
  obtain ⟨a, vs, rfl, hr, hd⟩ := p1
  have ca := vw_c hr
  refine ⟨a, vs, j, m, rfl, rfl, vw_H hr, by rw [hd.length]; exact hj, ?_⟩
  have m0 : Same (vw ω1 H1 0) (vw ω1 (upd H1 a (.lst (vs.set m v))) 0) := mut_same (by rw [ca]; omega)
  refine f _ ω1 σ _ hk (S1.set m0 (fun j' g' hne _ => mut_same (by rw [ca]; omega)) e ⟨a, _, rfl, vw_mk ca upd_same, ?_⟩) (f1.trans ⟨m0, mut_same (by rw [ca]; omega)⟩) Pin.refl
  exact (hd.mono m0).set m ((DR.mono f1.1 d p).mono m0)
theorem ws_drop (h : WE te Γ fun _ Γ' => D.nx Γ') : WS P (tDrop te) Γ D := fun ω σ H S E m => h ω σ H S _ fun v g Γ' ω' H' hk S' p f => m.nx Γ' ω' σ H' hk S' f Pin.refl
theorem ws_ret (h : WE te Γ fun g Γ' => D.rt g Γ') : WS P (tRet te) Γ D := fun ω σ H S E m => h ω σ H S _ fun v g Γ' ω' H' hk S' p f => m.rt v g Γ' ω' σ H' hk S' p f Pin.refl
theorem ws_retN (h : D.rt (dat .none) Γ) : WS P tRetN Γ D := fun ω σ H S E m => m.rt .non _ Γ ω σ H h S DR.non Fr.refl Pin.refl
theorem ws_if (h : WT c Γ fun b Γ' => if b = true then WS P t Γ' D else WS P u Γ' D) : WS P (tIfS c t u) Γ D := fun ω σ H S E m => h ω σ H S _ fun b Γ' ω' H' hk S' f => by
  cases b with
  | true => exact iteT ((show WS P t Γ' D from hk) ω' σ H' S' E (m.after f Pin.refl))
  | false => exact iteF ((show WS P u Γ' D from hk) ω' σ H' S' E (m.after f Pin.refl))
/-! ### loops -/
def Walks (J : It) (A : Hp) (n : Nat) (it : Nat → Per) : Prop := ∀ i H', Same A H' →
  (i < n → J.go i H' ∧ ∀ x H'', J.yld i H' x H'' → (H'' = H' ∧ (it i).q A x) ∨ ∃ T vs ds, H' T = none ∧ H'' = upd H' T (.tup vs) ∧ x = .ref T ∧ it i = dP (.tuple ds) ∧ DRs A vs ds) ∧ (n ≤ i → J.stop i H')
def WI (wi : TI) (Γ : Ga) (k : Nat → (Nat → Per) → Ga → Prop) : Prop := ∀ ω σ H, Sta Γ ω σ H → ∀ R : It → Hp → Prop,
  (∀ J n it Γ' ω' H', k n it Γ' → Sta Γ' ω' σ H' → Walks J (vw ω' H' 0) n it → Fr ω ω' H H' → R J H') → wi σ H R
/-- an item has come: it stands still -/
theorem yld_ok {J : It} {A : Hp} {n i : Nat} {it : Nat → Per} (W : Walks J A n it) {ω ω0 : Col} {σ : L2.St} {H0 H H'' : Hp} {x : V} (hA : A = vw ω0 H0 0) (f : Fr ω0 ω H0 H) (S : Sta Γ ω σ H) (hi : i < n) (y : J.yld i H x H'') :
    ∃ ω', Sta Γ ω' σ H'' ∧ Fr ω ω' H H'' ∧ (it i).q (vw ω' H'' 0) x := by
  have sA : Same A H := fun a o e => vw_H (f.1 a o (by rw [← hA]; exact e))
  rcases ((W i H sA).1 hi).2 x H'' y with ⟨e, q⟩ | ⟨T, vs, ds, hT, e, ex, ei, hd⟩
  · subst e
    exact ⟨ω, S, Fr.refl, (it i).mono f.1 (by rw [← hA]; exact q)⟩
  · subst e ex
    refine ⟨paint ω T 0, S.new 0 hT, paint_fr hT, ?_⟩
    rw [ei]
    refine DR.tup paint_at ?_
    rw [hA] at hd
    exact (hd.mono f.1).mono (paint_same hT 0)
theorem ws_for {wi : TI} (Pv : Nat → Ga → Prop) (h : WI wi Γ fun n it Γ1 => Pv 0 Γ1 ∧ (∀ Γ2, Pv n Γ2 → D.nx Γ2) ∧ ∀ i Γ2, i < n → Pv i Γ2 →
    WG P g (it i) Γ2 fun Γ3 => WS P tb Γ3 (D.lp (Pv (i + 1)))) : WS P (tFor wi g tb) Γ D := fun ω σ H S E m => h ω σ H S _ fun J n it Γ1 ω1 H1 ⟨h0, hd, hs⟩ S1 W f1 => by
  refine ⟨fun i μ σ' H' => μ = n - i ∧ i ≤ n ∧ ∃ Γ2 ω2, Pv i Γ2 ∧ Sta Γ2 ω2 σ' H' ∧ Fr ω1 ω2 H1 H' ∧ Pin P σ σ', ⟨n, by simp, Nat.zero_le _, Γ1, ω1, h0, S1, Fr.refl, Pin.refl⟩, ?_⟩
  rintro i μ σ' H' ⟨rfl, hi, Γ2, ω2, p2, S2, f2, q2⟩
  have sA : Same (vw ω1 H1 0) H' := fun a o e => vw_H (f2.1 a o e)
  by_cases hlt : i < n
  · refine .inr ⟨((W i H' sA).1 hlt).1, fun σ'' H'' => ∃ Γ2 ω2, Pv (i + 1) Γ2 ∧ Sta Γ2 ω2 σ'' H'' ∧ Fr ω1 ω2 H1 H'' ∧ Pin P σ σ'', fun σ'' H'' z => ⟨n - (i + 1), by omega, rfl, hlt, z⟩, fun x H'' y => ?_⟩
    obtain ⟨ω3, S3, f3, q3⟩ := yld_ok W rfl f2 S2 hlt y
    refine hs i Γ2 hlt p2 ω3 σ' H'' x S3 q3 _ fun Γ4 ω4 σ4 H4 h4 S4 f4 q4 => ?_
    have f14 : Fr ω1 ω4 H1 H4 := (f2.trans f3).trans f4
    refine h4 ω4 σ4 H4 S4 _ ⟨fun Γ' ω' σ5 H5 hk S5 f5 q5 => ⟨Γ', ω', hk, S5, f14.trans f5, (q2.trans q4).trans q5⟩,
      fun v gg Γ' ω' σ5 H5 hk S5 p5 f5 q5 => m.rt v gg Γ' ω' σ5 H5 hk S5 p5 (f1.trans (f14.trans f5)) ((q2.trans q4).trans q5),
      fun Γ' ω' σ5 H5 hk S5 f5 q5 => m.nx Γ' ω' σ5 H5 hk S5 (f1.trans (f14.trans f5)) ((q2.trans q4).trans q5),
      fun Γ' ω' σ5 H5 hk S5 f5 q5 => ⟨Γ', ω', hk, S5, f14.trans f5, (q2.trans q4).trans q5⟩⟩
  · have e : i = n := by omega
    subst e
    exact .inl ⟨(W i H' sA).2 (Nat.le_refl _), m.nx Γ2 ω2 σ' H' (hd Γ2 p2) S2 (f1.trans f2) q2⟩
/-! ### what is walked -/
theorem wi_list {ki : Nat → (Nat → Per) → Ga → Prop} (h : WQ tl Γ fun q Γ1 => ∃ ds, q = dP (.list ds) ∧ ki ds.length (fun i => dP (ds.getD i .none)) Γ1) : WI (iList K tl) Γ ki := fun ω σ H S R f => h ω σ H S _ fun v q Γ1 ω1 H1 ⟨ds, e, hk⟩ S1 p f1 => by
  subst e
  obtain ⟨a, xs, rfl, ha, hd⟩ := DR.lst_inv p
  refine ⟨a, rfl, ⟨xs, SqL.of (vw_H ha)⟩, f (Itl K a) ds.length _ Γ1 ω1 H1 hk S1 (fun i H' s => ?_) f1⟩
  have hq : H' a = some (.lst xs) := s _ _ ha
  refine ⟨fun hi => ?_, fun hi => ⟨xs, SqL.of hq, by rw [hd.length]; exact hi⟩⟩
  have hix : i < xs.length := by rw [hd.length]; exact hi
  refine ⟨⟨xs, xs[i], SqL.of hq, by simp [hix]⟩, fun x H'' y => .inl ?_⟩
  obtain ⟨e, y⟩ := y
  refine ⟨e, ?_⟩
  have hx := y xs (SqL.of hq)
  obtain ⟨d, h1, h2⟩ := hd.get hx
  show DR _ x (ds.getD i .none)
  rw [List.getD_eq_getElem?_getD, h1]
  exact h2
theorem walks_r {lo : Int} {n : Nat} {A : Hp} : Walks (Itr lo n) A n fun i => dP (.int (lo + i)) := fun i H' s =>
  ⟨fun hi => ⟨hi, fun x H'' y => .inl ⟨y.1, by rw [y.2]; exact DR.int _⟩⟩, fun hi => hi⟩
theorem wi_range1 {ki : Nat → (Nat → Per) → Ga → Prop} (h : WA ta Γ fun as Γ1 => ∃ j : Int, as = [.q (dP (.int j))] ∧ -(2 ^ 62) ≤ j ∧ j < 2 ^ 62 ∧ ki j.toNat (fun i => dP (.int (0 + i))) Γ1) : WI (iRng1 ta) Γ ki := fun ω σ H S R f => h ω σ H S _ fun vs as Γ1 ω1 H1 ⟨j, e, l, u, hk⟩ S1 a f1 => by
  subst e
  cases a with | cons x y =>
  cases y
  cases DR.int_inv x
  exact ⟨j, rfl, l, u, f _ _ _ Γ1 ω1 H1 hk S1 walks_r f1⟩
end
end G

namespace G
open PySem L2

/-! ### comprehensions -/
def wipeG (Γ : Ga) : List Nat → Ga
  | [] => Γ
  | v :: vs => (wipeG Γ vs).set v none
theorem wipe_get {σ : L2.St} : ∀ {vs : List Nat} {i : Nat}, (wipe σ vs)[i]? = if i ∈ vs then (if i < σ.length then some none else none) else σ[i]?
  | [], i => by simp [wipe]
  | v :: vs, i => by
    unfold wipe
    rw [set_eq, wipe_length]
    by_cases h : v = i
    · subst h; simp
    · rw [if_neg h, wipe_get]
      have : (i ∈ v :: vs) ↔ i ∈ vs := by simp [Ne.symm h]
      simp only [this]
theorem wipeG_length {Γ : Ga} : ∀ vs : List Nat, (wipeG Γ vs).length = Γ.length
  | [] => rfl
  | v :: vs => by unfold wipeG; rw [List.length_set, wipeG_length vs]
theorem wipeG_get {Γ : Ga} : ∀ {vs : List Nat} {i : Nat} {g : Gp}, (wipeG Γ vs)[i]? = some (some g) → i ∉ vs ∧ Γ[i]? = some (some g)
  | [], i, g, h => ⟨by simp, h⟩
  | v :: vs, i, g, h => by
    unfold wipeG at h
    rw [set_eq] at h
    by_cases e : v = i
    · rw [if_pos e] at h
      split at h <;> cases h
    · rw [if_neg e] at h
      obtain ⟨h1, h2⟩ := wipeG_get h
      exact ⟨by simp [Ne.symm e, h1], h2⟩
theorem Sta.wipe {Γ : Ga} {ω : Col} {σ : L2.St} {H : Hp} (S : Sta Γ ω σ H) (vs : List Nat) : Sta (wipeG Γ vs) ω (L2.wipe σ vs) H := by
  refine ⟨by rw [wipe_length, wipeG_length]; exact S.1, fun i g h => ?_⟩
  obtain ⟨h1, h2⟩ := wipeG_get h
  obtain ⟨v, e, p⟩ := S.2 i g h2
  exact ⟨v, by rw [wipe_get, if_neg h1]; exact e, p⟩
/-- back at the whole frame: only the block's own names may be other -/
theorem Sta.unwipe {Γ : Ga} {ω : Col} {σ σ2 : L2.St} {H : Hp} {vs : List Nat} (S : Sta Γ ω σ2 H) (p : Pin (fun i => !vs.contains i) (L2.wipe σ vs) σ2) : Sta (wipeG Γ vs) ω σ H ∧ L2.wipe σ2 vs = L2.wipe σ vs := by
  have hl : σ2.length = σ.length := by rw [p.1, wipe_length]
  refine ⟨⟨by rw [wipeG_length, ← S.1]; exact hl.symm, fun i g h => ?_⟩, ?_⟩
  · obtain ⟨h1, h2⟩ := wipeG_get h
    obtain ⟨v, e, q⟩ := S.2 i g h2
    refine ⟨v, ?_, q⟩
    rw [← e, p.2 i (by simp [h1]), wipe_get, if_neg h1]
  · apply List.ext_getElem?
    intro i
    rw [wipe_get, wipe_get, hl]
    by_cases h1 : i ∈ vs
    · simp only [h1, if_true]
    · simp only [h1, if_false]
      rw [p.2 i (by simp [h1]), wipe_get, if_neg h1]
section
variable {K : PySem.W.Frag} {P : Nat → Bool} {Γ : Ga} {D : Pe} {k : Gp → Ga → Prop} {kt : Bool → Ga → Prop} {kg : Ga → Prop} {te tl : TE} {tt : TT} {t u tb : TS} {ta : TA} {g : TG}
theorem wt_yes (h : kt true Γ) : WT tYes Γ kt := fun ω σ H S Q f => f true Γ ω H h S Fr.refl
/-- a new list by a comprehension; Pv: turn, what is made, slots -/
theorem we_lc {wi : TI} {vs : List Nat} (Pv : Nat → List PyData → Ga → Prop) (h : WI wi Γ fun n it Γ1 => Pv 0 [] Γ1 ∧ (∀ acc Γ2, Pv n acc Γ2 → k (own acc) Γ2) ∧ ∀ i acc Γ2, i < n → Pv i acc Γ2 → Γ2.length = Γ.length →
    WG (fun i => !vs.contains i) g (it i) (wipeG Γ2 vs) fun Γ3 => WT tt Γ3 fun b Γ4 => if b = true then WQ te Γ4 fun q Γ5 => ∃ d, q = dP d ∧ acc.length < 100000 ∧ Pv (i + 1) (acc ++ [d]) (wipeG Γ5 vs) else Pv (i + 1) acc (wipeG Γ4 vs)) :
    WE (tLc wi g tt te vs) Γ k := fun ω σ H S Q f => h ω σ H S _ fun J n it Γ1 ω1 H1 ⟨h0, hd, hs⟩ S1 W f1 => by
  intro L hL
  have hlen : ∀ {Γ2 : Ga} {ω2 : Col} {σ2 : L2.St} {H2 : Hp}, Sta Γ2 ω2 σ2 H2 → σ2.length = σ.length → Γ2.length = Γ.length := fun {Γ2 ω2 σ2 H2} S2 e => by rw [← S2.1, e, S.1]
  refine ⟨fun i μ H' => μ = n - i ∧ i ≤ n ∧ ∃ acc xs Γ2 ω2, Pv i acc Γ2 ∧ Sta Γ2 ω2 σ H' ∧ Fr ω1 ω2 H1 H' ∧ ω2 L = 1 ∧ H' L = some (.lst xs) ∧ DRs (vw ω2 H' 0) xs acc,
    ⟨n, by simp, Nat.zero_le _, [], [], Γ1, paint ω1 L 1, h0, S1.new 1 hL, paint_fr hL, by unfold paint; rw [if_pos rfl], upd_same, .nil⟩, ?_⟩
  rintro i μ H' ⟨rfl, hi, acc, xs, Γ2, ω2, p2, S2, f2, c2, e2, d2⟩
  have sA : Same (vw ω1 H1 0) H' := fun a o e => vw_H (f2.1 a o e)
  by_cases hlt : i < n
  · refine .inr ⟨((W i H' sA).1 hlt).1, fun H'' => ∃ acc xs Γ2 ω2, Pv (i + 1) acc Γ2 ∧ Sta Γ2 ω2 σ H'' ∧ Fr ω1 ω2 H1 H'' ∧ ω2 L = 1 ∧ H'' L = some (.lst xs) ∧ DRs (vw ω2 H'' 0) xs acc, fun H'' z => ⟨n - (i + 1), by omega, rfl, hlt, z⟩, fun x H'' y => ?_⟩
    obtain ⟨ω3, S3, f3, q3⟩ := yld_ok W rfl f2 S2 hlt y
    refine hs i acc Γ2 hlt p2 (hlen S2 rfl) ω3 _ H'' x (S3.wipe vs) q3 _ fun Γ4 ω4 σ4 H4 h4 S4 f4 q4 => ?_
    obtain ⟨S5, ew⟩ := S4.unwipe q4
    refine ⟨ew, h4 ω4 σ4 H4 S4 _ fun b Γ6 ω6 H6 hk S6 f6 => ?_⟩
    have f16 : Fr ω1 ω6 H1 H6 := ((f2.trans f3).trans f4).trans f6
    have f26 : Fr ω2 ω6 H' H6 := (f3.trans f4).trans f6
    have keep : ∀ {ω7 : Col} {H7 : Hp}, Fr ω2 ω7 H' H7 → ω7 L = 1 ∧ H7 L = some (.lst xs) ∧ DRs (vw ω7 H7 0) xs acc := fun {ω7 H7} f7 => by
      have z := f7.2 L _ (vw_mk c2 e2)
      exact ⟨vw_c z, vw_H z, d2.mono f7.1⟩
    cases b with
    | false =>
      refine iteF ?_
      obtain ⟨k1, k2, k3⟩ := keep f26
      exact ⟨acc, xs, _, ω6, hk, (S6.unwipe q4).1, f16, k1, k2, k3⟩
    | true =>
      refine iteT ((show WQ te Γ6 _ from hk) ω6 σ4 H6 S6 _ fun w q Γ7 ω7 H7 ⟨d, eq, hl, h7⟩ S7 p7 f7 => ?_)
      subst eq
      obtain ⟨k1, k2, k3⟩ := keep (f26.trans f7)
      have m0 : Same (vw ω7 H7 0) (vw ω7 (upd H7 L (.lst (xs ++ [w]))) 0) := mut_same (by rw [k1]; decide)
      refine ⟨xs, k2, by rw [k3.length]; exact Nat.lt_of_lt_of_le hl (by decide), acc ++ [d], xs ++ [w], _, ω7, h7, ?_, ?_, k1, upd_same, (k3.mono m0).snoc (DR.mono m0 d p7)⟩
      · exact ((S7.unwipe q4).1).move m0 fun i g _ => mut_same (by rw [k1]; omega)
      · exact ⟨(f16.trans f7).1.trans m0, fun a o h => by
          have z := (f16.trans f7).2 a o h
          exact vw_mk (vw_c z) (by rw [upd_ne (ne_of_none (vw_H h) hL)]; exact vw_H z)⟩
  · have e : i = n := by omega
    subst e
    refine .inl ⟨(W i H' sA).2 (Nat.le_refl _), ?_⟩
    have pn : ∀ c, c ≠ 1 → Same (vw ω2 H' c) (vw (paint ω2 L 2) H' c) := fun c hc a o h => by
      refine vw_mk ?_ (vw_H h)
      unfold paint
      rw [if_neg]
      · exact vw_c h
      · intro e
        rw [e] at h
        exact hc ((vw_c h).symm.trans c2)
    refine f (.ref L) (own acc) Γ2 (paint ω2 L 2) H' (hd acc Γ2 p2) (S2.move (pn 0 (by decide)) fun i _ _ => pn _ (by omega)) ⟨L, xs, rfl, vw_mk (by unfold paint; rw [if_pos rfl]) e2, d2.mono (pn 0 (by decide))⟩ (f1.trans ⟨f2.1.trans (pn 0 (by decide)), fun a o h => ?_⟩)
    have z := f2.2 a o h
    refine vw_mk ?_ (vw_H z)
    unfold paint
    rw [if_neg (ne_of_none (vw_H h) hL)]
    exact vw_c z

/-! ### methods of a slot's own list -/
def MtO (r : V → List V → Hp → VK → Prop) (ds : List PyData) (es : List PyData) (ds' : List PyData) (res : PyData) : Prop := ∀ (A H : Hp) (a : Addr) (vs xs : List V), Same A H → A a = none → H a = some (.lst vs) → DRs A vs ds → DRs A xs es →
  ∀ Q : VK, (∀ ws z, DRs A ws ds' → DR A z res → Q z (upd H a (.lst ws))) → r (.ref a) xs H Q
theorem we_mt {i : Nat} {r : V → List V → Hp → VK → Prop} {ds0 : List PyData} (h : Γ[i]? = some (some (own ds0))) (ha : WA ta Γ fun as Γ1 => ∃ ds es ds' res, Γ1[i]? = some (some (own ds)) ∧ ArgD as es ∧ MtO r ds es ds' res ∧ k (dat res) (Γ1.set i (some (own ds')))) :
    WE (tBM K "list" r (tVar i) ta) Γ k := fun ω σ H S Q f => by
  obtain ⟨v, e, p⟩ := S.2 i _ h
  obtain ⟨a, vs, rfl, hr, hd⟩ := id p
  refine ⟨_, e, .inl ⟨rfl, vs, SqL.of (vw_H hr)⟩, ha ω σ H S _ fun xs as Γ1 ω1 H1 ⟨ds, es, ds', res, hi, hes, hm, hk⟩ S1 ax f1 => ?_⟩
  obtain ⟨v', e', p'⟩ := S1.2 i _ hi
  rw [e] at e'
  cases e'
  obtain ⟨a', vs', ea, hr', hd'⟩ := p'
  cases ea
  have ca := vw_c hr'
  have an : vw ω1 H1 0 a = none := by
    unfold vw
    rw [if_neg (by rw [ca]; omega)]
  refine hm (vw ω1 H1 0) H1 a vs' xs (fun _ _ z => vw_H z) an (vw_H hr') hd' (hes.drs ax) Q fun ws z hws hz => ?_
  have m0 : Same (vw ω1 H1 0) (vw ω1 (upd H1 a (.lst ws)) 0) := mut_same (by rw [ca]; omega)
  exact f z _ _ ω1 _ hk (S1.set m0 (fun j' g' hne _ => mut_same (by rw [ca]; omega)) e ⟨a, ws, rfl, vw_mk ca upd_same, hws.mono m0⟩) (hz.mono m0) (f1.trans ⟨m0, mut_same (by rw [ca]; omega)⟩)
theorem mo_append {ds : List PyData} {d : PyData} (hl : ds.length < 100000) : MtO rAppend ds [d] (ds ++ [d]) .none := fun A H a vs xs s an ha hd he Q f => by
  cases he with | cons x y =>
  cases y
  exact ⟨a, vs, _, rfl, rfl, ha, by rw [hd.length]; exact Nat.lt_of_lt_of_le hl (by decide), f _ _ (hd.snoc x) DR.non⟩
theorem mo_popAt {ds : List PyData} {d : PyData} {i : Int} (j : Nat) (e : i = j) (hl : ds[j]? = some d) (hs : ds.length ≤ 100000) : MtO rPopAt ds [.int i] (ds.eraseIdx j) d := fun A H a vs xs s an ha hd he Q f => by
  cases he with | cons x y =>
  cases y
  cases x.int_inv
  obtain ⟨z, hz, dz⟩ := hd.at hl
  have hj := (List.getElem?_eq_some_iff.mp hl).1
  refine ⟨a, vs, i, j, z, rfl, rfl, ha, by omega, by omega, ?_, hz, f _ _ (hd.erase j) dz⟩
  rw [e, hd.length]
  unfold seqIndex?
  simp
  omega
end
end G

namespace G
open PySem L2

/-! ### promises of defs by what their slots hold -/
abbrev Fw := List Gp → (Gp → Ga → Prop) → (Value → Ga → Prop) → Prop
def ParOk (gs : List Gp) (ω : Col) (H : Hp) (vs : List V) : Prop := gs.length = vs.length ∧ ∀ (i : Nat) (g : Gp) (v : V), gs[i]? = some g → vs[i]? = some v → g.p (vw ω H 0) v (vw ω H (i + 3))
def EndOk (Γp : Ga) (ω : Col) (H : Hp) (vs : List V) : Prop := ∀ (i : Nat) (g : Gp) (v : V), Γp[i]? = some (some g) → vs[i]? = some v → g.p (vw ω H 0) v (vw ω H (i + 3))
def SpG (n : Nat) (F : Fw) : Sp := fun vs H Q E => ∃ gs kk xx ω, vs.length = n ∧ F gs kk xx ∧ ParOk gs ω H vs ∧
  (∀ (v : V) (g : Gp) (Γp : Ga) (ω' : Col) (H' : Hp), kk g Γp → EndOk Γp ω' H' vs → g.p (vw ω' H' 0) v (vw ω' H' 2) → Fr ω ω' H H' → Q v H') ∧
  (∀ (c : Value) (Γp : Ga) (ω' : Col) (H' : Hp), xx c Γp → EndOk Γp ω' H' vs → Fr ω ω' H H' → E c none H')
theorem SpG.len {n : Nat} {F : Fw} : ∀ vs H Q E, SpG n F vs H Q E → vs.length = n := fun vs H Q E ⟨_, _, _, _, h, _⟩ => h
def mask (P : Nat → Bool) (n : Nat) (Γ : Ga) : Ga := (List.range n).map fun i => if P i = true then (Γ[i]?).join else none
theorem mask_get {P : Nat → Bool} {n : Nat} {Γ : Ga} {i : Nat} {g : Gp} (h : (mask P n Γ)[i]? = some (some g)) : i < n ∧ P i = true ∧ Γ[i]? = some (some g) := by
  unfold mask at h
  rw [List.getElem?_map] at h
  by_cases hi : i < n
  · rw [List.getElem?_range hi] at h
    simp only [Option.map_some, Option.some.injEq] at h
    by_cases hp : P i = true
    · rw [if_pos hp] at h
      refine ⟨hi, hp, ?_⟩
      cases e : Γ[i]? with
      | none => rw [e] at h; cases h
      | some o => rw [e] at h; exact congrArg some h
    · rw [if_neg hp] at h; cases h
  · rw [List.getElem?_eq_none (by simp; omega)] at h
    cases h
theorem par_sta {gs : List Gp} {ω : Col} {H : Hp} {vs : List V} {N : List Str} (h : ParOk gs ω H vs) : Sta (gs.map some ++ List.replicate (N.length - vs.length) none) ω (start N vs) H := by
  refine ⟨by simp [L2.start, h.1], fun i g hg => ?_⟩
  by_cases hi : i < gs.length
  · rw [List.getElem?_append_left (by simpa using hi), List.getElem?_map] at hg
    have hiv : i < vs.length := by rw [← h.1]; exact hi
    rw [List.getElem?_eq_getElem hi] at hg
    cases hg
    refine ⟨vs[i], ?_, h.2 i _ _ (List.getElem?_eq_getElem hi) (List.getElem?_eq_getElem hiv)⟩
    unfold L2.start
    rw [List.getElem?_append_left (by simpa using hiv), List.getElem?_map, List.getElem?_eq_getElem hiv]
    rfl
  · rw [List.getElem?_append_right (by simpa using Nat.le_of_not_lt hi)] at hg
    rw [List.getElem?_replicate] at hg
    split at hg <;> cases hg
/-- g holds, so g' -/
def Ent (g g' : Gp) : Prop := ∀ A v R, g.p A v R → g'.p A v R
theorem Ent.refl {g : Gp} : Ent g g := fun _ _ _ h => h
def Les : Ga → Ga → Prop
  | [], [] => True
  | _ :: Γ, none :: Γp => Les Γ Γp
  | some g :: Γ, some g' :: Γp => Ent g g' ∧ Les Γ Γp
  | _, _ => False
theorem Les.get : ∀ {Γ Γp : Ga} {i : Nat} {g' : Gp}, Les Γ Γp → Γp[i]? = some (some g') → ∃ g, Γ[i]? = some (some g) ∧ Ent g g'
  | [], [], _, _, _, h => by simp at h
  | [], _ :: _, _, _, l, _ => by simp [Les] at l
  | _ :: Γ, [], _, _, _, h => by simp at h
  | o :: Γ, none :: Γp, 0, _, _, h => by simp at h
  | o :: Γ, none :: Γp, i + 1, g', l, h => by
    have l' : Les Γ Γp := by cases o <;> exact l
    exact Les.get (i := i) l' (by simpa using h)
  | none :: Γ, some _ :: Γp, _, _, l, _ => l.elim
  | some g :: Γ, some g1 :: Γp, 0, g', l, h => by
    obtain ⟨e, _⟩ := l
    simp at h
    subst h
    exact ⟨g, rfl, e⟩
  | some g :: Γ, some g1 :: Γp, i + 1, g', l, h => by
    obtain ⟨_, l⟩ := l
    exact Les.get (i := i) l (by simpa using h)
theorem EndOk.les {Γ Γp : Ga} {ω : Col} {H : Hp} {vs : List V} (h : EndOk Γ ω H vs) (l : Les Γ Γp) : EndOk Γp ω H vs := fun i g' v hg hv => by
  obtain ⟨g, e, z⟩ := l.get hg
  exact z _ _ _ (h i g v e hv)
theorem body_ok {n : Nat} {F : Fw} (P : Nat → Bool) {t : TS} {N : List Str} {vs : List V} {H : Hp} {Q : VK} {E : XK}
    (h : ∀ gs kk xx, F gs kk xx → gs.length = n → WS P t (gs.map some ++ List.replicate (N.length - n) none) ⟨fun Γ => ∃ Γp, Les (mask P n Γ) Γp ∧ kk (dat .none) Γp, fun g Γ => ∃ g' Γp, Ent g g' ∧ Les (mask P n Γ) Γp ∧ kk g' Γp, fun _ => False, fun _ => False⟩) (hs : SpG n F vs H Q E) :
    t { nx := fun _ H' => Q .non H', rt := Q } (start N vs) H := by
  obtain ⟨gs, kk, xx, ω, hn, hF, hp, hq, _⟩ := hs
  have S := par_sta (N := N) hp
  rw [hn] at S
  have stv : ∀ (i : Nat) (v : V), vs[i]? = some v → (start N vs)[i]? = some (some v) := fun i v e => by
    have hi := (List.getElem?_eq_some_iff.mp e).1
    unfold L2.start
    rw [List.getElem?_append_left (by simpa using hi), List.getElem?_map, e]
    rfl
  have en : ∀ (Γ' : Ga) (ω' : Col) (σ' : L2.St) (H' : Hp), Sta Γ' ω' σ' H' → Pin P (start N vs) σ' → EndOk (mask P n Γ') ω' H' vs := fun Γ' ω' σ' H' S' pi i g v hg hv => by
    obtain ⟨_, hP, hg⟩ := mask_get hg
    obtain ⟨v', e, p⟩ := S'.2 i g hg
    rw [pi.2 i hP, stv i v hv] at e
    cases e
    exact p
  refine h gs kk xx hF (by rw [hp.1, hn]) ω _ H S _ ⟨fun Γ' ω' σ' H' ⟨Γp, l, hk⟩ S' f pi => ?_, fun v g Γ' ω' σ' H' ⟨g', Γp, eg, l, hk⟩ S' p f pi => ?_, fun _ _ _ _ hk => hk.elim, fun _ _ _ _ hk => hk.elim⟩
  · exact hq .non _ _ ω' H' hk ((en Γ' ω' σ' H' S' pi).les l) DR.non f
  · exact hq v g' _ ω' H' hk ((en Γ' ω' σ' H' S' pi).les l) (eg _ _ _ p) f

/-! ### a call -/
def anyG : Gp := ⟨fun _ _ _ => True, fun _ _ h => h⟩
def gsOf (Γ : Ga) : List Arg → List Gp
  | [] => []
  | .s i :: as => ((Γ[i]?).join).getD anyG :: gsOf Γ as
  | .q q :: as => per q :: gsOf Γ as
def back (Γ : Ga) : List Arg → Ga → Ga
  | [], _ => Γ
  | .s i :: as, [] => (back Γ as []).set i none
  | .s i :: as, o :: r => (back Γ as r).set i o
  | .q _ :: as, [] => back Γ as []
  | .q _ :: as, _ :: r => back Γ as r
def slots : List Arg → List Nat
  | [] => []
  | .s i :: as => i :: slots as
  | .q _ :: as => slots as
def inn' : List Arg → Nat → Nat → Nat
  | [], _, _ => 1
  | .s i :: as, j, c => if c = i + 3 then j + 3 else inn' as (j + 1) c
  | .q _ :: as, j, c => inn' as (j + 1) c
def inn (as : List Arg) (c : Nat) : Nat := if c = 0 then 0 else inn' as 0 c
def outt (as : List Arg) (c : Nat) : Nat := if c = 2 then 2 else if c < 3 then 0 else match as[c - 3]? with
  | some (Arg.s i) => i + 3
  | _ => 0
theorem back_len {Γ : Ga} : ∀ (as : List Arg) (Γp : Ga), (back Γ as Γp).length = Γ.length
  | [], _ => rfl
  | .s i :: as, [] => by unfold back; rw [List.length_set, back_len as]
  | .s i :: as, o :: r => by unfold back; rw [List.length_set, back_len as]
  | .q _ :: as, [] => by unfold back; rw [back_len as]
  | .q _ :: as, _ :: r => by unfold back; rw [back_len as]
theorem back_get {Γ : Ga} : ∀ {as : List Arg} {Γp : Ga} {i : Nat} {g : Gp}, (back Γ as Γp)[i]? = some (some g) → (∃ j : Nat, as[j]? = some (Arg.s i) ∧ Γp[j]? = some (some g)) ∨ (i ∉ slots as ∧ Γ[i]? = some (some g))
  | [], _, i, g, h => .inr ⟨by simp [slots], h⟩
  | .s i0 :: as, [], i, g, h => by
    unfold back at h
    rw [set_eq] at h
    by_cases e : i0 = i
    · rw [if_pos e] at h
      split at h <;> cases h
    · rw [if_neg e] at h
      rcases back_get h with ⟨j, _, h2⟩ | ⟨h1, h2⟩
      · simp at h2
      · exact .inr ⟨by simp [slots, Ne.symm e, h1], h2⟩
  | .s i0 :: as, o :: r, i, g, h => by
    unfold back at h
    rw [set_eq] at h
    by_cases e : i0 = i
    · rw [if_pos e] at h
      split at h
      · cases h
        exact .inl ⟨0, by simp [e], rfl⟩
      · cases h
    · rw [if_neg e] at h
      rcases back_get h with ⟨j, h1, h2⟩ | ⟨h1, h2⟩
      · exact .inl ⟨j + 1, by simpa using h1, by simpa using h2⟩
      · exact .inr ⟨by simp [slots, Ne.symm e, h1], h2⟩
  | .q _ :: as, [], i, g, h => by
    unfold back at h
    rcases back_get h with ⟨j, _, h2⟩ | ⟨h1, h2⟩
    · simp at h2
    · exact .inr ⟨by simpa [slots] using h1, h2⟩
  | .q _ :: as, o :: r, i, g, h => by
    unfold back at h
    rcases back_get h with ⟨j, h1, h2⟩ | ⟨h1, h2⟩
    · exact .inl ⟨j + 1, by simpa using h1, by simpa using h2⟩
    · exact .inr ⟨by simpa [slots] using h1, h2⟩
theorem slots_mem : ∀ {as : List Arg} {i j : Nat}, as[j]? = some (Arg.s i) → i ∈ slots as
  | [], _, _, h => by simp at h
  | .s i0 :: as, i, 0, h => by simp at h; simp [slots, h]
  | .s i0 :: as, i, j + 1, h => by simp [slots, slots_mem (as := as) (i := i) (j := j) (by simpa using h)]
  | .q _ :: as, i, 0, h => by simp at h
  | .q _ :: as, i, j + 1, h => by simp [slots, slots_mem (as := as) (i := i) (j := j) (by simpa using h)]
theorem inn'_at : ∀ {as : List Arg} {i j m : Nat}, (slots as).Nodup → as[j]? = some (Arg.s i) → inn' as m (i + 3) = m + j + 3
  | [], _, _, _, _, h => by simp at h
  | .s i0 :: as, i, 0, m, nd, h => by simp at h; simp [inn', h]
  | .s i0 :: as, i, j + 1, m, nd, h => by
    have h' : as[j]? = some (Arg.s i) := by simpa using h
    have hm := slots_mem h'
    have nd' : i0 ∉ slots as ∧ (slots as).Nodup := List.nodup_cons.mp nd
    have ne : ¬ i + 3 = i0 + 3 := fun e => nd'.1 (by have : i = i0 := by omega
                                                     rw [← this]; exact hm)
    unfold inn'
    rw [if_neg ne, inn'_at nd'.2 h']
    omega
  | .q _ :: as, i, 0, m, nd, h => by simp at h
  | .q _ :: as, i, j + 1, m, nd, h => by
    unfold inn'
    rw [inn'_at (as := as) (j := j) (by simpa [slots] using nd) (by simpa using h)]
    omega
theorem inn'_not : ∀ {as : List Arg} {c m : Nat}, (∀ i ∈ slots as, c ≠ i + 3) → inn' as m c = 1
  | [], _, _, _ => rfl
  | .s i0 :: as, c, m, h => by
    unfold inn'
    rw [if_neg (h i0 (by simp [slots])), inn'_not fun i hi => h i (by simp [slots, hi])]
  | .q _ :: as, c, m, h => by
    unfold inn'
    rw [inn'_not fun i hi => h i (by simpa [slots] using hi)]
def cIn (as : List Arg) (ω : Col) : Col := fun b => inn as (ω b)
def cOut (as : List Arg) (ω ω' : Col) (H : Hp) : Col := fun b => if (H b).isSome = true ∧ inn as (ω b) = 1 then ω b else outt as (ω' b)
section
variable {as : List Arg} {ω ω' : Col} {H H' : Hp}
theorem cIn_0 : Same (vw ω H 0) (vw (cIn as ω) H 0) := fun a o h => vw_mk (by unfold cIn; rw [vw_c h]; rfl) (vw_H h)
theorem cIn_s (nd : (slots as).Nodup) {i j : Nat} (hj : as[j]? = some (Arg.s i)) : Same (vw ω H (i + 3)) (vw (cIn as ω) H (j + 3)) := fun a o h => vw_mk (by
  unfold cIn inn
  rw [vw_c h, if_neg (by omega), inn'_at nd hj]
  omega) (vw_H h)
theorem cOut_0 (f : Fr (cIn as ω) ω' H H') : Same (vw ω H 0) (vw (cOut as ω ω' H) H' 0) := fun a o h => by
  have z := f.1 a o (cIn_0 a o h)
  refine vw_mk ?_ (vw_H z)
  unfold cOut
  have e : inn as (ω a) = 0 := by rw [vw_c h]; rfl
  rw [if_neg (by rw [e]; intro q; cases q.2), vw_c z]
  rfl
/-- what the callee doesn't know stays as it was -/
theorem cOut_k {c : Nat} (hc : c ≠ 0) (hs : ∀ i ∈ slots as, c ≠ i + 3) (f : Fr (cIn as ω) ω' H H') : Same (vw ω H c) (vw (cOut as ω ω' H) H' c) := fun a o h => by
  have e : inn as (ω a) = 1 := by
    unfold inn
    rw [vw_c h, if_neg hc]
    exact inn'_not hs
  have z := f.2 a o (vw_mk (by unfold cIn; exact e) (vw_H h))
  refine vw_mk ?_ (vw_H z)
  unfold cOut
  rw [if_pos ⟨by rw [vw_H h]; rfl, e⟩]
  exact vw_c h
theorem cOut_of {c d : Nat} (h1 : c ≠ 1) (ho : outt as c = d) (f : Fr (cIn as ω) ω' H H') : Same (vw ω' H' c) (vw (cOut as ω ω' H) H' d) := fun a o h => by
  refine vw_mk ?_ (vw_H h)
  unfold cOut
  rw [if_neg, vw_c h]
  · exact ho
  · intro ⟨q1, q2⟩
    obtain ⟨u, hu⟩ := Option.isSome_iff_exists.mp q1
    have z := f.2 a u (vw_mk (by unfold cIn; exact q2) hu)
    exact h1 ((vw_c h).symm.trans (vw_c z))
end
theorem gsOf_get {Γ : Ga} {σ : L2.St} {A : Hp} : ∀ {as : List Arg} {vs : List V} {j : Nat} {g : Gp} {v : V}, ArgsOk σ A as vs → (gsOf Γ as)[j]? = some g → vs[j]? = some v →
    (∃ i, as[j]? = some (Arg.s i) ∧ σ[i]? = some (some v) ∧ (g = anyG ∨ Γ[i]? = some (some g))) ∨ ∃ q, as[j]? = some (Arg.q q) ∧ g = per q ∧ q.q A v
  | [], _, _, _, _, _, h, _ => by simp [gsOf] at h
  | .s i :: as, _, 0, g, v, a, h, hv => by
    cases a with | cons x y =>
    simp [gsOf] at h hv
    subst hv
    refine .inl ⟨i, rfl, x, ?_⟩
    cases e : Γ[i]? with
    | none => rw [e] at h; left; exact h.symm
    | some o =>
      cases o with
      | none => rw [e] at h; left; exact h.symm
      | some g' => rw [e] at h; right; cases h; rfl
  | .q q :: as, _, 0, g, v, a, h, hv => by
    cases a with | cons x y =>
    simp [gsOf] at h hv
    subst hv
    exact .inr ⟨q, rfl, h.symm, x⟩
  | .s i :: as, _, j + 1, g, v, a, h, hv => by
    cases a with | cons x y =>
    rcases gsOf_get (as := as) (j := j) y (by simpa [gsOf] using h) (by simpa using hv) with ⟨i', h1, h2⟩ | ⟨q, h1, h2⟩
    · exact .inl ⟨i', by simpa using h1, h2⟩
    · exact .inr ⟨q, by simpa using h1, h2⟩
  | .q _ :: as, _, j + 1, g, v, a, h, hv => by
    cases a with | cons x y =>
    rcases gsOf_get (as := as) (j := j) y (by simpa [gsOf] using h) (by simpa using hv) with ⟨i', h1, h2⟩ | ⟨q, h1, h2⟩
    · exact .inl ⟨i', by simpa using h1, h2⟩
    · exact .inr ⟨q, by simpa using h1, h2⟩
theorem gsOf_len {Γ : Ga} : ∀ as : List Arg, (gsOf Γ as).length = as.length
  | [] => rfl
  | .s i :: as => by simp [gsOf, gsOf_len as]
  | .q _ :: as => by simp [gsOf, gsOf_len as]
theorem ArgsOk.len {σ : L2.St} {A : Hp} : ∀ {as : List Arg} {vs : List V}, ArgsOk σ A as vs → vs.length = as.length
  | [], _, h => by cases h; rfl
  | a :: as, _, h => by cases h with | cons x y => simp [ArgsOk.len y]
theorem ArgsOk.slot {σ : L2.St} {A : Hp} : ∀ {as : List Arg} {vs : List V} {i j : Nat}, ArgsOk σ A as vs → as[j]? = some (Arg.s i) → ∃ v, vs[j]? = some v ∧ σ[i]? = some (some v)
  | [], _, _, _, _, h => by simp at h
  | a :: as, _, i, 0, h, e => by cases h with | cons x y => simp at e; subst e; exact ⟨_, rfl, x⟩
  | a :: as, _, i, j + 1, h, e => by cases h with | cons x y => exact ArgsOk.slot (j := j) y (by simpa using e)
section
variable {K : PySem.W.Frag} {Γ : Ga} {k : Gp → Ga → Prop} {ta : TA} {n : Nat} {F : Fw} {E : XK}
/-- the promise is kept at a call -/
theorem call_core {Γ1 : Ga} {ω1 : Col} {σ : L2.St} {H1 : Hp} {as : List Arg} {vs : List V} {Q : VK} {kx : Value → Ga → Prop} (S1 : Sta Γ1 ω1 σ H1) (a : ArgsOk σ (vw ω1 H1 0) as vs) (hn : as.length = n) (nd : (slots as).Nodup)
    (hF : F (gsOf Γ1 as) (fun g Γp => k g (back Γ1 as Γp)) fun c Γp => kx c (back Γ1 as Γp))
    (c : ∀ v g Γ' ω' H', k g Γ' → Sta Γ' ω' σ H' → Gp.p g (vw ω' H' 0) v (vw ω' H' 2) → Fr ω1 ω' H1 H' → Q v H')
    (cx : ∀ cl Γ' ω' H', kx cl Γ' → Sta Γ' ω' σ H' → Fr ω1 ω' H1 H' → E cl none H') : SpG n F vs H1 Q E := by
  have fin : ∀ (Γp : Ga) (ω' : Col) (H' : Hp), EndOk Γp ω' H' vs → Fr (cIn as ω1) ω' H1 H' → Sta (back Γ1 as Γp) (cOut as ω1 ω' H1) σ H' := fun Γp ω' H' he f => by
    refine ⟨by rw [back_len]; exact S1.1, fun i g hg => ?_⟩
    rcases back_get hg with ⟨j, hj, hp⟩ | ⟨hni, hg⟩
    · obtain ⟨v, hv, hs⟩ := a.slot hj
      refine ⟨v, hs, g.mono (cOut_of (by decide) rfl f) (cOut_of (by omega) ?_ f) (he j g v hp hv)⟩
      unfold outt
      rw [if_neg (by omega), if_neg (by omega)]
      have : j + 3 - 3 = j := by omega
      rw [this, hj]
    · obtain ⟨v, hs, p⟩ := S1.2 i g hg
      have hc : ∀ i' ∈ slots as, i + 3 ≠ i' + 3 := fun i' hi' e => hni ((show i' = i by omega) ▸ hi')
      exact ⟨v, hs, g.mono (cOut_0 f) (cOut_k (by omega) hc f) p⟩
  have fr : ∀ (ω' : Col) (H' : Hp), Fr (cIn as ω1) ω' H1 H' → Fr ω1 (cOut as ω1 ω' H1) H1 H' := fun ω' H' f => ⟨cOut_0 f, cOut_k (by decide) (fun i _ => by omega) f⟩
  refine ⟨gsOf Γ1 as, _, _, cIn as ω1, by rw [a.len]; exact hn, hF, ⟨by rw [gsOf_len, a.len], fun j g v hg hv => ?_⟩, fun v g Γp ω' H' hk he p f => ?_, fun cl Γp ω' H' hk he f => ?_⟩
  · rcases gsOf_get a hg hv with ⟨i, hj, hs, e | e⟩ | ⟨q, hj, e, hq⟩
    · subst e; trivial
    · obtain ⟨v', e', p⟩ := S1.2 i g e
      rw [hs] at e'
      cases e'
      exact g.mono cIn_0 (cIn_s nd hj) p
    · subst e
      exact q.mono cIn_0 hq
  · exact c v g _ (cOut as ω1 ω' H1) H' hk (fin Γp ω' H' he f) (g.mono (cOut_of (by decide) rfl f) (cOut_of (by decide) rfl f) p) (fr ω' H' f)
  · exact cx cl _ (cOut as ω1 ω' H1) H' hk (fin Γp ω' H' he f) (fr ω' H' f)
theorem we_call (h : WA ta Γ fun as Γ1 => as.length = n ∧ (slots as).Nodup ∧ F (gsOf Γ1 as) (fun g Γp => k g (back Γ1 as Γp)) fun _ _ => False) : WE (tCall (SpG n F) [] E ta) Γ k := fun ω σ H S Q f => h ω σ H S _ fun vs as Γ1 ω1 H1 ⟨hn, nd, hF⟩ S1 a f1 => by
  show SpG n F (vs ++ []) H1 Q E
  rw [List.append_nil]
  exact call_core (kx := fun _ _ => False) S1 a hn nd hF (fun v g Γ' ω' H' hk S' p f2 => f v g Γ' ω' H' hk S' p (f1.trans f2)) fun _ _ _ _ hx => hx.elim
/-- the only argument is made on the way: it becomes the callee's own -/
def cIn1 (ω : Col) : Col := fun b => if ω b = 0 then 0 else if ω b = 2 then 3 else 1
def cOut1 (ω ω' : Col) (H : Hp) : Col := fun b => if (H b).isSome = true ∧ ω b ≠ 0 ∧ ω b ≠ 2 then ω b else if ω' b = 2 then 2 else 0
theorem we_call1 {te : TE} (h : WE te Γ fun g Γ1 => F [g] (fun g' _ => k g' Γ1) fun _ _ => False) : WE (tCall (SpG 1 F) [] E (tCons te tNil)) Γ k := fun ω σ H S Q f => h ω σ H S _ fun v g Γ1 ω1 H1 hF S1 p f1 => by
  show SpG 1 F ([v] ++ []) H1 Q E
  rw [List.append_nil]
  have i0 : Same (vw ω1 H1 0) (vw (cIn1 ω1) H1 0) := fun a o h => vw_mk (by unfold cIn1; rw [if_pos (vw_c h)]) (vw_H h)
  have i2 : Same (vw ω1 H1 2) (vw (cIn1 ω1) H1 3) := fun a o h => vw_mk (by unfold cIn1; rw [vw_c h]; rfl) (vw_H h)
  refine ⟨[g], _, _, cIn1 ω1, rfl, hF, ⟨rfl, fun j g' v' hg hv => ?_⟩, fun v' g' Γp ω' H' hk he p' f2 => ?_, fun _ _ _ _ hx => hx.elim⟩
  · match j, hg, hv with
    | 0, hg, hv =>
      cases hg
      cases hv
      exact g.mono i0 i2 p
    | j + 1, hg, _ => simp at hg
  · have keep : ∀ c, c ≠ 0 → c ≠ 2 → Same (vw ω1 H1 c) (vw (cOut1 ω1 ω' H1) H' c) := fun c h0 h2 a o h => by
      have e := vw_c h
      have z := f2.2 a o (vw_mk (by unfold cIn1; rw [if_neg (by rw [e]; exact h0), if_neg (by rw [e]; exact h2)]) (vw_H h))
      refine vw_mk ?_ (vw_H z)
      unfold cOut1
      rw [if_pos ⟨by rw [vw_H h]; rfl, by rw [e]; exact h0, by rw [e]; exact h2⟩]
      exact e
    have k0 : Same (vw ω1 H1 0) (vw (cOut1 ω1 ω' H1) H' 0) := fun a o h => by
      have z := f2.1 a o (i0 a o h)
      refine vw_mk ?_ (vw_H z)
      unfold cOut1
      rw [if_neg (by rw [vw_c h]; intro q; exact q.2.1 rfl), vw_c z]
      rfl
    have ofc : ∀ c d, c ≠ 1 → (if c = 2 then 2 else 0) = d → Same (vw ω' H' c) (vw (cOut1 ω1 ω' H1) H' d) := fun c d h1 hd a o h => by
      refine vw_mk ?_ (vw_H h)
      unfold cOut1
      rw [if_neg, vw_c h]
      · exact hd
      · intro ⟨q1, q2, q3⟩
        obtain ⟨u, hu⟩ := Option.isSome_iff_exists.mp q1
        have z := f2.2 a u (vw_mk (by unfold cIn1; rw [if_neg q2, if_neg q3]) hu)
        exact h1 ((vw_c h).symm.trans (vw_c z))
    exact f v' g' Γ1 (cOut1 ω1 ω' H1) H' hk (S1.move k0 fun i _ _ => keep _ (by omega) (by omega)) (g'.mono (ofc 0 0 (by decide) rfl) (ofc 2 2 (by decide) rfl) p') (f1.trans ⟨k0, keep 1 (by decide) (by decide)⟩)
end

/-! ### assertions with something left open -/
def exG {α : Type} (f : α → Gp) : Gp := ⟨fun A v R => ∃ x, (f x).p A v R, fun a r ⟨x, h⟩ => ⟨x, (f x).mono a r h⟩⟩
def whenG (φ : Prop) (g : Gp) : Gp := ⟨fun A v R => φ ∧ g.p A v R, fun a r h => ⟨h.1, g.mono a r h.2⟩⟩
theorem Sta.sub {Γ : Ga} {ω : Col} {σ : L2.St} {H : Hp} (S : Sta Γ ω σ H) {i : Nat} {v : V} {g : Gp} (e : σ[i]? = some (some v)) (p : g.p (vw ω H 0) v (vw ω H (i + 3))) : Sta (Γ.set i (some g)) ω σ H :=
  S.set (Same.refl _) (fun _ _ _ _ => Same.refl _) e p
section
variable {Γ : Ga} {P : Nat → Bool} {t : TS} {D : Pe}
theorem ws_open {α : Type} {f : α → Gp} {i : Nat} (h : Γ[i]? = some (some (exG f))) (c : ∀ x, WS P t (Γ.set i (some (f x))) D) : WS P t Γ D := fun ω σ H S E m => by
  obtain ⟨v, e, x, p⟩ := S.2 i _ h
  exact c x ω σ H (S.sub e p) E m
theorem ws_when {φ : Prop} {g : Gp} {i : Nat} (h : Γ[i]? = some (some (whenG φ g))) (c : φ → WS P t (Γ.set i (some g)) D) : WS P t Γ D := fun ω σ H S E m => by
  obtain ⟨v, e, x, p⟩ := S.2 i _ h
  exact c x ω σ H (S.sub e p) E m
end
end G

namespace G
open PySem L2

/-! ### the readings by name -/
abbrev rAddI : R2 := rI0 fun i j => .int (i + j)
def rAddS : R2 := fun x y H Q => ∃ i j, x = .str i ∧ y = .str j ∧ i.length + j.length ≤ sizeLine ∧ Q (.str (i ++ j)) H
def rPlus (K : PySem.W.Frag) : R2 := rOr rAddI (rOr rCat (rOr rAddS (rCatT K)))
abbrev rSubI : R2 := rI0 fun i j => .int (i - j)
abbrev rMulI : R2 := rI CMul fun i j => .int (i * j)
abbrev rDivI : R2 := rI CDivW fun i j => .int (i / j)
abbrev rModI : R2 := rI (fun _ j => 0 < j) fun i j => .int (i % j)
abbrev rPowI : R2 := rI CPow fun i j => .int (i ^ j.toNat)
abbrev rLtI : R2 := rI0 fun i j => .bl (decide (i < j))
abbrev rLeI : R2 := rI0 fun i j => .bl (decide (i ≤ j))
abbrev rGtI : R2 := rI0 fun i j => .bl (decide (j < i))
abbrev rGeI : R2 := rI0 fun i j => .bl (decide (j ≤ i))
abbrev rNegI : V → Hp → VK → Prop := rU fun i => .int (-i)
def rIsN0 : R2 := fun x y H Q => y = .non ∧ Q (.bl (decide (x = .non))) H
def rNotN0 : R2 := fun x y H Q => y = .non ∧ Q (.bl (!decide (x = .non))) H
def rLenA (K : PySem.W.Frag) : List V → Hp → VK → Prop := fun xs H Q => ∃ x n, xs = [x] ∧ LenV K x H n ∧ Q (.int n) H
def rInt1 : List V → Hp → VK → Prop := fun xs H Q => (∃ i, xs = [.int i] ∧ Q (.int i) H) ∨ ∃ k, xs = [.bl k] ∧ Q (.int (if k then 1 else 0)) H
def rMax2 : List V → Hp → VK → Prop := fun xs H Q => ∃ i j, xs = [.int i, .int j] ∧ Q (.int (if j > i then j else i)) H
def rMin2 : List V → Hp → VK → Prop := fun xs H Q => ∃ i j, xs = [.int i, .int j] ∧ Q (.int (if j < i then j else i)) H
def rListOf (K : PySem.W.Frag) : List V → Hp → VK → Prop := fun xs H Q => ∃ p ys, xs = [.ref p] ∧ (SqL K H p ys ∨ SqT K H p ys) ∧ ∀ l, H l = none → Q (.ref l) (upd H l (.lst ys))
def cOr (r r' : List V → Hp → VK → Prop) : List V → Hp → VK → Prop := fun xs H Q => r xs H Q ∨ r' xs H Q
def rSortA (K : PySem.W.Frag) : List V → Hp → VK → Prop := cOr (rSortedI K) (rSortedPO K)
section
variable {X : Cx}
theorem c_or {f : Value} {r r' : List V → Hp → VK → Prop} (h : CallR X f r) (h' : CallR X f r') : CallR X f (cOr r r') := fun pins s σ H xs us Q I r q => by
  rcases q with q | q
  · exact h pins s σ H xs us Q I r q
  · exact h' pins s σ H xs us Q I r q
theorem op_plus : OpR X (binaryOp .Add) (rPlus X.K) := op_or op_add (op_or op_cat (op_or op_add_str op_catT))
theorem c_len : CallR X (.builtin "len") (rLenA X.K) := call_len
theorem c_int : CallR X (.type "int") rInt1 := call_int1
theorem c_max (hc : X.calm = true) : CallR X (.builtin "max") rMax2 := call_max2 hc
theorem c_min (hc : X.calm = true) : CallR X (.builtin "min") rMin2 := call_min2 hc
theorem c_list : CallR X (.type "list") (rListOf X.K) := call_list_of
theorem c_sorted : CallR X (.builtin "sorted") (rSortA X.K) := c_or cr_sortedI cr_sortedPO
end
section
variable {K : PySem.W.Frag} {Γ : Ga} {k : Gp → Ga → Prop} {ta tb te : TE} {tr : TA} {kt : Bool → Ga → Prop}
/-! ### what they do upon data -/
theorem od_addI {i j : Int} : OpD (rPlus K) (.int i) (.int j) (dP (.int (i + j))) := OpD.lft od_I0
theorem we_neg (h : WQ ta Γ fun q Γ1 => ∃ i, q = dP (.int i) ∧ k (dat (.int (-i))) Γ1) : WE (tUn rNegI ta) Γ k := we_un (h.imp fun q Γ1 ⟨i, e, hk⟩ => by
  subst e
  intro ω σ H v S p Q f
  cases DR.int_inv p
  exact ⟨i, rfl, f _ _ Γ1 ω H hk S (DR.int _) Fr.refl⟩)
/-! ### built-ins -/
/-- arguments that are all data, told one by one -/
theorem argD1 {d : PyData} : ArgD [.q (dP d)] [d] := ⟨rfl, trivial⟩
theorem argD2 {d e : PyData} : ArgD [.q (dP d), .q (dP e)] [d, e] := ⟨rfl, rfl, trivial⟩
theorem cb_lenL {ds : List PyData} : CbD (rLenA K) [.list ds] (dP (.int ds.length)) := fun A H vs s h Q f => by
  cases h with | cons x y =>
  cases y
  obtain ⟨a, xs, rfl, ha, hd⟩ := x.lst_inv
  exact ⟨_, xs.length, rfl, .inl ⟨xs, SqL.of (s _ _ ha), rfl⟩, by rw [hd.length]; exact f _ (DR.int _)⟩
theorem cb_lenT {ds : List PyData} : CbD (rLenA K) [.tuple ds] (dP (.int ds.length)) := fun A H vs s h Q f => by
  cases h with | cons x y =>
  cases y
  obtain ⟨a, xs, rfl, ha, hd⟩ := x.tup_inv
  exact ⟨_, xs.length, rfl, .inr ⟨xs, SqT.of (s _ _ ha), rfl⟩, by rw [hd.length]; exact f _ (DR.int _)⟩
theorem cb_int {i : Int} : CbD rInt1 [.int i] (dP (.int i)) := fun A H vs s h Q f => by
  cases h with | cons x y =>
  cases y
  cases x.int_inv
  exact .inl ⟨i, rfl, f _ (DR.int _)⟩
theorem cb_intB {b : Bool} : CbD rInt1 [.bool b] (dP (.int (if b then 1 else 0))) := fun A H vs s h Q f => by
  cases h with | cons x y =>
  cases y
  cases x.bl_inv
  exact .inr ⟨b, rfl, f _ (DR.int _)⟩
theorem cb_max {i j : Int} : CbD rMax2 [.int i, .int j] (dP (.int (if j > i then j else i))) := fun A H vs s h Q f => by
  cases h with | cons x y =>
  cases y with | cons z y =>
  cases y
  cases x.int_inv
  cases z.int_inv
  exact ⟨i, j, rfl, f _ (DR.int _)⟩
theorem cb_min {i j : Int} : CbD rMin2 [.int i, .int j] (dP (.int (if j < i then j else i))) := fun A H vs s h Q f => by
  cases h with | cons x y =>
  cases y with | cons z y =>
  cases y
  cases x.int_inv
  cases z.int_inv
  exact ⟨i, j, rfl, f _ (DR.int _)⟩
theorem cb_list {ds : List PyData} : CbL (rListOf K) [.list ds] (fun es => es = ds) := fun A H vs s h Q f => by
  cases h with | cons x y =>
  cases y
  obtain ⟨a, xs, rfl, ha, hd⟩ := x.lst_inv
  exact ⟨a, xs, rfl, .inl (SqL.of (s _ _ ha)), fun l hl => f ds xs l rfl hd hl⟩
theorem cb_sortI {ns : List Int} : CbL (rSortA K) [.list (ns.map .int)] (fun es => ∃ ns' : List Int, es = ns'.map .int ∧ ns'.Perm ns ∧ ns'.Pairwise (· ≤ ·)) := fun A H vs s h Q f => by
  cases h with | cons x y =>
  cases y
  obtain ⟨a, xs, rfl, ha, hd⟩ := x.lst_inv
  rw [hd.ints] at ha
  exact .inl ⟨a, ns, rfl, SqL.of (s _ _ ha), fun ns' p h1 h2 hp => f _ _ p ⟨ns', rfl, h1, h2⟩ DRs.of_ints hp⟩
end
end G

namespace G
open PySem L2
/-! ### operations upon data, one rule for all -/
def OpK (r : R2) (d e : PyData) (k : Gp → Ga → Prop) (Γ : Ga) : Prop := ∀ (ω : Col) (σ : L2.St) (H : Hp) (v w : V), Sta Γ ω σ H → DR (vw ω H 0) v d → DR (vw ω H 0) w e → ∀ Q : VK,
  (∀ (v : V) (g : Gp) (Γ' : Ga) (ω' : Col) (H' : Hp), k g Γ' → Sta Γ' ω' σ H' → g.p (vw ω' H' 0) v (vw ω' H' 2) → Fr ω ω' H H' → Q v H') → r v w H Q
def CbK (r : List V → Hp → VK → Prop) (ds : List PyData) (k : Gp → Ga → Prop) (Γ : Ga) : Prop := ∀ (ω : Col) (σ : L2.St) (H : Hp) (vs : List V), Sta Γ ω σ H → DRs (vw ω H 0) vs ds → ∀ Q : VK,
  (∀ (v : V) (g : Gp) (Γ' : Ga) (ω' : Col) (H' : Hp), k g Γ' → Sta Γ' ω' σ H' → g.p (vw ω' H' 0) v (vw ω' H' 2) → Fr ω ω' H H' → Q v H') → r vs H Q
section
variable {K : PySem.W.Frag} {Γ : Ga} {k : Gp → Ga → Prop} {ta tb te : TE} {tr : TA} {kt : Bool → Ga → Prop} {ka : List Arg → Ga → Prop}
theorem we_opK {r : R2} (h : WQ ta Γ fun q Γ1 => ∃ d, q = dP d ∧ WQ tb Γ1 fun q' Γ2 => ∃ e, q' = dP e ∧ OpK r d e k Γ2) : WE (tOp r ta tb) Γ k :=
  we_op (h.imp fun q Γ1 ⟨d, e1, h1⟩ => h1.imp fun q' Γ2 ⟨e, e2, hk⟩ => by
    subst e1 e2
    exact hk)
theorem ok_of {r : R2} {d e : PyData} {q : Per} (h : OpD r d e q) (hk : k (per q) Γ) : OpK r d e k Γ := fun ω σ H v w S a b Q f => h (vw ω H 0) H v w (fun _ _ z => vw_H z) a b Q fun z hz => f z (per q) Γ ω H hk S hz Fr.refl
theorem ok_plusI {i j : Int} (hk : k (dat (.int (i + j))) Γ) : OpK (rPlus K) (.int i) (.int j) k Γ := ok_of od_addI hk
theorem ok_plusL {d e : List PyData} (hl : d.length + e.length ≤ 100000) (hk : k (own (d ++ e)) Γ) : OpK (rPlus K) (.list d) (.list e) k Γ := fun ω σ H v w S pv pw Q f => by
  obtain ⟨a, xs, rfl, ha, hd⟩ := DR.lst_inv pv
  obtain ⟨b, ys, rfl, hb, he⟩ := DR.lst_inv pw
  exact .inr (.inl ⟨a, b, xs, ys, rfl, rfl, vw_H ha, vw_H hb, by rw [hd.length, he.length]; exact Nat.le_trans hl (by decide), fun p hp =>
    f _ _ Γ (paint ω p 2) _ hk (S.new 2 hp) ⟨p, xs ++ ys, rfl, paint_at, (hd.append he).mono (paint_same hp 0)⟩ (paint_fr hp)⟩)
theorem ok_sub {i j : Int} (hk : k (dat (.int (i - j))) Γ) : OpK rSubI (.int i) (.int j) k Γ := ok_of od_I0 hk
theorem ok_mul {i j : Int} (c : CMul i j) (hk : k (dat (.int (i * j))) Γ) : OpK rMulI (.int i) (.int j) k Γ := ok_of (od_I c) hk
theorem ok_div {i j : Int} (c : CDivW i j) (hk : k (dat (.int (i / j))) Γ) : OpK rDivI (.int i) (.int j) k Γ := ok_of (od_I c) hk
theorem ok_mod {i j : Int} (c : 0 < j) (hk : k (dat (.int (i % j))) Γ) : OpK rModI (.int i) (.int j) k Γ := ok_of (od_I c) hk
theorem ok_pow {i j : Int} (c : CPow i j) (hk : k (dat (.int (i ^ j.toNat))) Γ) : OpK rPowI (.int i) (.int j) k Γ := ok_of (od_I c) hk
theorem ok_lt {i j : Int} (hk : k (dat (.bool (decide (i < j)))) Γ) : OpK rLtI (.int i) (.int j) k Γ := ok_of od_B0 hk
theorem ok_le {i j : Int} (hk : k (dat (.bool (decide (i ≤ j)))) Γ) : OpK rLeI (.int i) (.int j) k Γ := ok_of od_B0 hk
theorem ok_gt {i j : Int} (hk : k (dat (.bool (decide (j < i)))) Γ) : OpK rGtI (.int i) (.int j) k Γ := ok_of od_B0 hk
theorem ok_ge {i j : Int} (hk : k (dat (.bool (decide (j ≤ i)))) Γ) : OpK rGeI (.int i) (.int j) k Γ := ok_of od_B0 hk
theorem shaped_int {i : Int} : SeqAt.shaped (.int i) = true := by rfl
theorem eqv_int {i j : Int} : PyData.eqv (.int i) (.int j) = decide (i = j) := by
  show (i == j) = decide (i = j)
  exact Bool.beq_eq_decide_eq i j
theorem ok_eqI {i j : Int} (hk : k (dat (.bool (decide (i = j)))) Γ) : OpK (rEqD K) (.int i) (.int j) k Γ := ok_of (od_eq shaped_int shaped_int) (by rw [eqv_int]; exact hk)
theorem ok_neI {i j : Int} (hk : k (dat (.bool (!decide (i = j)))) Γ) : OpK (rNeD K) (.int i) (.int j) k Γ := ok_of (od_ne shaped_int shaped_int) (by rw [eqv_int]; exact hk)
theorem ok_ne {d e : PyData} (hd : SeqAt.shaped d = true) (he : SeqAt.shaped e = true) (hk : k (dat (.bool (!PyData.eqv d e))) Γ) : OpK (rNeD K) d e k Γ := ok_of (od_ne hd he) hk
theorem ok_ixL {ds : List PyData} {i : Int} {d : PyData} (h : atI ds i = some d) (hk : k (dat d) Γ) : OpK (rIx K) (.list ds) (.int i) k Γ := ok_of (od_ixL h) hk
/-- an own list looked at, on the right, on the left -/
theorem we_opR {r : R2} {i : Nat} (h : WQ ta Γ fun q Γ1 => ∃ d, q = dP d ∧ ∃ ds b, Γ1[i]? = some (some (own ds)) ∧ OpD r d (.list ds) (dP (.bool b)) ∧ k (dat (.bool b)) Γ1) : WE (tOp r ta (tVar i)) Γ k := fun ω σ H S Q f => h ω σ H S _ fun v q Γ1 ω1 H1 ⟨d, e, ds, b, hi, ho, hk⟩ S1 p f1 => by
  subst e
  obtain ⟨w, ew, a, vs, rfl, hr, hd⟩ := S1.2 i _ hi
  exact ⟨_, ew, ho H1 H1 v _ (Same.refl _) (DR.mono (fun _ _ z => vw_H z) d p) (.lst (vw_H hr) (hd.mono fun _ _ z => vw_H z)) Q fun z hz => by
    cases DR.bl_inv hz
    exact f _ _ Γ1 ω1 H1 hk S1 (DR.bl b) f1⟩
theorem we_opL {r : R2} {i : Nat} {ds : List PyData} (hi : Γ[i]? = some (some (own ds))) (h : WQ tb Γ fun q Γ1 => ∃ d, q = dP d ∧ ∃ b, Γ1[i]? = some (some (own ds)) ∧ OpD r (.list ds) d (dP (.bool b)) ∧ k (dat (.bool b)) Γ1) : WE (tOp r (tVar i) tb) Γ k := fun ω σ H S Q f => by
  obtain ⟨w, ew, p0⟩ := S.2 i _ hi
  refine ⟨_, ew, h ω σ H S _ fun v q Γ1 ω1 H1 ⟨d, e, b, hi, ho, hk⟩ S1 p f1 => ?_⟩
  subst e
  obtain ⟨w', ew', a, vs, e2, hr, hd⟩ := S1.2 i _ hi
  rw [ew] at ew'
  cases ew'
  subst e2
  exact ho H1 H1 _ v (Same.refl _) (.lst (vw_H hr) (hd.mono fun _ _ z => vw_H z)) (DR.mono (fun _ _ z => vw_H z) d p) Q fun z hz => by
    cases DR.bl_inv hz
    exact f _ _ Γ1 ω1 H1 hk S1 (DR.bl b) f1
/-! ### built-ins -/
theorem we_cbK {rc : List V → Hp → VK → Prop} (h : WA tr Γ fun as Γ1 => ∃ ds, ArgD as ds ∧ CbK rc ds k Γ1) : WE (tCB rc tr) Γ k := fun ω σ H S Q f => h ω σ H S _ fun vs as Γ1 ω1 H1 ⟨ds, e, hc⟩ S1 a f1 =>
  hc ω1 σ H1 vs S1 (e.drs a) Q fun v g Γ' ω' H' hk S' p f2 => f v g Γ' ω' H' hk S' p (f1.trans f2)
theorem ck_of {rc : List V → Hp → VK → Prop} {ds : List PyData} {q : Per} (h : CbD rc ds q) (hk : k (per q) Γ) : CbK rc ds k Γ := fun ω σ H vs S a Q f => h (vw ω H 0) H vs (fun _ _ z => vw_H z) a Q fun z hz => f z (per q) Γ ω H hk S hz Fr.refl
theorem ck_L {rc : List V → Hp → VK → Prop} {ds : List PyData} {P : List PyData → Prop} (h : CbL rc ds P) (hk : ∀ es, P es → k (own es) Γ) : CbK rc ds k Γ := fun ω σ H vs S a Q f => h (vw ω H 0) H vs (fun _ _ z => vw_H z) a Q fun es xs p hP hx hp =>
  f _ _ Γ (paint ω p 2) _ (hk es hP) (S.new 2 hp) ⟨p, xs, rfl, paint_at, hx.mono (paint_same hp 0)⟩ (paint_fr hp)
theorem ck_lenL {ds : List PyData} (hk : k (dat (.int ds.length)) Γ) : CbK (rLenA K) [.list ds] k Γ := ck_of cb_lenL hk
theorem ck_lenT {ds : List PyData} (hk : k (dat (.int ds.length)) Γ) : CbK (rLenA K) [.tuple ds] k Γ := ck_of cb_lenT hk
theorem ck_int {i : Int} (hk : k (dat (.int i)) Γ) : CbK rInt1 [.int i] k Γ := ck_of cb_int hk
theorem ck_intB {i : Bool} (hk : k (dat (.int (if i then 1 else 0))) Γ) : CbK rInt1 [.bool i] k Γ := ck_of cb_intB hk
theorem ck_max {i j : Int} (hk : k (dat (.int (if j > i then j else i))) Γ) : CbK rMax2 [.int i, .int j] k Γ := ck_of cb_max hk
theorem ck_min {i j : Int} (hk : k (dat (.int (if j < i then j else i))) Γ) : CbK rMin2 [.int i, .int j] k Γ := ck_of cb_min hk
theorem ck_list {ds : List PyData} (hk : k (own ds) Γ) : CbK (rListOf K) [.list ds] k Γ := ck_L cb_list fun es e => by subst e; exact hk
theorem argD0 : ArgD [] [] := trivial
theorem argD3 {d e f : PyData} : ArgD [.q (dP d), .q (dP e), .q (dP f)] [d, e, f] := ⟨rfl, rfl, rfl, trivial⟩
theorem argD4 {d e f g : PyData} : ArgD [.q (dP d), .q (dP e), .q (dP f), .q (dP g)] [d, e, f, g] := ⟨rfl, rfl, rfl, rfl, trivial⟩
theorem we_lenS' {i : Nat} {ds : List PyData} (h : Γ[i]? = some (some (own ds))) (hk : k (dat (.int ds.length)) Γ) : WE (tCB (rLenA K) (tCons (tVar i) tNil)) Γ k := we_lenS h hk
/-- no argument is one's own -/
def urn (m : Nat) : Gp := exG fun x : Int × Int × Int => whenG (0 ≤ x.2.2 ∧ x.2.2 + (m : Int) ≤ 2 ^ 60) (own [.int x.1, .int x.2.1, .int x.2.2])
theorem urn_mk {a b c : Int} {m : Nat} (h0 : 0 ≤ c) (h1 : c + (m : Int) ≤ 2 ^ 60) : Ent (own [.int a, .int b, .int c]) (urn m) := fun _ _ _ h => ⟨(a, b, c), ⟨h0, h1⟩, h⟩
/-- a list of ints that is only read: the script -/
def scrP (K : PySem.W.Frag) (ns : List Int) : Per := ⟨fun A v => ∃ a, v = .ref a ∧ SqL K A a (ns.map V.int), fun s ⟨a, e, h⟩ => ⟨a, e, Same.seq s h⟩⟩
theorem we_lenScr {i : Nat} {ns : List Int} (h : Γ[i]? = some (some (per (scrP K ns)))) (hk : k (dat (.int ns.length)) Γ) : WE (tCB (rLenA K) (tCons (tVar i) tNil)) Γ k := fun ω σ H S Q f => by
  obtain ⟨v, e, a, rfl, hs⟩ := S.2 i _ h
  exact ⟨_, e, _, (ns.map V.int).length, rfl, .inl ⟨_, Same.seq (fun _ _ z => vw_H z) hs, rfl⟩, by rw [List.length_map]; exact f _ _ Γ ω H hk S (DR.int _) Fr.refl⟩
theorem we_ixScr {i : Nat} {ns : List Int} (h : Γ[i]? = some (some (per (scrP K ns)))) (hb : WQ tb Γ fun q Γ1 => ∃ j n, q = dP (.int j) ∧ atI ns j = some n ∧ k (dat (.int n)) Γ1) : WE (tOp (rIx K) (tVar i) tb) Γ k := fun ω σ H S Q f => by
  obtain ⟨v, e, a, rfl, hs⟩ := S.2 i _ h
  refine ⟨_, e, hb ω σ H S _ fun w q Γ1 ω1 H1 ⟨j, n, eq, ha, hk⟩ S1 pq f1 => ?_⟩
  subst eq
  cases DR.int_inv pq
  refine .inl ⟨a, _, j, .int n, rfl, rfl, Same.seq (fun x o z => vw_H (f1.1 x o z)) hs, ?_, f _ _ Γ1 ω1 H1 hk S1 (DR.int _) f1⟩
  unfold atI at ha ⊢
  rw [List.length_map]
  cases e : ixN ns.length j with
  | none => rw [e] at ha; cases ha
  | some m =>
    rw [e] at ha
    show (ns.map V.int)[m]? = _
    rw [List.getElem?_map, show ns[m]? = some n from ha]
    rfl
end
end G
namespace G
open PySem L2
theorem ite_dec {c A B : Prop} [Decidable c] (h1 : c → A) (h2 : ¬ c → B) : if decide c = true then A else B := by
  by_cases h : c
  · rw [if_pos (decide_eq_true h)]; exact h1 h
  · rw [if_neg (by simp [h])]; exact h2 h
theorem ite_ndec {c A B : Prop} [Decidable c] (h1 : ¬ c → A) (h2 : c → B) : if (!decide c) = true then A else B := by
  by_cases h : c
  · rw [if_neg (by simp [h])]; exact h2 h
  · rw [if_pos (by simp [h])]; exact h1 h
theorem ite_b {b : Bool} {A B : Prop} (h1 : b = true → A) (h2 : b = false → B) : if b = true then A else B := by
  cases b with
  | true => exact iteT (h1 rfl)
  | false => exact iteF (h2 rfl)
theorem cmul_l {i j : Int} (h : -(2 ^ 64) < i) (h' : i < 2 ^ 64) : CMul i j := .inl ⟨h, h'⟩
theorem cmul_r {i j : Int} (h : -(2 ^ 64) < j) (h' : j < 2 ^ 64) : CMul i j := .inr ⟨h, h'⟩
theorem cdiv_of {i j : Int} {b : Nat} (h : 0 < j) (hb : j < 2 ^ b) (h0 : 0 < b) (h9 : b ≤ 9000) : CDivW i j := by
  refine wide_div h (b := b) ?_ h0 h9
  have e : ((2 : Int) ^ b) = ((2 ^ b : Nat) : Int) := by simp
  rw [e] at hb
  omega
end G
namespace G
open PySem L2
theorem les_nil : Les [] [] := trivial
theorem les_none {o : Option Gp} {Γ Γp : Ga} (l : Les Γ Γp) : Les (o :: Γ) (none :: Γp) := by cases o <;> exact l
theorem les_some {g g' : Gp} {Γ Γp : Ga} (e : Ent g g') (l : Les Γ Γp) : Les (some g :: Γ) (some g' :: Γp) := ⟨e, l⟩
end G
namespace G
open PySem L2
theorem ws_urn {Γ : Ga} {P : Nat → Bool} {t : TS} {D : Pe} {i m : Nat} (h : Γ[i]? = some (some (urn m))) (c : ∀ a b c : Int, 0 ≤ c → c + (m : Int) ≤ 2 ^ 60 → WS P t (Γ.set i (some (own [.int a, .int b, .int c]))) D) : WS P t Γ D := by
  refine ws_open h fun ⟨a, b, d⟩ => ?_
  refine ws_when (i := i) (φ := 0 ≤ d ∧ d + (m : Int) ≤ 2 ^ 60) (g := own [.int a, .int b, .int d]) ?_ fun z => ?_
  · rw [set_eq, if_pos rfl, if_pos (List.getElem?_eq_some_iff.mp h).1]
  · rw [List.set_set]
    exact c a b d z.1 z.2
end G

namespace G
open PySem L2
/-! ### pairs of ints -/
def tieD (t : Int × Int) : PyData := .tuple [.int t.1, .int t.2]
theorem canLay_all : ∀ {ds : List PyData}, (∀ d ∈ ds, d.canLay0 = true) → PyData.canLayAll0 ds = true
  | [], _ => by simp [PyData.canLayAll0]
  | d :: ds, h => by
    have h1 := h d (by simp)
    have h2 := canLay_all (ds := ds) fun e he => h e (List.mem_cons_of_mem _ he)
    simp [PyData.canLayAll0, h1, h2]
theorem depth_all {n : Nat} : ∀ {ds : List PyData}, (∀ d ∈ ds, d.depth ≤ n) → PyData.depthAll ds ≤ n
  | [], _ => by simp [PyData.depthAll]
  | d :: ds, h => by
    have h1 := h d (by simp)
    have h2 := depth_all (n := n) (ds := ds) fun e he => h e (by simp [he])
    simp only [PyData.depthAll]
    omega
/-- what may be compared: no dict within, so deep -/
structure Lay (n : Nat) (d : PyData) : Prop where
  lay : d.canLay0 = true
  dep : d.depth ≤ n
theorem Lay.shaped {n : Nat} {d : PyData} (h : Lay n d) (hn : n ≤ 64 := by decide) : SeqAt.shaped d = true := by
  show (d.canLay0 && decide (d.depth ≤ 64)) = true
  rw [Bool.and_eq_true]
  exact ⟨h.lay, decide_eq_true (Nat.le_trans h.dep hn)⟩
theorem lay_list {n : Nat} {ds : List PyData} (h : ∀ d ∈ ds, Lay n d) : Lay (n + 1) (.list ds) := ⟨by simp only [PyData.canLay0]; exact canLay_all fun d hd => (h d hd).lay, by
  simp only [PyData.depth]
  have := depth_all (n := n) (ds := ds) fun d hd => (h d hd).dep
  omega⟩
theorem lay_tuple {n : Nat} {ds : List PyData} (h : ∀ d ∈ ds, Lay n d) : Lay (n + 1) (.tuple ds) := ⟨by simp only [PyData.canLay0]; exact canLay_all fun d hd => (h d hd).lay, by
  simp only [PyData.depth]
  have := depth_all (n := n) (ds := ds) fun d hd => (h d hd).dep
  omega⟩
theorem Lay.up {n m : Nat} {d : PyData} (h : Lay n d) (hm : n ≤ m) : Lay m d := ⟨h.lay, Nat.le_trans h.dep hm⟩
theorem lay_int {i : Int} : Lay 0 (.int i) := ⟨by simp [PyData.canLay0], by simp [PyData.depth]⟩
theorem lay_ints {ns : List Int} : Lay 1 (.list (ns.map .int)) := lay_list fun d hd => by
  obtain ⟨t, _, rfl⟩ := List.mem_map.mp hd
  exact lay_int
theorem eqvAll_inj {α : Type} [DecidableEq α] {f : α → PyData} (h : ∀ x y, PyData.eqv (f x) (f y) = decide (x = y)) : ∀ {xs ys : List α}, PyData.eqvAll (xs.map f) (ys.map f) = decide (xs = ys)
  | [], [] => by simp [PyData.eqvAll]
  | [], _ :: _ => by simp [PyData.eqvAll]
  | _ :: _, [] => by simp [PyData.eqvAll]
  | x :: xs, y :: ys => by
    simp only [List.map_cons, PyData.eqvAll, h, eqvAll_inj h]
    by_cases h1 : x = y <;> by_cases h2 : xs = ys <;> simp [h1, h2]
theorem eqv_list_inj {α : Type} [DecidableEq α] {f : α → PyData} (h : ∀ x y, PyData.eqv (f x) (f y) = decide (x = y)) {xs ys : List α} : PyData.eqv (.list (xs.map f)) (.list (ys.map f)) = decide (xs = ys) := by
  simp only [PyData.eqv]
  exact eqvAll_inj h
theorem eqv_ints {xs ys : List Int} : PyData.eqv (.list (xs.map .int)) (.list (ys.map .int)) = decide (xs = ys) := eqv_list_inj fun _ _ => eqv_int
theorem any_inj {α : Type} [BEq α] [LawfulBEq α] [DecidableEq α] {f : α → PyData} (h : ∀ x y, PyData.eqv (f x) (f y) = decide (x = y)) {xs : List α} {y : α} : ((xs.map f).any fun z => PyData.eqv z (f y)) = decide (y ∈ xs) := by
  induction xs with
  | nil => simp
  | cons x xs ih =>
    rw [List.map_cons, List.any_cons, ih, h]
    by_cases h1 : x = y
    · simp [h1]
    · have : ¬ y = x := fun e => h1 e.symm
      simp [h1, this]
theorem any_ints {ns : List Int} {n : Int} : ((ns.map PyData.int).any fun z => PyData.eqv z (.int n)) = decide (n ∈ ns) := by rw [any_inj fun _ _ => eqv_int]
/-! ### sorted of pairs -/
def LexLe (a b : Int × Int) : Prop := a.1 < b.1 ∨ (a.1 = b.1 ∧ a.2 ≤ b.2)
def LexLt (a b : Int × Int) : Prop := a.1 < b.1 ∨ (a.1 = b.1 ∧ a.2 < b.2)
def keyP (A : Hp) : V → Int × Int
  | .ref t => match A t with
    | some (.tup [.int i, .int j]) => (i, j)
    | _ => (0, 0)
  | _ => (0, 0)
theorem key_tie {A : Hp} {v : V} {t : Int × Int} (h : DR A v (tieD t)) : keyP A v = t ∧ ∃ a, v = .ref a ∧ A a = some (.tup [.int t.1, .int t.2]) := by
  obtain ⟨a, xs, rfl, ha, hx⟩ := DR.tup_inv h
  cases hx with | cons x y =>
  cases y with | cons z y =>
  cases y
  cases x.int_inv
  cases z.int_inv
  refine ⟨?_, a, rfl, ha⟩
  show (match A a with | some (.tup [.int i, .int j]) => (i, j) | _ => (0, 0)) = t
  rw [ha]
theorem DRs.mem {H : Hp} : ∀ {ds : List PyData} {vs : List V} {v : V}, DRs H vs ds → v ∈ vs → ∃ d ∈ ds, DR H v d
  | [], _, _, h, e => by cases h; simp at e
  | d :: ds, _, v, h, e => by
    cases h with | cons a b =>
    rcases List.mem_cons.mp e with rfl | e
    · exact ⟨d, by simp, a⟩
    · obtain ⟨d', h1, h2⟩ := DRs.mem b e
      exact ⟨d', by simp [h1], h2⟩
section
variable {Γ : Ga} {k : Gp → Ga → Prop} {ta tb te : TE} {K : PySem.W.Frag}
theorem ck_sortI {ns : List Int} (hk : ∀ ns' : List Int, ns'.Perm ns → ns'.Pairwise (· ≤ ·) → k (own (ns'.map .int)) Γ) : CbK (rSortA K) [.list (ns.map .int)] k Γ := ck_L cb_sortI fun es ⟨ts', e, h1, h2⟩ => by subst e; exact hk ts' h1 h2
end
theorem LexLt.le {a b : Int × Int} (h : LexLt a b) : LexLe a b := by
  unfold LexLt at h
  unfold LexLe
  omega
end G
namespace G
open PySem L2
/-- what a slot owns is handed on -/
theorem we_varM {Γ : Ga} {k : Gp → Ga → Prop} {i : Nat} {g : Gp} (h : Γ[i]? = some (some g)) (c : k g (Γ.set i none)) : WE (tVar i) Γ k := fun ω σ H S Q f => by
  obtain ⟨v, e, p⟩ := S.2 i _ h
  have s0 : Same (vw ω H 0) (vw (give ω (i + 3) 2) H 0) := give_ne (by omega) (by omega)
  refine ⟨v, e, f v g _ (give ω (i + 3) 2) H c ⟨by rw [List.length_set]; exact S.1, fun j g' hj => ?_⟩ (g.mono s0 give_c p) ⟨s0, give_ne (by omega) (by omega)⟩⟩
  rw [set_eq] at hj
  by_cases hij : i = j
  · rw [if_pos hij] at hj
    split at hj <;> cases hj
  · rw [if_neg hij] at hj
    obtain ⟨w, e', p'⟩ := S.2 j _ hj
    exact ⟨w, e', g'.mono s0 (give_ne (by omega) (by omega)) p'⟩
theorem cpow_of {i j : Int} (h0 : 0 ≤ j) (h1 : j ≤ 1000000) (h2 : i.natAbs < 2 ^ 64) : CPow i j := ⟨h0, h1, h2⟩
end G
namespace G
open PySem L2
theorem nd0 : ([] : List Nat).Nodup := List.nodup_nil
theorem nd1 {i : Nat} : [i].Nodup := by simp
theorem erase_perm {α : Type} : ∀ {l : List α} {j : Nat} {d : α}, l[j]? = some d → (d :: l.eraseIdx j).Perm l
  | [], _, _, h => by simp at h
  | a :: l, 0, d, h => by
    simp at h
    subst h
    exact List.Perm.refl _
  | a :: l, j + 1, d, h => by
    have ih := erase_perm (l := l) (j := j) (d := d) (by simpa using h)
    rw [List.eraseIdx_cons_succ]
    exact (List.Perm.swap a d _).trans (ih.cons a)
theorem perm_pick {α : Type} {found left ds : List α} {d : α} {j : Nat} (hp : (found ++ left).Perm ds) (hj : left[j]? = some d) : (found ++ [d] ++ left.eraseIdx j).Perm ds := by
  refine List.Perm.trans ?_ hp
  rw [List.append_assoc]
  refine List.Perm.append_left found ?_
  exact erase_perm hj
end G
namespace G
open PySem L2
theorem ws_cut {P : Nat → Bool} {t u : TS} {Γ : Ga} {D : Pe} (M : Ga → Prop) (h1 : WS P t Γ (D.to M)) (h2 : ∀ Γ', M Γ' → WS P u Γ' D) : WS P (tSeq t u) Γ D := fun ω σ H S E m =>
  h1 ω σ H S { E with nx := u E } ⟨fun Γ' ω' σ' H' hk S' f p => h2 Γ' hk ω' σ' H' S' E (m.after f p), m.rt, m.bk, m.ct⟩
theorem urn_le {m m' : Nat} (h : m' ≤ m) : Ent (urn m) (urn m') := fun A v R ⟨x, z, p⟩ => ⟨x, ⟨z.1, by have := z.2; omega⟩, p⟩
end G
namespace G
open PySem L2
theorem wa_slotU {Γ : Ga} {ka : List Arg → Ga → Prop} {tr : TA} {i m : Nat} (hi : Γ[i]? = some (some (urn m))) (h : WA tr Γ fun as Γ2 => ka (.s i :: as) Γ2) : WA (tCons (tVar i) tr) Γ ka := wa_slot ⟨_, hi⟩ h
end G
namespace G
open PySem L2
theorem ws_seqA {P : Nat → Bool} {te : TE} {g : TG} {u : TS} {Γ : Ga} {D : Pe} (h : WS P (tAsg te g) Γ (D.to fun Γ' => WS P u Γ' D)) : WS P (tSeq (tAsg te g) u) Γ D := ws_seq h
theorem ws_seqD {P : Nat → Bool} {te : TE} {u : TS} {Γ : Ga} {D : Pe} (h : WS P (tDrop te) Γ (D.to fun Γ' => WS P u Γ' D)) : WS P (tSeq (tDrop te) u) Γ D := ws_seq h
end G
namespace G
open PySem L2
section
variable {K : PySem.W.Frag} {Γ : Ga} {k : Gp → Ga → Prop} {ta tb : TE}
theorem we_inS {i : Nat} {ds0 : List PyData} (hi : Γ[i]? = some (some (own ds0))) (h : WQ ta Γ fun q Γ1 => ∃ d, q = dP d ∧ ∃ ds, Γ1[i]? = some (some (own ds)) ∧ (SeqAt.shaped d = true ∧ SeqAt.shaped (.list ds) = true) ∧ k (dat (.bool (ds.any fun z => PyData.eqv z d))) Γ1) : WE (tOp (rInD K) ta (tVar i)) Γ k :=
  we_opR (h.imp fun q Γ1 ⟨d, e, ds, h1, h2, h3⟩ => ⟨d, e, ds, _, h1, od_in h2.1 h2.2, h3⟩)
theorem we_notInS {i : Nat} {ds0 : List PyData} (hi : Γ[i]? = some (some (own ds0))) (h : WQ ta Γ fun q Γ1 => ∃ d, q = dP d ∧ ∃ ds, Γ1[i]? = some (some (own ds)) ∧ (SeqAt.shaped d = true ∧ SeqAt.shaped (.list ds) = true) ∧ k (dat (.bool (!ds.any fun z => PyData.eqv z d))) Γ1) : WE (tOp (rNotInD K) ta (tVar i)) Γ k :=
  we_opR (h.imp fun q Γ1 ⟨d, e, ds, h1, h2, h3⟩ => ⟨d, e, ds, _, h1, od_notIn h2.1 h2.2, h3⟩)
theorem we_eqS {i : Nat} {ds : List PyData} (hi : Γ[i]? = some (some (own ds))) (h : WQ tb Γ fun q Γ1 => ∃ d, q = dP d ∧ Γ1[i]? = some (some (own ds)) ∧ (SeqAt.shaped (.list ds) = true ∧ SeqAt.shaped d = true) ∧ k (dat (.bool (PyData.eqv (.list ds) d))) Γ1) : WE (tOp (rEqD K) (tVar i) tb) Γ k :=
  we_opL hi (h.imp fun q Γ1 ⟨d, e, h1, h2, h3⟩ => ⟨d, e, _, h1, od_eq h2.1 h2.2, h3⟩)
theorem we_neS {i : Nat} {ds : List PyData} (hi : Γ[i]? = some (some (own ds))) (h : WQ tb Γ fun q Γ1 => ∃ d, q = dP d ∧ Γ1[i]? = some (some (own ds)) ∧ (SeqAt.shaped (.list ds) = true ∧ SeqAt.shaped d = true) ∧ k (dat (.bool (!PyData.eqv (.list ds) d))) Γ1) : WE (tOp (rNeD K) (tVar i) tb) Γ k :=
  we_opL hi (h.imp fun q Γ1 ⟨d, e, h1, h2, h3⟩ => ⟨d, e, _, h1, od_ne h2.1 h2.2, h3⟩)
end
end G

namespace G
open PySem L2
theorem un65 {k : Nat} {A : Around} (hr : Room k A) : A.units + 65 < cLine := by have := hr.un; omega
theorem bt_len : bootBuiltins "len" = some (.builtin "len") := by decide +kernel
theorem bt_max : bootBuiltins "max" = some (.builtin "max") := by decide +kernel
theorem bt_min : bootBuiltins "min" = some (.builtin "min") := by decide +kernel
theorem bt_sorted : bootBuiltins "sorted" = some (.builtin "sorted") := by decide +kernel
theorem bt_all : bootBuiltins "all" = some (.builtin "all") := by decide +kernel
theorem bt_isinstance : bootBuiltins "isinstance" = some (.builtin "isinstance") := by decide +kernel
theorem bt_int : bootBuiltins "int" = some (.type "int") := by decide +kernel
theorem bt_bool : bootBuiltins "bool" = some (.type "bool") := by decide +kernel
theorem bt_list : bootBuiltins "list" = some (.type "list") := by decide +kernel
/-! ### isinstance, all -/
abbrev rIsiA (K : PySem.W.Frag) : List V → Hp → VK → Prop := rIsi K
abbrev rAllA (K : PySem.W.Frag) : List V → Hp → VK → Prop := rAll K
theorem c_isi {X : Cx} : CallR X (.builtin "isinstance") (rIsiA X.K) := call_isi
theorem c_all {X : Cx} (hc : X.calm = true) : CallR X (.builtin "all") (rAllA X.K) := cr_all hc
def tyD : PyData → Option String
  | .none => some "NoneType"
  | .bool _ => some "bool"
  | .int _ => some "int"
  | .str _ => some "str"
  | .list _ => some "list"
  | .tuple _ => some "tuple"
  | .dict _ => some "dict"
theorem tyD_ok {K : PySem.W.Frag} {H : Hp} {v : V} {d : PyData} {n : String} (h : DR H v d) (e : tyD d = some n) : TyX K H v (.type n) := by
  cases h with
  | non => cases e; exact .base .non
  | bl b => cases e; exact .base (.bl b)
  | int i => cases e; exact .base (.int i)
  | str x => cases e; exact .base (.str x)
  | lst a b => cases e; exact .base (.lst a)
  | tup a b => cases e; exact .base (.tup a)
  | dic a => cases e; exact .base (.dK a)
section
variable {K : PySem.W.Frag} {Γ : Ga} {k : Gp → Ga → Prop} {ta tb te : TE} {tr : TA}
theorem kb_ii : kitB "int" "int" = some true := by decide +kernel
theorem kb_bi : kitB "bool" "int" = some true := by decide +kernel
theorem kb_ni : kitB "NoneType" "int" = some false := by decide +kernel
theorem kb_si : kitB "str" "int" = some false := by decide +kernel
theorem kb_li : kitB "list" "int" = some false := by decide +kernel
theorem kb_ti : kitB "tuple" "int" = some false := by decide +kernel
theorem kb_bb : kitB "bool" "bool" = some true := by decide +kernel
theorem kb_nl : kitB "NoneType" "list" = some false := by decide +kernel
theorem kb_bl : kitB "bool" "list" = some false := by decide +kernel
theorem kb_il : kitB "int" "list" = some false := by decide +kernel
theorem kb_sl : kitB "str" "list" = some false := by decide +kernel
theorem kb_ll : kitB "list" "list" = some true := by decide +kernel
theorem kb_tl : kitB "tuple" "list" = some false := by decide +kernel
theorem kb_nt : kitB "NoneType" "tuple" = some false := by decide +kernel
theorem kb_bt : kitB "bool" "tuple" = some false := by decide +kernel
theorem kb_it : kitB "int" "tuple" = some false := by decide +kernel
theorem kb_st : kitB "str" "tuple" = some false := by decide +kernel
theorem kb_lt : kitB "list" "tuple" = some false := by decide +kernel
theorem kb_tt : kitB "tuple" "tuple" = some true := by decide +kernel
def isInt : PyData → Bool
  | .int _ => true
  | .bool _ => true
  | _ => false
def isBl : PyData → Bool
  | .bool _ => true
  | _ => false
def isLst : PyData → Bool
  | .list _ => true
  | _ => false
def isTup : PyData → Bool
  | .tuple _ => true
  | _ => false
theorem kb_dint : kitB "dict" "int" = some false := by decide +kernel
theorem isi_int : ∀ {d : PyData}, (tyD d).isSome = true → ∃ n, tyD d = some n ∧ kitB n "int" = some (isInt d)
  | .none, _ => ⟨_, rfl, kb_ni⟩
  | .bool _, _ => ⟨_, rfl, kb_bi⟩
  | .int _, _ => ⟨_, rfl, kb_ii⟩
  | .str _, _ => ⟨_, rfl, kb_si⟩
  | .list _, _ => ⟨_, rfl, kb_li⟩
  | .tuple _, _ => ⟨_, rfl, kb_ti⟩
  | .dict _, _ => ⟨_, rfl, kb_dint⟩
theorem kb_dlist : kitB "dict" "list" = some false := by decide +kernel
theorem isi_list : ∀ {d : PyData}, (tyD d).isSome = true → ∃ n, tyD d = some n ∧ kitB n "list" = some (isLst d)
  | .none, _ => ⟨_, rfl, kb_nl⟩
  | .bool _, _ => ⟨_, rfl, kb_bl⟩
  | .int _, _ => ⟨_, rfl, kb_il⟩
  | .str _, _ => ⟨_, rfl, kb_sl⟩
  | .list _, _ => ⟨_, rfl, kb_ll⟩
  | .tuple _, _ => ⟨_, rfl, kb_tl⟩
  | .dict _, _ => ⟨_, rfl, kb_dlist⟩
theorem kb_dtuple : kitB "dict" "tuple" = some false := by decide +kernel
theorem isi_tuple : ∀ {d : PyData}, (tyD d).isSome = true → ∃ n, tyD d = some n ∧ kitB n "tuple" = some (isTup d)
  | .none, _ => ⟨_, rfl, kb_nt⟩
  | .bool _, _ => ⟨_, rfl, kb_bt⟩
  | .int _, _ => ⟨_, rfl, kb_it⟩
  | .str _, _ => ⟨_, rfl, kb_st⟩
  | .list _, _ => ⟨_, rfl, kb_lt⟩
  | .tuple _, _ => ⟨_, rfl, kb_tt⟩
  | .dict _, _ => ⟨_, rfl, kb_dtuple⟩
theorem DR.ty {H : Hp} {v : V} {d : PyData} (h : DR H v d) : (tyD d).isSome = true := by cases h <;> rfl
/-- isinstance(x, int), (.., list), (.., tuple) of any data: the answer -/
theorem we_isInt (h : WQ ta Γ fun q Γ1 => ∃ d, q = dP d ∧ k (dat (.bool (isInt d))) Γ1) : WE (tCB (rIsiA K) (tCons ta (tCons (tC (.ty "int")) tNil))) Γ k := fun ω σ H S Q f => h ω σ H S _ fun v q Γ1 ω1 H1 ⟨d, e, hk⟩ S1 p f1 => by
  subst e
  obtain ⟨n, e1, e2⟩ := isi_int (DR.ty p)
  exact ⟨v, .ty "int", .type n, .type "int", _, rfl, .ty "int", tyD_ok (DR.mono (fun _ _ z => vw_H z) d p) e1, kit_ty e2, f _ _ Γ1 ω1 H1 hk S1 (DR.bl _) f1⟩
theorem we_isLst (h : WQ ta Γ fun q Γ1 => ∃ d, q = dP d ∧ k (dat (.bool (isLst d))) Γ1) : WE (tCB (rIsiA K) (tCons ta (tCons (tC (.ty "list")) tNil))) Γ k := fun ω σ H S Q f => h ω σ H S _ fun v q Γ1 ω1 H1 ⟨d, e, hk⟩ S1 p f1 => by
  subst e
  obtain ⟨n, e1, e2⟩ := isi_list (DR.ty p)
  exact ⟨v, .ty "list", .type n, .type "list", _, rfl, .ty "list", tyD_ok (DR.mono (fun _ _ z => vw_H z) d p) e1, kit_ty e2, f _ _ Γ1 ω1 H1 hk S1 (DR.bl _) f1⟩
theorem we_isTup (h : WQ ta Γ fun q Γ1 => ∃ d, q = dP d ∧ k (dat (.bool (isTup d))) Γ1) : WE (tCB (rIsiA K) (tCons ta (tCons (tC (.ty "tuple")) tNil))) Γ k := fun ω σ H S Q f => h ω σ H S _ fun v q Γ1 ω1 H1 ⟨d, e, hk⟩ S1 p f1 => by
  subst e
  obtain ⟨n, e1, e2⟩ := isi_tuple (DR.ty p)
  exact ⟨v, .ty "tuple", .type n, .type "tuple", _, rfl, .ty "tuple", tyD_ok (DR.mono (fun _ _ z => vw_H z) d p) e1, kit_ty e2, f _ _ Γ1 ω1 H1 hk S1 (DR.bl _) f1⟩
theorem DRs.bools : ∀ {bs : List Bool} {vs : List V}, DRs H vs (bs.map PyData.bool) → vs = bs.map V.bl
  | [], _, h => by cases h; rfl
  | n :: ns, _, h => by
    cases h with | cons a b => cases a; rw [DRs.bools b]; rfl
theorem ck_all {bs : List Bool} (hk : k (dat (.bool (bs.all id))) Γ) : CbK (rAllA K) [.list (bs.map .bool)] k Γ := ck_of (q := dP (.bool (bs.all id))) (fun A H vs s h Q f => by
  cases h with | cons x y =>
  cases y
  obtain ⟨a, xs, rfl, ha, hd⟩ := x.lst_inv
  rw [hd.bools] at ha
  exact ⟨a, bs, rfl, SqL.of (s _ _ ha), f _ (DR.bl _)⟩) hk
end
end G

/-! ### len(o) by an own __len__ -/
namespace GLen
open PySem PySem.Spec PyProof.Rows L2 PySem.Builtin
end GLen
namespace G
open PySem L2
/-- len of an instance of the class at C, by its own def -/
def rLenOwn (C : Addr) (sp : Sp) (E : XK) : List V → Hp → VK → Prop := fun xs H Q => ∃ a dx fs, xs = [V.ref a] ∧ H a = some (.ins C dx fs) ∧ sp [.ref a] H (fun z H' => ∃ n : Int, z = .int n ∧ 0 ≤ n ∧ n < 2 ^ 63 ∧ Q (.int n) H') E
/-! ### instances: their attributes are data -/
inductive Fds (A : Hp) : List (Str × V) → List (Str × PyData) → Prop
  | nil : Fds A [] []
  | cons {f : Str} {v : V} {d : PyData} {fs : List (Str × V)} {ds : List (Str × PyData)} : DR A v d → Fds A fs ds → Fds A ((f, v) :: fs) ((f, d) :: ds)
theorem Fds.mono {A A' : Hp} (s : Same A A') : ∀ {fs : List (Str × V)} {ds : List (Str × PyData)}, Fds A fs ds → Fds A' fs ds
  | _, _, .nil => .nil
  | _, _, .cons a b => .cons (a.mono s) (Fds.mono s b)
theorem Fds.len {A : Hp} : ∀ {fs : List (Str × V)} {ds : List (Str × PyData)}, Fds A fs ds → fs.length = ds.length
  | _, _, .nil => rfl
  | _, _, .cons _ b => congrArg Nat.succ (Fds.len b)
def lookD (f : Str) : List (Str × PyData) → Option PyData
  | [] => none
  | (g, d) :: r => if g = f then some d else lookD f r
def putD (f : Str) (d : PyData) : List (Str × PyData) → List (Str × PyData)
  | [] => [(f, d)]
  | (g, e) :: r => if g = f then (g, d) :: r else (g, e) :: putD f d r
theorem Fds.none {A : Hp} {f : Str} : ∀ {fs : List (Str × V)} {ds : List (Str × PyData)}, Fds A fs ds → lookD f ds = none → fs.lookup f = none
  | _, _, .nil, _ => rfl
  | _, _, .cons (f := g) (v := v) a b, h => by
    unfold lookD at h
    by_cases e : g = f
    · rw [if_pos e] at h
      cases h
    · rw [if_neg e] at h
      rw [List.lookup_cons, beq_eq_false_iff_ne.mpr (Ne.symm e)]
      exact Fds.none b h
theorem Fds.put {A : Hp} {f : Str} {v : V} {d : PyData} : ∀ {fs : List (Str × V)} {ds : List (Str × PyData)}, Fds A fs ds → DR A v d → Fds A (putF f v fs) (putD f d ds)
  | _, _, .nil, h => .cons h .nil
  | _, _, .cons (f := g) (v := u) (d := e) (fs := fs) (ds := ds) a b, h => by
    show Fds A (if g = f then (g, v) :: fs else (g, u) :: putF f v fs) (if g = f then (g, d) :: ds else (g, e) :: putD f d ds)
    by_cases e : g = f
    · rw [if_pos e, if_pos e]
      exact .cons h b
    · rw [if_neg e, if_neg e]
      exact .cons a (Fds.put b h)
def objP (C : Addr) (ds : List (Str × PyData)) : Per := ⟨fun A v => ∃ a dx fs, v = .ref a ∧ A a = some (.ins C dx fs) ∧ Fds A fs ds, fun s ⟨a, dx, fs, e, h, t⟩ => ⟨a, dx, fs, e, s _ _ h, t.mono s⟩⟩
section
variable {K : PySem.W.Frag} {P : Nat → Bool} {Γ : Ga} {D : Pe} {k : Gp → Ga → Prop} {te tv : TE} {ta : TA} {C : Addr} {ds : List (Str × PyData)} {f m : Str} {n : Nat} {F : Fw} {E : XK}
/-- a call with what stands still alone -/
theorem call_per {Γ1 : Ga} {ω1 : Col} {σ : L2.St} {H1 : Hp} {qs : List Per} {vs : List V} {Q : VK} {kx : Value → Prop} (S1 : Sta Γ1 ω1 σ H1) (hq : ∀ (j : Nat) (q : Per) (v : V), qs[j]? = some q → vs[j]? = some v → q.q (vw ω1 H1 0) v) (hl : vs.length = qs.length) (hn : qs.length = n)
    (hF : F (qs.map per) (fun g _ => k g Γ1) fun c _ => kx c)
    (c : ∀ v g ω' H', k g Γ1 → Sta Γ1 ω' σ H' → Gp.p g (vw ω' H' 0) v (vw ω' H' 2) → Fr ω1 ω' H1 H' → Q v H')
    (cx : ∀ cl ω' H', kx cl → Sta Γ1 ω' σ H' → Fr ω1 ω' H1 H' → E cl none H') : SpG n F vs H1 Q E := by
  have hns : ∀ qs : List Per, slots (qs.map Arg.q) = [] := fun qs => by
    induction qs with
    | nil => rfl
    | cons q qs ih => exact ih
  have hgs : ∀ qs : List Per, gsOf Γ1 (qs.map Arg.q) = qs.map per := fun qs => by
    induction qs with
    | nil => rfl
    | cons q qs ih => exact congrArg (per q :: ·) ih
  have hbk : ∀ (qs : List Per) (Γp : Ga), back Γ1 (qs.map Arg.q) Γp = Γ1 := fun qs => by
    induction qs with
    | nil => intro Γp; rfl
    | cons q qs ih => intro Γp; cases Γp with
      | nil => exact ih []
      | cons o r => exact ih r
  have hok : ∀ (qs : List Per) (vs : List V), vs.length = qs.length → (∀ (j : Nat) (q : Per) (v : V), qs[j]? = some q → vs[j]? = some v → q.q (vw ω1 H1 0) v) → ArgsOk σ (vw ω1 H1 0) (qs.map Arg.q) vs := fun qs => by
    induction qs with
    | nil => intro vs hl _; rw [List.eq_nil_of_length_eq_zero hl]; exact .nil
    | cons q qs ih => intro vs hl h; cases vs with
      | nil => cases hl
      | cons v vs => exact .cons (h 0 q v rfl rfl) (ih vs (Nat.succ.inj hl) fun j q' v' a b => h (j + 1) q' v' (by simpa using a) (by simpa using b))
  refine call_core (as := qs.map Arg.q) (k := fun g Γ' => Γ' = Γ1 ∧ k g Γ1) (kx := fun cl Γ' => Γ' = Γ1 ∧ kx cl) S1 (hok qs vs hl hq) (by rw [List.length_map]; exact hn) (by rw [hns]; exact List.nodup_nil) ?_ (fun v g Γ' ω' H' ⟨e, hk⟩ S' p f => ?_) fun cl Γ' ω' H' ⟨e, hx⟩ S' f => ?_
  · rw [hgs]
    have e1 : (fun g Γp => back Γ1 (qs.map Arg.q) Γp = Γ1 ∧ k g Γ1) = fun g _ => k g Γ1 := by
      funext g Γp
      rw [hbk]
      exact propext ⟨fun h => h.2, fun h => ⟨rfl, h⟩⟩
    have e2 : (fun cl Γp => back Γ1 (qs.map Arg.q) Γp = Γ1 ∧ kx cl) = fun cl _ => kx cl := by
      funext g Γp
      rw [hbk]
      exact propext ⟨fun h => h.2, fun h => ⟨rfl, h⟩⟩
    rw [e1, e2]
    exact hF
  · subst e
    exact c v g ω' H' hk S' p f
  · subst e
    exact cx cl ω' H' hx S' f
/-- len(o) -/
theorem we_lenO {i : Nat} (h : Γ[i]? = some (some (per (objP C ds)))) (hF : F [per (objP C ds)] (fun g _ => ∃ n : Int, g = dat (.int n) ∧ 0 ≤ n ∧ n < 2 ^ 63 ∧ k (dat (.int n)) Γ) fun _ _ => False) : WE (tCB (rLenOwn C (SpG 1 F) E) (tCons (tVar i) tNil)) Γ k := fun ω σ H S Q q => by
  obtain ⟨v, e, hp⟩ := S.2 i _ h
  have hp' := hp
  obtain ⟨a, dx, fs, rfl, ha, hf⟩ := hp'
  refine ⟨_, e, a, dx, fs, rfl, vw_H ha, call_per (qs := [objP C ds]) (k := fun g _ => ∃ n : Int, g = dat (.int n) ∧ 0 ≤ n ∧ n < 2 ^ 63 ∧ k (dat (.int n)) Γ) (kx := fun _ => False) S (fun j q v h1 h2 => ?_) rfl rfl hF (fun v g ω' H' ⟨n, eg, h0, h1, hk⟩ S' p f => ?_) fun _ _ _ hx => hx.elim⟩
  · match j, h1, h2 with
    | 0, h1, h2 =>
      cases h1
      cases h2
      exact hp
    | j + 1, h1, _ => simp at h1
  · subst eg
    cases DR.int_inv p
    exact ⟨n, rfl, h0, h1, q _ _ Γ ω' H' hk S' (DR.int n) f⟩
/-- o.f, a property -/
theorem we_prop {i : Nat} (h : Γ[i]? = some (some (per (objP C ds)))) (hF : F [per (objP C ds)] (fun g _ => k g Γ) fun _ _ => False) : WE (tProp C (SpG 1 F) [] E (tVar i)) Γ k := fun ω σ H S Q q => by
  obtain ⟨v, e, hp⟩ := S.2 i _ h
  have hp' := hp
  obtain ⟨a, dx, fs, rfl, ha, hf⟩ := hp'
  refine ⟨_, e, a, dx, fs, rfl, vw_H ha, call_per (qs := [objP C ds]) (k := k) (kx := fun _ => False) S (fun j q v h1 h2 => ?_) rfl rfl hF (fun v g ω' H' hk S' p f => q v g Γ ω' H' hk S' p f) fun _ _ _ hx => hx.elim⟩
  match j, h1, h2 with
  | 0, h1, h2 =>
    cases h1
    cases h2
    exact hp
  | j + 1, h1, _ => simp at h1
end
end G

/-! ### len(set(xs)), xs a list of tuples of ints -/
namespace GSet
open PySem PySem.Spec PyProof.Rows L2
def tLenSetT (K : PySem.W.Frag) (ta : TE) : TE := fun σ H Q => ta σ H fun x H1 => ∃ (l : Addr) (ks : List (Addr × List Int)), x = .ref l ∧ SqL K H1 l (ks.map fun p => V.ref p.1) ∧ (∀ p ∈ ks, SqT K H1 p.1 (p.2.map V.int)) ∧ ks.length < 64 ∧
  ∀ L : List (Addr × List Int), (∀ p ∈ L, p ∈ ks) → (∀ p ∈ ks, p.2 ∈ L.map (·.2)) → (L.map (·.2)).Nodup → Q (.int (L.length : Nat)) H1
end GSet

namespace G
open PySem L2
section
variable {K : PySem.W.Frag} {P : Nat → Bool} {Γ : Ga} {D : Pe} {k : Gp → Ga → Prop} {ta tb te tl : TE} {tr : TA} {C : Addr} {n : Nat} {F : Fw} {E : XK}
theorem ties_keys {A : Hp} : ∀ {ts : List (Int × Int)} {vs : List V}, DRs A vs (ts.map tieD) → ∃ ks : List (Addr × List Int), vs = ks.map (fun p => V.ref p.1) ∧ ks.map (·.2) = ts.map (fun t => [t.1, t.2]) ∧ ∀ p ∈ ks, A p.1 = some (.tup (p.2.map V.int))
  | [], _, h => by cases h; exact ⟨[], rfl, rfl, by simp⟩
  | t :: ts, _, h => by
    cases h with | cons x y =>
    obtain ⟨_, a, rfl, ha⟩ := key_tie x
    obtain ⟨ks, rfl, e, hk⟩ := ties_keys y
    refine ⟨(a, [t.1, t.2]) :: ks, rfl, by simp [e], fun p hp => ?_⟩
    rcases List.mem_cons.mp hp with e | hp
    · rw [e]; exact ha
    · exact hk p hp
theorem nodup_len : ∀ (l D : List (List Int)), l.Nodup → (∀ x ∈ l, x ∈ D) → l.length ≤ D.length
  | [], D, _, _ => Nat.zero_le _
  | a :: l, D, h, hs => by
    have ha : a ∈ D := hs a (by simp)
    obtain ⟨h1, h2⟩ := List.nodup_cons.mp h
    have := nodup_len l (D.erase a) h2 fun x hx => (List.mem_erase_of_ne (fun (e : x = a) => h1 (e ▸ hx))).mpr (hs x (by simp [hx]))
    rw [List.length_erase_of_mem ha] at this
    have hp : 0 < D.length := List.length_pos_of_mem ha
    simp only [List.length_cons]
    omega
/-- len(set(ties)): as many as there are different ones -/
theorem we_lenSetT (h : WQ te Γ fun q Γ1 => ∃ ts : List (Int × Int), q = dP (.list (ts.map tieD)) ∧ ts.length < 64 ∧ ∀ m : Nat, m ≤ ts.length → (m = ts.length ↔ ts.Nodup) → k (dat (.int m)) Γ1) : WE (GSet.tLenSetT K te) Γ k := fun ω σ H S Q f => h ω σ H S _ fun v q Γ1 ω1 H1 ⟨ts, e, hl, hk⟩ S1 p f1 => by
  subst e
  obtain ⟨a, xs, rfl, ha, hd⟩ := DR.lst_inv p
  obtain ⟨ks, rfl, e2, hks⟩ := ties_keys hd
  have hlen : ks.length = ts.length := by
    have := congrArg List.length e2
    simpa using this
  refine ⟨a, ks, rfl, SqL.of (vw_H ha), fun p hp => SqT.of (vw_H (hks p hp)), by omega, fun L h1 h2 h3 => ?_⟩
  have inj : ∀ {s t : Int × Int}, [s.1, s.2] = [t.1, t.2] → s = t := fun {s t} e => by
    simp at e
    exact Prod.ext e.1 e.2
  have hsub : ∀ x ∈ L.map (·.2), x ∈ ts.map (fun t => [t.1, t.2]) := fun x hx => by
    obtain ⟨p, hp, rfl⟩ := List.mem_map.mp hx
    rw [← e2]
    exact List.mem_map.mpr ⟨p, h1 p hp, rfl⟩
  have hsup : ∀ x ∈ ts.map (fun t => [t.1, t.2]), x ∈ L.map (·.2) := fun x hx => by
    rw [← e2] at hx
    obtain ⟨p, hp, rfl⟩ := List.mem_map.mp hx
    exact h2 p hp
  have hle := nodup_len _ _ h3 hsub
  rw [List.length_map, List.length_map] at hle
  refine f _ _ Γ1 ω1 H1 (hk L.length hle ⟨fun e => ?_, fun hn => ?_⟩) S1 (DR.int _) f1
  · -- as many: no two alike
    refine Decidable.byContradiction fun hn => ?_
    have key : ∀ us : List (Int × Int), ¬ us.Nodup → ∃ us' : List (Int × Int), us'.length < us.length ∧ ∀ x ∈ us, x ∈ us' := fun us => by
      induction us with
      | nil => intro h; exact absurd List.nodup_nil h
      | cons a us ih =>
        intro h
        by_cases hm : a ∈ us
        · exact ⟨us, by simp, fun x hx => by
            rcases List.mem_cons.mp hx with e | hx
            · rw [e]; exact hm
            · exact hx⟩
        · have : ¬ us.Nodup := fun z => h (List.nodup_cons.mpr ⟨hm, z⟩)
          obtain ⟨us', h1, h2⟩ := ih this
          exact ⟨a :: us', by simpa using h1, fun x hx => by
            rcases List.mem_cons.mp hx with e | hx
            · simp [e]
            · simp [h2 x hx]⟩
    obtain ⟨us', h4, h5⟩ := key ts hn
    have := nodup_len _ (us'.map fun t => [t.1, t.2]) h3 fun x hx => by
      obtain ⟨t, ht, rfl⟩ := List.mem_map.mp (hsub x hx)
      exact List.mem_map.mpr ⟨t, h5 t ht, rfl⟩
    rw [List.length_map, List.length_map] at this
    omega
  · have := nodup_len (ts.map fun t => [t.1, t.2]) (L.map (·.2)) (List.Pairwise.map _ (fun a b hab e => hab (inj e)) hn) hsup
    rw [List.length_map, List.length_map] at this
    omega
/-! ### slices of lists -/
def cutD {α : Type} (xs : List α) (lo hi : Option Int) : List α := (xs.drop (HT.sIx xs.length 0 lo)).take (HT.sIx xs.length xs.length hi - HT.sIx xs.length 0 lo)
def WO (to : TO) (Γ : Ga) (k : Option Int → Ga → Prop) : Prop := ∀ ω σ H, Sta Γ ω σ H → ∀ Q : Option Int → Hp → Prop, (∀ o Γ' ω' H', k o Γ' → Sta Γ' ω' σ H' → Fr ω ω' H H' → Q o H') → to σ H Q
theorem wo_none {ko : Option Int → Ga → Prop} (h : ko none Γ) : WO tNoPart Γ ko := fun ω σ H S Q f => f none Γ ω H h S Fr.refl
theorem wo_some {ko : Option Int → Ga → Prop} (h : WQ te Γ fun q Γ1 => ∃ i : Int, q = dP (.int i) ∧ ko (some i) Γ1) : WO (tPart te) Γ ko := fun ω σ H S Q f => h ω σ H S _ fun v q Γ1 ω1 H1 ⟨i, e, hk⟩ S1 p f1 => by
  subst e
  exact ⟨i, DR.int_inv p, f (some i) Γ1 ω1 H1 hk S1 f1⟩
theorem we_slice {tlo thi : TO} (h : WQ te Γ fun q Γ1 => ∃ ds, q = dP (.list ds) ∧ WO tlo Γ1 fun lo Γ2 => WO thi Γ2 fun hi Γ3 => k (own (cutD ds lo hi)) Γ3) : WE (tSl (rSlL K) te tlo thi) Γ k := fun ω σ H S Q f => h ω σ H S _ fun v q Γ1 ω1 H1 ⟨ds, e, h1⟩ S1 p f1 => by
  subst e
  obtain ⟨a, xs, rfl, ha, hd⟩ := DR.lst_inv p
  refine h1 ω1 σ H1 S1 _ fun lo Γ2 ω2 H2 h2 S2 f2 => h2 ω2 σ H2 S2 _ fun hi Γ3 ω3 H3 h3 S3 f3 => ?_
  have hA := (f2.trans f3).1 _ _ ha
  refine ⟨a, xs, rfl, SqL.of (vw_H hA), fun l hl => f _ _ Γ3 (paint ω3 l 2) _ h3 (S3.new 2 hl) ⟨l, _, rfl, paint_at, ?_⟩ ((f1.trans (f2.trans f3)).trans (paint_fr hl))⟩
  have e : cutV xs lo hi = (xs.drop (HT.sIx ds.length 0 lo)).take (HT.sIx ds.length ds.length hi - HT.sIx ds.length 0 lo) := by
    unfold cutV
    rw [hd.length]
  rw [e]
  exact (((hd.mono (f2.trans f3).1).drop _).take _).mono (paint_same hl 0)
/-! ### zip of two lists -/
/-! ### C(..) -/
def qsOf : List Arg → List Per
  | [] => []
  | .q q :: as => q :: qsOf as
  | .s _ :: as => qsOf as
end
end G

namespace G
open PySem L2
/-! ### statements that may raise: Ex is the def's own wish, kx what is to hold where one of its own is raised -/
def XM (P : Nat → Bool) (Ex : XK) (kx : Value → Ga → Prop) (ω : Col) (σ : L2.St) (H : Hp) : Prop := ∀ c Γ' ω' σ' H', kx c Γ' → Sta Γ' ω' σ' H' → Fr ω ω' H H' → Pin P σ σ' → Ex c none H'
theorem XM.after {P : Nat → Bool} {Ex : XK} {kx : Value → Ga → Prop} {ω ω1 : Col} {σ σ1 : L2.St} {H H1 : Hp} (m : XM P Ex kx ω σ H) (f : Fr ω ω1 H H1) (p : Pin P σ σ1) : XM P Ex kx ω1 σ1 H1 :=
  fun c Γ' ω' σ' H' h S g q => m c Γ' ω' σ' H' h S (f.trans g) (p.trans q)
def WSX (P : Nat → Bool) (t : TS) (Ex : XK) (Γ : Ga) (D : Pe) (kx : Value → Ga → Prop) : Prop := ∀ ω σ H, Sta Γ ω σ H → XM P Ex kx ω σ H → ∀ E : Ends, Met P D ω σ H E → t E σ H
section
variable {K : PySem.W.Frag} {P : Nat → Bool} {Γ : Ga} {D : Pe} {Ex : XK} {kx : Value → Ga → Prop} {c : TT} {t u : TS} {ta : TA} {n : Nat} {F : Fw} {g : TG} {k : Gp → Ga → Prop}
theorem wsx_of (h : WS P t Γ D) : WSX P t Ex Γ D kx := fun ω σ H S _ E m => h ω σ H S E m
theorem wsx_seq (h : WSX P t Ex Γ (D.to fun Γ' => WSX P u Ex Γ' D kx) kx) : WSX P (tSeq t u) Ex Γ D kx := fun ω σ H S x E m =>
  h ω σ H S x { E with nx := u E } ⟨fun Γ' ω' σ' H' hk S' f p => (show WSX P u Ex Γ' D kx from hk) ω' σ' H' S' (x.after f p) E (m.after f p), m.rt, m.bk, m.ct⟩
theorem wsx_if (h : WT c Γ fun b Γ' => if b = true then WSX P t Ex Γ' D kx else WSX P u Ex Γ' D kx) : WSX P (tIfS c t u) Ex Γ D kx := fun ω σ H S x E m => h ω σ H S _ fun b Γ' ω' H' hk S' f => by
  cases b with
  | true => exact iteT ((show WSX P t Ex Γ' D kx from hk) ω' σ H' S' (x.after f Pin.refl) E (m.after f Pin.refl))
  | false => exact iteF ((show WSX P u Ex Γ' D kx from hk) ω' σ H' S' (x.after f Pin.refl) E (m.after f Pin.refl))
theorem wsx_raise {cl : Value} (h : kx cl Γ) : WSX P (tRaise Ex cl) Ex Γ D kx := fun ω σ H S x E m => x cl Γ ω σ H h S Fr.refl Pin.refl
/-- the promise of a def that may raise -/
theorem body_okX (P : Nat → Bool) {t : TS} {N : List Str} {vs : List V} {H : Hp} {Q : VK} {E : XK}
    (h : ∀ gs kk xx, F gs kk xx → gs.length = n → WSX P t E (gs.map some ++ List.replicate (N.length - n) none) ⟨fun Γ => ∃ Γp, Les (mask P n Γ) Γp ∧ kk (dat .none) Γp, fun g Γ => ∃ g' Γp, Ent g g' ∧ Les (mask P n Γ) Γp ∧ kk g' Γp, fun _ => False, fun _ => False⟩
      fun cl Γ => ∃ Γp, Les (mask P n Γ) Γp ∧ xx cl Γp) (hs : SpG n F vs H Q E) :
    t { nx := fun _ H' => Q .non H', rt := Q } (start N vs) H := by
  obtain ⟨gs, kk, xx, ω, hn, hF, hp, hq, hx⟩ := hs
  have S := par_sta (N := N) hp
  rw [hn] at S
  have stv : ∀ (i : Nat) (v : V), vs[i]? = some v → (start N vs)[i]? = some (some v) := fun i v e => by
    have hi := (List.getElem?_eq_some_iff.mp e).1
    unfold L2.start
    rw [List.getElem?_append_left (by simpa using hi), List.getElem?_map, e]
    rfl
  have en : ∀ (Γ' : Ga) (ω' : Col) (σ' : L2.St) (H' : Hp), Sta Γ' ω' σ' H' → Pin P (start N vs) σ' → EndOk (mask P n Γ') ω' H' vs := fun Γ' ω' σ' H' S' pi i g v hg hv => by
    obtain ⟨_, hP, hg⟩ := mask_get hg
    obtain ⟨v', e, p⟩ := S'.2 i g hg
    rw [pi.2 i hP, stv i v hv] at e
    cases e
    exact p
  refine h gs kk xx hF (by rw [hp.1, hn]) ω _ H S (fun cl Γ' ω' σ' H' ⟨Γp, l, hk⟩ S' f pi => hx cl Γp ω' H' hk ((en Γ' ω' σ' H' S' pi).les l) f) _ ⟨fun Γ' ω' σ' H' ⟨Γp, l, hk⟩ S' f pi => ?_, fun v g Γ' ω' σ' H' ⟨g', Γp, eg, l, hk⟩ S' p f pi => ?_, fun _ _ _ _ hk => hk.elim, fun _ _ _ _ hk => hk.elim⟩
  · exact hq .non _ _ ω' H' hk ((en Γ' ω' σ' H' S' pi).les l) DR.non f
  · exact hq v g' _ ω' H' hk ((en Γ' ω' σ' H' S' pi).les l) (eg _ _ _ p) f
/-! ### try: f(..) except C: .. -/
end
end G

namespace G
open PySem L2
/-! ### a list of one's own, of lists of one's own -/
def In2 (A R : Hp) (bs : List Addr) (dss : List (List PyData)) : Prop := bs.length = dss.length ∧ ∀ (i : Nat) (b : Addr) (ds : List PyData), bs[i]? = some b → dss[i]? = some ds → ∃ ys, R b = some (.lst ys) ∧ DRs A ys ds
theorem In2.mono {A A' R R' : Hp} {bs : List Addr} {dss : List (List PyData)} (s : Same A A') (r : Same R R') (h : In2 A R bs dss) : In2 A' R' bs dss := ⟨h.1, fun i b ds e1 e2 => by
  obtain ⟨ys, h1, h2⟩ := h.2 i b ds e1 e2
  exact ⟨ys, r _ _ h1, h2.mono s⟩⟩
def own2 (dss : List (List PyData)) : Gp := ⟨fun A v R => ∃ a bs, v = .ref a ∧ R a = some (.lst (bs.map V.ref)) ∧ (a :: bs).Nodup ∧ In2 A R bs dss, fun s r q => by
  obtain ⟨a, bs, e, h, n, t⟩ := q
  exact ⟨a, bs, e, r _ _ h, n, t.mono s r⟩⟩
theorem frz_own2 {dss : List (List PyData)} : Frz (own2 dss) (dP (.list (dss.map PyData.list))) := fun A v R A' s r q => by
  obtain ⟨a, bs, e, h, n, t⟩ := q
  subst e
  refine DR.lst (r _ _ h) ?_
  have key : ∀ (bs : List Addr) (dss : List (List PyData)), In2 A R bs dss → DRs A' (bs.map V.ref) (dss.map PyData.list) := fun bs => by
    induction bs with
    | nil => intro dss z; cases dss with
      | nil => exact .nil
      | cons d dss => cases z.1
    | cons b bs ih => intro dss z; cases dss with
      | nil => cases z.1
      | cons d dss =>
        obtain ⟨ys, h1, h2⟩ := z.2 0 b d rfl rfl
        exact .cons (.lst (r _ _ h1) (h2.mono s)) (ih dss ⟨Nat.succ.inj z.1, fun i b' d' e1 e2 => z.2 (i + 1) b' d' (by simpa using e1) (by simpa using e2)⟩)
  exact key bs dss t
section
variable {K : PySem.W.Frag} {P : Nat → Bool} {Γ : Ga} {D : Pe} {k : Gp → Ga → Prop} {te : TE} {g : TG}
end
end G

namespace G
open PySem L2
section
variable {K : PySem.W.Frag} {Γ : Ga} {k : Gp → Ga → Prop} {ta tb tc : TE} {r r' : R2}
theorem we_chain (h : WQ ta Γ fun q Γ1 => ∃ d, q = dP d ∧ WQ tb Γ1 fun q2 Γ2 => ∃ d2 b, q2 = dP d2 ∧ OpD r d d2 (dP (.bool b)) ∧ if b = true then WQ tc Γ2 fun q3 Γ3 => ∃ d3 b3, q3 = dP d3 ∧ OpD r' d2 d3 (dP (.bool b3)) ∧ k (dat (.bool b3)) Γ3 else k (dat (.bool false)) Γ2) :
    WE (tChain r r' ta tb tc) Γ k := fun ω σ H S Q f => h ω σ H S _ fun v q Γ1 ω1 H1 ⟨d, e, h1⟩ S1 p f1 => by
  subst e
  refine h1 ω1 σ H1 S1 _ fun v2 q2 Γ2 ω2 H2 ⟨d2, b, e2, ho, hk⟩ S2 p2 f2 => ?_
  subst e2
  refine ho (vw ω2 H2 0) H2 v v2 (fun _ _ z => vw_H z) (DR.mono f2.1 d p) p2 _ fun z hz => ?_
  cases DR.bl_inv hz
  refine ⟨b, rfl, ?_⟩
  cases b with
  | false => exact iteF (f _ _ Γ2 ω2 H2 hk S2 (DR.bl false) (f1.trans f2))
  | true =>
    refine iteT ((show WQ tc Γ2 _ from hk) ω2 σ H2 S2 _ fun v3 q3 Γ3 ω3 H3 ⟨d3, b3, e3, ho3, hk3⟩ S3 p3 f3 => ?_)
    subst e3
    refine ho3 (vw ω3 H3 0) H3 v2 v3 (fun _ _ z => vw_H z) (DR.mono f3.1 d2 p2) p3 _ fun z hz => ?_
    cases DR.bl_inv hz
    exact f _ _ Γ3 ω3 H3 hk3 S3 (DR.bl b3) ((f1.trans f2).trans f3)
end
theorem kb_i2 : kitB "int" "bool" = some false := by decide +kernel
theorem kb_s2 : kitB "str" "bool" = some false := by decide +kernel
theorem kb_l2 : kitB "list" "bool" = some false := by decide +kernel
theorem kb_t2 : kitB "tuple" "bool" = some false := by decide +kernel
theorem kb_db : kitB "dict" "bool" = some false := by decide +kernel
theorem isi_bool : ∀ {d : PyData}, (tyD d).isSome = true → ∃ n, tyD d = some n ∧ kitB n "bool" = some (isBl d)
  | .none, _ => ⟨_, rfl, by decide +kernel⟩
  | .bool _, _ => ⟨_, rfl, kb_bb⟩
  | .int _, _ => ⟨_, rfl, kb_i2⟩
  | .str _, _ => ⟨_, rfl, kb_s2⟩
  | .list _, _ => ⟨_, rfl, kb_l2⟩
  | .tuple _, _ => ⟨_, rfl, kb_t2⟩
  | .dict _, _ => ⟨_, rfl, kb_db⟩
theorem we_isBl {K : PySem.W.Frag} {Γ : Ga} {k : Gp → Ga → Prop} {ta : TE} (h : WQ ta Γ fun q Γ1 => ∃ d, q = dP d ∧ k (dat (.bool (isBl d))) Γ1) : WE (tCB (rIsiA K) (tCons ta (tCons (tC (.ty "bool")) tNil))) Γ k := fun ω σ H S Q f => h ω σ H S _ fun v q Γ1 ω1 H1 ⟨d, e, hk⟩ S1 p f1 => by
  subst e
  obtain ⟨n, e1, e2⟩ := isi_bool (DR.ty p)
  exact ⟨v, .ty "bool", .type n, .type "bool", _, rfl, .ty "bool", tyD_ok (DR.mono (fun _ _ z => vw_H z) d p) e1, kit_ty e2, f _ _ Γ1 ω1 H1 hk S1 (DR.bl _) f1⟩


section
variable {K : PySem.W.Frag} {Γ : Ga} {k : Gp → Ga → Prop} {r : R2} {d e : PyData}
theorem all_map {α : Type} {p : α → Bool} {xs : List α} : (xs.map p).all id = xs.all p := by
  induction xs with
  | nil => rfl
  | cons x xs ih => simp only [List.map_cons, List.all_cons, ih, id]
theorem take_map {α : Type} {f : α → PyData} {xs : List α} {i : Nat} {x : α} (h : xs[i]? = some x) : (xs.take (i + 1)).map f = (xs.take i).map f ++ [f x] := by
  rw [List.take_succ, h, List.map_append]
  rfl
/-- [f(x) for x in xs], the i-th turn -/
theorem getD_of {α : Type} {xs : List α} {i : Nat} (h : i < xs.length) : ∃ x, xs[i]? = some x := ⟨xs[i], by simp [h]⟩
theorem ck_allM {K : PySem.W.Frag} {α : Type} {xs : List α} {p : α → Bool} (hk : k (dat (.bool (xs.all p))) Γ) : CbK (rAllA K) [.list (xs.map fun x => .bool (p x))] k Γ := by
  have := ck_all (K := K) (bs := xs.map p) (k := k) (Γ := Γ) (by rw [all_map]; exact hk)
  rw [List.map_map] at this
  exact this
theorem getD_at {xs : List PyData} {i : Nat} {x d : PyData} (h : xs[i]? = some x) : xs.getD i d = x := by rw [List.getD_eq_getElem?_getD, h]; rfl
theorem atI_in {xs : List PyData} {i : Int} {d : PyData} (h0 : 0 ≤ i) (h : xs[i.toNat]? = some d) : atI xs i = some d := by
  have hl := (List.getElem?_eq_some_iff.mp h).1
  unfold atI ixN
  rw [if_pos h0, if_pos (by omega)]
  exact h
end
end G

namespace G
open PySem L2
section
variable {K : PySem.W.Frag} {P : Nat → Bool} {Γ : Ga} {D : Pe} {t : TS}
/-- from here on a slot's own stands still -/
theorem ws_frz {i : Nat} {g : Gp} {q : Per} (h : Γ[i]? = some (some g)) (z : Frz g q) (c : WS P t (Γ.set i (some (per q))) D) : WS P t Γ D := fun ω σ H S E m => by
  obtain ⟨v, e, p⟩ := S.2 i _ h
  have pq : q.q (vw (shut ω (i + 3)) H 0) v := z _ _ _ _ shut_0 shut_c p
  refine c (shut ω (i + 3)) σ H ⟨by rw [List.length_set]; exact S.1, fun j g' hj => ?_⟩ E (m.after ⟨shut_0, shut_ne (by omega)⟩ Pin.refl)
  rw [set_eq] at hj
  by_cases hij : i = j
  · rw [if_pos hij] at hj
    split at hj
    · cases hj
      subst hij
      exact ⟨v, e, pq⟩
    · cases hj
  · rw [if_neg hij] at hj
    obtain ⟨w, e', p'⟩ := S.2 j _ hj
    exact ⟨w, e', g'.mono shut_0 (shut_ne (by omega)) p'⟩
/-- x is not None -/
theorem we_notN {ta : TE} {k : Gp → Ga → Prop} (h : WE ta Γ fun g Γ1 => g = dat .none ∧ k (dat (.bool false)) Γ1) : WE (tOp rNotN0 ta (tC .non)) Γ k := fun ω σ H S Q f => h ω σ H S _ fun v g Γ1 ω1 H1 ⟨e, hk⟩ S1 p f1 => by
  subst e
  cases DR.non_inv p
  exact ⟨rfl, f _ _ Γ1 ω1 H1 hk S1 (DR.bl false) f1⟩
end
end G

/-! ### == by an own __eq__, and the default != over it -/
namespace GCmp
open PySem PySem.W PySem.Spec PyProof.Rows
section
variable {prog : Program} {w : World} {A : Around} {E : Value → Shared → Prop} {s : Shared} {K : Frag} {x C L f : Addr} {h₀ : Heap} {m : Str → Option Value} {ox : Obj} {od : Option Obj} {b tb : Value}
end
end GCmp

namespace G
open PySem L2
/-! ### own == and the default != as operations -/
section
variable {X : Cx} {C f : Addr} {fd : FuncData} {ps : List Str} {sp : Sp} {E : XK} {CX : CXT} {n : Nat}
end
section
variable {K : PySem.W.Frag} {P : Nat → Bool} {Γ : Ga} {D : Pe} {k : Gp → Ga → Prop} {ta tb te : TE} {C : Addr} {F : Fw} {E : XK} {ne : Bool}
/-! ### is, is not, of bools -/
theorem ok_isB {a b : Bool} (hk : k (dat (.bool (decide (a = b)))) Γ) : OpK rIsB (.bool a) (.bool b) k Γ := ok_of (q := dP (.bool (decide (a = b)))) (fun A H v w _ hv hw Q g => by
  cases hv.bl_inv
  cases hw.bl_inv
  exact ⟨a, b, rfl, rfl, g _ (DR.bl _)⟩) hk
theorem ok_notB {a b : Bool} (hk : k (dat (.bool (!decide (a = b)))) Γ) : OpK rNotB (.bool a) (.bool b) k Γ := ok_of (q := dP (.bool (!decide (a = b)))) (fun A H v w _ hv hw Q g => by
  cases hv.bl_inv
  cases hw.bl_inv
  exact ⟨a, b, rfl, rfl, g _ (DR.bl _)⟩) hk
/-! ### isinstance of an own class -/
end
/-! ### facts of a class, as a Bool -/
end G

namespace G
open PySem L2
/-! ### a list of things that stand still, of any kind -/
def PRs (A : Hp) (xs : List V) (qs : List Per) : Prop := xs.length = qs.length ∧ ∀ (i : Nat) (x : V) (q : Per), xs[i]? = some x → qs[i]? = some q → q.q A x
theorem PRs.nil {A : Hp} : PRs A [] [] := ⟨rfl, fun i x q h _ => by simp at h⟩
theorem PRs.mono {A A' : Hp} {xs : List V} {qs : List Per} (s : Same A A') (h : PRs A xs qs) : PRs A' xs qs := ⟨h.1, fun i x q a b => q.mono s (h.2 i x q a b)⟩
theorem PRs.length {A : Hp} {xs : List V} {qs : List Per} (h : PRs A xs qs) : xs.length = qs.length := h.1
theorem PRs.snoc {A : Hp} {xs : List V} {qs : List Per} {x : V} {q : Per} (h : PRs A xs qs) (p : q.q A x) : PRs A (xs ++ [x]) (qs ++ [q]) := by
  refine ⟨by simp [h.1], fun i y r a b => ?_⟩
  by_cases hi : i < xs.length
  · rw [List.getElem?_append_left hi] at a
    rw [List.getElem?_append_left (by rw [← h.1]; exact hi)] at b
    exact h.2 i y r a b
  · rw [List.getElem?_append_right (by omega)] at a
    rw [List.getElem?_append_right (by rw [← h.1]; omega), ← h.1] at b
    match e : i - xs.length, a, b with
    | 0, a, b =>
      cases a
      cases b
      exact p
    | n + 1, a, _ => simp at a
section
variable {K : PySem.W.Frag} {P : Nat → Bool} {Γ : Ga} {D : Pe} {k : Gp → Ga → Prop} {kt : Bool → Ga → Prop} {kg : Ga → Prop} {te tl : TE} {tt : TT} {t u tb : TS} {ta : TA} {g : TG}
end
/-! ### rows of ints; slices -/
def rowI (ns : List Int) : PyData := .list (ns.map .int)
theorem cutTo {α : Type} {xs : List α} {z : Int} (h : 0 ≤ z) : cutD xs none (some z) = xs.take (min z.toNat xs.length) := by
  unfold cutD
  have e : HT.sIx xs.length xs.length (some z) = min z.toNat xs.length := by
    show (if z < 0 then _ else _) = _
    rw [if_neg (by omega)]
  rw [e]
  rfl
/-! ### more of slices -/
theorem argD5 {a b c d e : PyData} : ArgD [.q (dP a), .q (dP b), .q (dP c), .q (dP d), .q (dP e)] [a, b, c, d, e] := ⟨rfl, rfl, rfl, rfl, rfl, trivial⟩
theorem argD6 {a b c d e f : PyData} : ArgD [.q (dP a), .q (dP b), .q (dP c), .q (dP d), .q (dP e), .q (dP f)] [a, b, c, d, e, f] := ⟨rfl, rfl, rfl, rfl, rfl, rfl, trivial⟩
theorem argD7 {a b c d e f g : PyData} : ArgD [.q (dP a), .q (dP b), .q (dP c), .q (dP d), .q (dP e), .q (dP f), .q (dP g)] [a, b, c, d, e, f, g] := ⟨rfl, rfl, rfl, rfl, rfl, rfl, rfl, trivial⟩
theorem argD9 {a b c d e f g h i : PyData} : ArgD [.q (dP a), .q (dP b), .q (dP c), .q (dP d), .q (dP e), .q (dP f), .q (dP g), .q (dP h), .q (dP i)] [a, b, c, d, e, f, g, h, i] := ⟨rfl, rfl, rfl, rfl, rfl, rfl, rfl, rfl, rfl, trivial⟩
end G

/-! ### promises kept where no repr is under way (guards: none) -/
namespace G
open PySem PySem.Spec PyProof.Rows L2
section
variable {P : Program} {w : World} {K : PySem.W.Frag} {mg : Str → Option Value} {base : Heap} {x qual : Str} {params : Arguments} {body : List Stmt} {scope : Scope} {dvs : List V} {kws : List (Str × V)} {f : Addr} {fd : FuncData}
end
section
variable {X : Cx} {CX : CXT} {k : Nat} {f : Addr} {fd : FuncData} {ps : List Str} {sp : Sp} {E : XK} {ds : List Value} {dvs : List V} {x : Str} {p pos : Pos} {e : Expr} {es : List Expr} {t : TA}
end
end G

/-! ### repr of data -/
namespace G
open PySem PySem.Spec PyProof.Rows L2
section
variable {X : Cx} {pins : List (Addr × Obj)} {σ : L2.St} {H : Hp} {s : Shared}
/-- what may be shown -/
structure Shw (d : PyData) : Prop where
  ok : d.showable = true
  dp : d.depth ≤ 20
  few : d.shown.length ≤ sizeLine
def rReprD : List V → Hp → VK → Prop := fun xs H Q => ∃ x d, xs = [x] ∧ DR H x d ∧ Shw d ∧ Q (.str d.shown) H
end
end G

namespace G
open PySem PySem.Spec PyProof.Rows L2
/-! ### data whose text is short -/
structure Tin (p b : Nat) (d : PyData) : Prop where
  ls : d.leavesShort 41 = true
  sh : d.showable = true
  dp : d.depth ≤ p
  bk : d.bulk ≤ b
theorem Tin.up {p b p' b' : Nat} {d : PyData} (h : Tin p b d) (hp : p ≤ p') (hb : b ≤ b') : Tin p' b' d := ⟨h.ls, h.sh, Nat.le_trans h.dp hp, Nat.le_trans h.bk hb⟩
section
variable {K : PySem.W.Frag} {Γ : Ga} {k : Gp → Ga → Prop} {ta : TE}
theorem we_repr (h : WQ ta Γ fun q Γ1 => ∃ d, q = dP d ∧ Shw d ∧ k (dat (.str d.shown)) Γ1) : WE (tCB rReprD (tCons ta tNil)) Γ k := fun ω σ H S Q f => h ω σ H S _ fun v q Γ1 ω1 H1 ⟨d, e, hs, hk⟩ S1 p f1 => by
  subst e
  exact ⟨v, d, rfl, DR.mono (fun _ _ z => vw_H z) d p, hs, f _ _ Γ1 ω1 H1 hk S1 (DR.str _) f1⟩
theorem ok_eqR {a b : Str} (hk : k (dat (.bool (decide (a = b)))) Γ) : OpK rEq (.str a) (.str b) k Γ := ok_of (q := dP (.bool (decide (a = b)))) (fun A H v w _ hv hw Q g => by
  cases hv.str_inv
  cases hw.str_inv
  refine ⟨rfl, ?_⟩
  have e : decide (V.str a = V.str b) = decide (a = b) := decide_eq_decide.mpr ⟨fun z => V.str.inj z, fun z => congrArg V.str z⟩
  rw [e]
  exact g _ (DR.bl _)) hk
theorem ok_neR {a b : Str} (hk : k (dat (.bool (!decide (a = b)))) Γ) : OpK rNe (.str a) (.str b) k Γ := ok_of (q := dP (.bool (!decide (a = b)))) (fun A H v w _ hv hw Q g => by
  cases hv.str_inv
  cases hw.str_inv
  refine ⟨rfl, ?_⟩
  have e : decide (V.str a = V.str b) = decide (a = b) := decide_eq_decide.mpr ⟨fun z => V.str.inj z, fun z => congrArg V.str z⟩
  rw [e]
  exact g _ (DR.bl _)) hk
end
end G

/-! ### try: .. except C as e: m = e : the error is kept, and asked later -/
namespace G
open PySem PySem.Spec PyProof.Rows L2
section
variable {X : Cx} {pins : List (Addr × Obj)} {σ : L2.St} {H : Hp} {s : Shared}
end
section
variable {X : Cx} {x n m : Str} {c : Value} {i j : Nat} {body : List Stmt} {b₀ : Stmt} {suite : List Stmt} {np pos pos' : Pos} {tb : WX → TS}
end
end G

namespace G
open PySem PySem.Spec PyProof.Rows L2
/-! ### C(..) and o.m(..) where what is raised is wished for at the slots -/
section
variable {X : Cx} {CX : CXT} {k : Nat} {f C : Addr} {fd : FuncData} {ps : List Str} {sp : Sp} {E : L2.St → XK} {x m : Str} {p pos apos : Pos} {e o : Expr} {es : List Expr} {ta : TE} {t : TA}
end
/-! ### the body of a try: W what is wished of its errors -/
section
variable {K : PySem.W.Frag} {P : Nat → Bool} {Γ : Ga} {D : Pe} {k : Gp → Ga → Prop} {te tl : TE} {c : TT} {t u : TS} {tb : WX → TS} {ta : TA} {n : Nat} {F : Fw} {kx : Value → Ga → Prop} {C : Addr} {m : Str}
theorem args_q {σ : L2.St} {A : Hp} : ∀ {as : List Arg} {vs : List V}, slots as = [] → ArgsOk σ A as vs → (qsOf as).length = vs.length ∧ as.length = vs.length ∧ ∀ (j : Nat) (q : Per) (v : V), (qsOf as)[j]? = some q → vs[j]? = some v → q.q A v
  | [], _, _, h => by cases h; exact ⟨rfl, rfl, fun j q v e => by simp [qsOf] at e⟩
  | .s i :: as, _, hs, _ => by cases hs
  | .q q :: as, _, hs, h => by
    cases h with | cons y z =>
    obtain ⟨l1, l2, l3⟩ := args_q (as := as) hs z
    refine ⟨by simp [qsOf, l1], by simp [l2], fun j q' v e1 e2 => ?_⟩
    match j, e1, e2 with
    | 0, e1, e2 =>
      cases e1
      cases e2
      exact y
    | j + 1, e1, e2 => exact l3 j q' v (by simpa [qsOf] using e1) (by simpa using e2)
end
end G

/-! ### tuple(xs), {}, repr, and == of strings -/
namespace G
open PySem PySem.Spec PyProof.Rows L2
section
variable {K : PySem.W.Frag} {Γ : Ga} {k : Gp → Ga → Prop} {tr : TR}
def rTupOf (K : PySem.W.Frag) : List V → Hp → VK → Prop := fun xs H Q => ∃ p ys, xs = [.ref p] ∧ ((SqL K H p ys ∧ ∀ l, H l = none → Q (.ref l) (upd H l (.tup ys))) ∨ (SqT K H p ys ∧ Q (.ref p) H))
theorem ck_tuple {ds : List PyData} (hk : k (dat (.tuple ds)) Γ) : CbK (rTupOf K) [.list ds] k Γ := fun ω σ H vs S h Q f => by
  cases h with | cons x y =>
  cases y
  obtain ⟨a, xs, rfl, ha, hd⟩ := x.lst_inv
  exact ⟨a, xs, rfl, .inl ⟨SqL.of (vw_H ha), fun l hl => f (.ref l) (dat (.tuple ds)) Γ (paint ω l 0) _ hk (S.new 0 hl) (DR.tup paint_at (hd.mono (paint_same hl 0))) (paint_fr hl)⟩⟩
theorem argD8 {a b c d e f g h : PyData} : ArgD [.q (dP a), .q (dP b), .q (dP c), .q (dP d), .q (dP e), .q (dP f), .q (dP g), .q (dP h)] [a, b, c, d, e, f, g, h] := ⟨rfl, rfl, rfl, rfl, rfl, rfl, rfl, rfl, trivial⟩
theorem argD10 {a b c d e f g h i j : PyData} : ArgD [.q (dP a), .q (dP b), .q (dP c), .q (dP d), .q (dP e), .q (dP f), .q (dP g), .q (dP h), .q (dP i), .q (dP j)] [a, b, c, d, e, f, g, h, i, j] := ⟨rfl, rfl, rfl, rfl, rfl, rfl, rfl, rfl, rfl, rfl, trivial⟩
theorem we_dnew (h : k (dat (.dict [])) Γ) : WE tDNewK Γ k := fun ω σ H S Q f p hp =>
  f (.ref p) (dat (.dict [])) Γ (paint ω p 0) _ h (S.new 0 hp) (DR.dic (ps := []) paint_at) (paint_fr hp)
end
end G

/-! ### isinstance of an error that was caught and kept -/
namespace G
open PySem PySem.Spec PyProof.Rows L2
section
variable {X : Cx}
end
section
variable {K : PySem.W.Frag} {Γ : Ga} {k : Gp → Ga → Prop}
end
/-! ### the facts as a Bool -/
end G

namespace G
open PySem PySem.Spec PyProof.Rows L2
def top (i : Nat) : Stmt := PySem.Challenge.pw_ownhues_k11_hues_and_new_names.main.body.getD i (.Pass ⟨0, 0, 0, 0⟩)
abbrev s_is_count : Stmt := top 4
abbrev s_are_counts : Stmt := top 5
abbrev s_are_different_counts : Stmt := top 6
abbrev s_hues_of : Stmt := top 8
abbrev s_renamed : Stmt := top 9
abbrev s_law_urn : Stmt := top 11
abbrev s_law_pick : Stmt := top 12
abbrev s_law_wholes : Stmt := top 13
abbrev s_law_whole : Stmt := top 14
abbrev s_law_shuffled : Stmt := top 15
abbrev s_law_pool : Stmt := top 16
abbrev s_law_row : Stmt := top 17
abbrev s_law_lists : Stmt := top 18
abbrev s_law_copies : Stmt := top 19
abbrev s_law_names : Stmt := top 20
abbrev s_law_known : Stmt := top 21
abbrev s_law_right : Stmt := top 22
abbrev s_law : Stmt := top 23
def d_is_count : He.DefD := ⟨("is_count", none), "is_count", "is_count", defArgs s_is_count, defBody s_is_count, defScope s_is_count, [], []⟩
def d_are_counts : He.DefD := ⟨("are_counts", none), "are_counts", "are_counts", defArgs s_are_counts, defBody s_are_counts, defScope s_are_counts, [], []⟩
def d_are_different_counts : He.DefD := ⟨("are_different_counts", none), "are_different_counts", "are_different_counts", defArgs s_are_different_counts, defBody s_are_different_counts, defScope s_are_different_counts, [], []⟩
def d_hues_of : He.DefD := ⟨("hues_of", none), "hues_of", "hues_of", defArgs s_hues_of, defBody s_hues_of, defScope s_hues_of, [], []⟩
def d_renamed : He.DefD := ⟨("renamed", none), "renamed", "renamed", defArgs s_renamed, defBody s_renamed, defScope s_renamed, [], []⟩
def d_law_urn : He.DefD := ⟨("_law_urn", none), "_law_urn", "_law_urn", defArgs s_law_urn, defBody s_law_urn, defScope s_law_urn, [], []⟩
def d_law_pick : He.DefD := ⟨("_law_pick", none), "_law_pick", "_law_pick", defArgs s_law_pick, defBody s_law_pick, defScope s_law_pick, [], []⟩
def d_law_wholes : He.DefD := ⟨("_law_wholes", none), "_law_wholes", "_law_wholes", defArgs s_law_wholes, defBody s_law_wholes, defScope s_law_wholes, [], []⟩
def d_law_whole : He.DefD := ⟨("_law_whole", none), "_law_whole", "_law_whole", defArgs s_law_whole, defBody s_law_whole, defScope s_law_whole, [], []⟩
def d_law_shuffled : He.DefD := ⟨("_law_shuffled", none), "_law_shuffled", "_law_shuffled", defArgs s_law_shuffled, defBody s_law_shuffled, defScope s_law_shuffled, [], []⟩
def d_law_pool : He.DefD := ⟨("_law_pool", none), "_law_pool", "_law_pool", defArgs s_law_pool, defBody s_law_pool, defScope s_law_pool, [], []⟩
def d_law_row : He.DefD := ⟨("_law_row", none), "_law_row", "_law_row", defArgs s_law_row, defBody s_law_row, defScope s_law_row, [], []⟩
def d_law_lists : He.DefD := ⟨("_law_lists", none), "_law_lists", "_law_lists", defArgs s_law_lists, defBody s_law_lists, defScope s_law_lists, [], []⟩
def d_law_copies : He.DefD := ⟨("_law_copies", none), "_law_copies", "_law_copies", defArgs s_law_copies, defBody s_law_copies, defScope s_law_copies, [], []⟩
def d_law_names : He.DefD := ⟨("_law_names", none), "_law_names", "_law_names", defArgs s_law_names, defBody s_law_names, defScope s_law_names, [], []⟩
def d_law_known : He.DefD := ⟨("_law_known", none), "_law_known", "_law_known", defArgs s_law_known, defBody s_law_known, defScope s_law_known, [], []⟩
def d_law_right : He.DefD := ⟨("_law_right", none), "_law_right", "_law_right", defArgs s_law_right, defBody s_law_right, defScope s_law_right, [], []⟩
def d_law : He.DefD := ⟨("law", none), "law", "law", defArgs s_law, defBody s_law, defScope s_law, [], []⟩
def fn : List He.DefD := [d_is_count, d_are_counts, d_are_different_counts, d_hues_of, d_renamed, d_law_urn, d_law_pick, d_law_wholes, d_law_whole, d_law_shuffled, d_law_pool, d_law_row, d_law_lists, d_law_copies, d_law_names, d_law_known, d_law_right, d_law]
def pr : List PrD := []
def fa : List He.Fa := [.glo "is_count", .glo "are_counts", .glo "are_different_counts", .glo "hues_of", .glo "renamed", .glo "_law_urn", .glo "_law_pick", .glo "_law_wholes", .glo "_law_whole", .glo "_law_shuffled", .glo "_law_pool", .glo "_law_row", .glo "_law_lists", .glo "_law_copies", .glo "_law_names", .glo "_law_known", .glo "_law_right", .glo "law", .glo "InvalidLists", .exc "InvalidLists", .free "all", .free "bool", .free "dict", .free "int", .free "isinstance", .free "len", .free "list", .free "max", .free "min", .free "range", .free "set", .free "sorted", .free "zip"]
def xf (K : PySem.W.Frag) : Bool := true
def loose : List PySem.Str := (["__name__", "HueError", "InvalidLists", "is_count", "are_counts", "are_different_counts", "hues_of", "renamed", "_law_urn", "_law_pick", "_law_wholes", "_law_whole", "_law_shuffled", "_law_pool", "_law_row", "_law_lists", "_law_copies", "_law_names", "_law_known", "_law_right"] : List PySem.Str)
abbrev R : PySem.W.OpenRow := PySem.W.OpenLaw.row PySem.Challenge.rw_ownhues_k11_hues_and_new_names
abbrev hk : PySem.W.Hook := hookP xf 6 fa fn pr
def ob (s : PySem.W.SharedT) : AlP := obsPG xf 6 fa fn pr (HandSHeadRun.getT s)
theorem ob_eq (s : PySem.W.SharedT) : ob s = hk.obs s.abs := obsPG_eq (HandSHeadRun.getT_eq s)
theorem run (w : World) : HandSHeadRun.RunEq R (PySem.W.view R.prog [23]) hk ob 4000 loose w := by
  intro os
  kernel_rfl

end G

namespace G
open PySem L2
local macro_rules | `(tactic| walk_at "g1") => `(tactic| first
  | (with_reducible show WE _ _ _; with_reducible first | refine we_var (by with_unfolding_all exact rfl) ?_ | (show WE (tOp _ _ _) _ _; first | refine we_ixS (by with_unfolding_all exact rfl) ?_ | refine we_ixScr (by with_unfolding_all exact rfl) ?_ | refine we_inS (by with_unfolding_all exact rfl) ?_ | refine we_notInS (by with_unfolding_all exact rfl) ?_ | refine we_eqS (by with_unfolding_all exact rfl) ?_ | refine we_neS (by with_unfolding_all exact rfl) ?_ | refine we_opK ?_) | (show WE (tCB _ _) _ _; first | refine we_lenS' (by with_unfolding_all exact rfl) ?_ | refine we_lenScr (by with_unfolding_all exact rfl) ?_ | refine we_cbK ?_) | refine we_int ?_ | refine we_bl ?_ | refine we_non ?_ | refine we_str ?_ | refine we_neg ?_ | refine we_not ?_ | refine we_and ?_ | refine we_or ?_ | refine we_if ?_ | refine we_tup ?_ | refine we_lst ?_ | refine we_call ?_ | refine we_mt (by with_unfolding_all exact rfl) ?_)
  | (with_reducible show WS _ _ _ _; with_reducible first | refine ws_seqA ?_ | refine ws_seqD ?_ | refine ws_asg (by with_unfolding_all exact rfl) ?_ | refine ws_asgG ?_ | refine ws_if ?_ | refine ws_ret ?_ | refine ws_drop ?_ | refine ws_next ?_ | refine ws_retN ?_)
  | (with_reducible show WT _ _ _; with_reducible first | refine wt_test ?_ | refine wt_B ?_ | refine wt_not ?_ | refine wt_and ?_ | refine wt_or ?_ | refine wt_yes ?_)
  | (with_reducible show WA _ _ _; with_reducible first | refine wa_nil ?_ | refine wa_cons (wq_of (we_var (by with_unfolding_all exact rfl) ?_)) | refine wa_slotU (by with_unfolding_all exact rfl) ?_ | refine wa_cons ?_)
  | (with_reducible show OpK _ _ _ _ _; with_reducible first | refine ok_plusI ?_ | refine ok_sub ?_ | refine ok_lt ?_ | refine ok_le ?_ | refine ok_gt ?_ | refine ok_ge ?_ | refine ok_eqI ?_ | refine ok_neI ?_ | refine ok_mod (by first | assumption | decide | omega) ?_ | refine ok_ixL (by with_unfolding_all exact rfl) ?_)
  | (with_reducible show CbK _ _ _ _; with_reducible first | refine ck_lenL ?_ | refine ck_lenT ?_ | refine ck_int ?_ | refine ck_intB ?_ | refine ck_max ?_ | refine ck_min ?_ | refine ck_list ?_)
  | with_reducible refine wq_of ?_
  | (with_reducible show WG _ _ _ _ _; with_reducible first | refine wg_name (by with_unfolding_all exact rfl) ?_ | refine wg_tup (by with_unfolding_all exact rfl) ?_ | refine wg_set (by with_unfolding_all exact rfl) ?_)
  | (with_reducible show WGs _ _ _ _ _; with_reducible first | refine wgs_cons ?_ | refine wgs_nil ?_)
  | with_reducible refine iteT ?_
  | with_reducible refine iteF ?_
  | with_reducible refine ⟨_, frz_per, ?_⟩
  | with_reducible refine ⟨_, frz_own, ?_⟩
  | refine ⟨_, rfl, ?_⟩
  | refine ⟨_, argD1, ?_⟩
  | refine ⟨_, argD2, ?_⟩
  | refine ⟨_, argD0, ?_⟩
  | refine ⟨_, argD3, ?_⟩
  | refine ⟨_, argD4, ?_⟩
  | refine ⟨_, _, rfl, rfl, rfl, ?_⟩
  | refine ⟨_, _, _, rfl, rfl, rfl, ?_⟩
  | refine ⟨(by simp only [List.length_cons, List.length_nil]; decide), ?_⟩
  | refine ⟨rfl, nd1, ?_⟩
  | refine ⟨rfl, nd0, ?_⟩)
local macro_rules | `(tactic| walk_at "go") => `(tactic| repeat walk_at "g1")
local macro_rules | `(tactic| walk_at "g2") => `(tactic| first
  | (with_reducible show WE _ _ _; with_reducible first | refine we_var (by with_unfolding_all exact rfl) ?_ | (show WE (tOp _ _ _) _ _; first | refine we_notN ?_ | refine we_ixS (by with_unfolding_all exact rfl) ?_ | refine we_ixScr (by with_unfolding_all exact rfl) ?_ | refine we_inS (by with_unfolding_all exact rfl) ?_ | refine we_notInS (by with_unfolding_all exact rfl) ?_ | refine we_eqS (by with_unfolding_all exact rfl) ?_ | refine we_neS (by with_unfolding_all exact rfl) ?_ | refine we_opK ?_) | (show WE (tCB _ _) _ _; first | refine we_isInt ?_ | refine we_isBl ?_ | refine we_isLst ?_ | refine we_isTup ?_ | refine we_lenO (by with_unfolding_all exact rfl) ?_ | refine we_lenS' (by with_unfolding_all exact rfl) ?_ | refine we_lenScr (by with_unfolding_all exact rfl) ?_ | refine we_cbK ?_) | refine we_chain ?_ | refine we_slice ?_ | refine we_int ?_ | refine we_bl ?_ | refine we_non ?_ | refine we_str ?_ | refine we_neg ?_ | refine we_not ?_ | refine we_and ?_ | refine we_or ?_ | refine we_if ?_ | refine we_tup ?_ | refine we_lst ?_ | refine we_call ?_ | refine we_mt (by with_unfolding_all exact rfl) ?_)
  | (with_reducible show WS _ _ _ _; with_reducible first | refine ws_seqA ?_ | refine ws_seqD ?_ | refine ws_asg (by with_unfolding_all exact rfl) ?_ | refine ws_asgG ?_ | refine ws_if ?_ | refine ws_ret ?_ | refine ws_drop ?_ | refine ws_next ?_ | refine ws_retN ?_)
  | (with_reducible show WT _ _ _; with_reducible first | refine wt_test ?_ | refine wt_B ?_ | refine wt_not ?_ | refine wt_and ?_ | refine wt_or ?_ | refine wt_yes ?_)
  | (with_reducible show WA _ _ _; with_reducible first | refine wa_nil ?_ | refine wa_cons (wq_of (we_var (by with_unfolding_all exact rfl) ?_)) | refine wa_slotU (by with_unfolding_all exact rfl) ?_ | refine wa_cons ?_)
  | (with_reducible show OpK _ _ _ _ _; with_reducible first | refine ok_isB ?_ | refine ok_notB ?_ | refine ok_plusI ?_ | refine ok_sub ?_ | refine ok_lt ?_ | refine ok_le ?_ | refine ok_gt ?_ | refine ok_ge ?_ | refine ok_eqI ?_ | refine ok_neI ?_ | refine ok_mod (by first | assumption | decide | omega) ?_ | refine ok_ixL (by with_unfolding_all exact rfl) ?_)
  | (with_reducible show CbK _ _ _ _; with_reducible first | refine ck_lenL ?_ | refine ck_lenT ?_ | refine ck_int ?_ | refine ck_intB ?_ | refine ck_max ?_ | refine ck_min ?_ | refine ck_list ?_)
  | with_reducible refine wq_of ?_
  | (with_reducible show WG _ _ _ _ _; with_reducible first | refine wg_name (by with_unfolding_all exact rfl) ?_ | refine wg_tup (by with_unfolding_all exact rfl) ?_ | refine wg_set (by with_unfolding_all exact rfl) ?_)
  | (with_reducible show WGs _ _ _ _ _; with_reducible first | refine wgs_cons ?_ | refine wgs_nil ?_)
  | (with_reducible show WO _ _ _; with_reducible first | refine wo_some ?_ | refine wo_none ?_)
  | refine ⟨_, argD5, ?_⟩
  | refine ⟨_, argD6, ?_⟩
  | refine ⟨_, argD7, ?_⟩
  | refine ⟨_, argD9, ?_⟩
  | with_reducible refine iteT ?_
  | with_reducible refine iteF ?_
  | with_reducible refine ⟨_, frz_per, ?_⟩
  | with_reducible refine ⟨_, frz_own, ?_⟩
  | refine ⟨_, rfl, ?_⟩
  | refine ⟨_, argD1, ?_⟩
  | refine ⟨_, argD2, ?_⟩
  | refine ⟨_, argD0, ?_⟩
  | refine ⟨_, argD3, ?_⟩
  | refine ⟨_, argD4, ?_⟩
  | refine ⟨_, _, rfl, rfl, rfl, ?_⟩
  | refine ⟨_, _, _, rfl, rfl, rfl, ?_⟩
  | refine ⟨(by simp only [List.length_cons, List.length_nil]; decide), ?_⟩
  | refine ⟨rfl, nd1, ?_⟩
  | refine ⟨rfl, nd0, ?_⟩)
local macro_rules | `(tactic| walk_at "g2") => `(tactic| first | with_reducible refine we_isInt ?_ | with_reducible refine we_isBl ?_ | with_reducible refine we_isLst ?_ | with_reducible refine we_isTup ?_ | with_reducible refine we_chain ?_ | with_reducible refine we_slice ?_ | with_reducible refine wo_some ?_ | with_reducible refine wo_none ?_ | walk_at "g1")
abbrev t_is_count_0 (K : PySem.W.Frag) : TS :=
  (tRet (tAndV (tCB (rIsiA K) (tCons (tVar 0) (tCons (tC (.ty "int")) tNil))) (tAndV (tNotV (tCB (rIsiA K) (tCons (tVar 0) (tCons (tC (.ty "bool")) tNil)))) (tOp (rGeI) (tVar 0) (tC (.int 0))))))
def t_is_count (K : PySem.W.Frag) : TS :=
  (t_is_count_0 K)
abbrev N_is_count : List Str := ["value"]
/-- a whole number from 0 on -/
def cntD : PyData → Bool
  | .int n => decide (0 ≤ n)
  | _ => false
def F_is_count : Fw := fun gs kk _ => ∃ d, gs = [dat d] ∧ kk (dat (.bool (cntD d))) [none]
abbrev sp_is_count (K : PySem.W.Frag) : Sp := SpG 1 F_is_count
theorem pure_is_count {K : PySem.W.Frag} {vs : List V} {H : Hp} {Q : VK} {E : XK} (h : sp_is_count K vs H Q E) : t_is_count K { nx := fun _ H' => Q .non H', rt := Q } (start N_is_count vs) H := by
  refine body_ok (fun _ => false) ?_ h
  rintro gs kk xx ⟨d, rfl, hk⟩ -
  unfold t_is_count
  repeat walk_at "g2"
  have out : ∀ {b : Bool}, cntD d = b → ∃ g' Γp, Ent (dat (.bool b)) g' ∧ Les (mask (fun _ => false) 1 (List.map some [dat d] ++ List.replicate (N_is_count.length - 1) none)) Γp ∧ kk g' Γp := fun {b} e => ⟨_, [none], Ent.refl, les_none les_nil, e ▸ hk⟩
  refine ite_b (fun e => ?_) fun e => out (by cases d <;> first | rfl | exact Bool.noConfusion e)
  repeat walk_at "g2"
  refine ite_b (fun e2 => ?_) fun e2 => out (by cases d <;> first | rfl | exact Bool.noConfusion e | exact Bool.noConfusion e2)
  cases d with
  | int n =>
    repeat walk_at "g2"
    exact out rfl
  | bool b => exact Bool.noConfusion e2
  | none => exact Bool.noConfusion e
  | str s => exact Bool.noConfusion e
  | list s => exact Bool.noConfusion e
  | tuple s => exact Bool.noConfusion e
  | dict s => exact Bool.noConfusion e
abbrev t_are_counts_0 (K : PySem.W.Frag) : TS :=
  (tRet (tAndV (tCB (rIsiA K) (tCons (tVar 0) (tCons (tC (.ty "list")) tNil))) (tCB (rAllA K) (tCons (tLc (iList K (tVar 0)) (gName 1) tYes (tCall (sp_is_count K) [] E0 (tCons (tVar 1) tNil)) [1]) tNil))))
def t_are_counts (K : PySem.W.Frag) : TS :=
  (t_are_counts_0 K)
abbrev N_are_counts : List Str := ["value", "entry"]
/-- a list of whole numbers from 0 on -/
def cntsD : PyData → Bool
  | .list ds => ds.all cntD
  | _ => false
def F_are_counts : Fw := fun gs kk _ => ∃ d, gs = [dat d] ∧ (∀ ds, d = .list ds → ds.length < 100000) ∧ kk (dat (.bool (cntsD d))) [none]
abbrev sp_are_counts (K : PySem.W.Frag) : Sp := SpG 1 F_are_counts
theorem pure_are_counts {K : PySem.W.Frag} {vs : List V} {H : Hp} {Q : VK} {E : XK} (h : sp_are_counts K vs H Q E) : t_are_counts K { nx := fun _ H' => Q .non H', rt := Q } (start N_are_counts vs) H := by
  refine body_ok (fun _ => false) ?_ h
  rintro gs kk xx ⟨d, rfl, hz, hk⟩ -
  unfold t_are_counts
  repeat walk_at "g2"
  refine ite_b (fun e => ?_) fun e => ⟨_, [none], Ent.refl, les_none les_nil, ?_⟩
  · cases d with
    | list ds =>
      repeat walk_at "g2"
      refine we_lc (fun i acc Γ => acc = (ds.take i).map (fun d => .bool (cntD d)) ∧ Γ = [some (dat (.list ds)), none]) ?_
      refine wi_list ?_
      repeat walk_at "g2"
      refine ⟨⟨rfl, rfl⟩, ?_, ?_⟩
      · rintro acc Γ2 ⟨rfl, rfl⟩
        repeat walk_at "g2"
        rw [List.take_length]
        exact ck_allM ⟨_, [none], Ent.refl, les_none les_nil, hk⟩
      · rintro i acc Γ2 hi ⟨rfl, rfl⟩ -
        obtain ⟨x, hx⟩ := getD_of hi
        dsimp only
        rw [getD_at hx]
        refine wg_name rfl ?_
        refine wt_yes ?_
        refine iteT ?_
        repeat walk_at "g2"
        exact ⟨by rw [List.length_map, List.length_take]; have := hz ds rfl; omega, (take_map hx).symm, rfl⟩
    | bool b => exact Bool.noConfusion e
    | int b => exact Bool.noConfusion e
    | none => exact Bool.noConfusion e
    | str s => exact Bool.noConfusion e
    | tuple s => exact Bool.noConfusion e
    | dict s => exact Bool.noConfusion e
  · have : cntsD d = false := by cases d <;> first | rfl | exact Bool.noConfusion e
    rw [← this]
    exact hk
end G

namespace G
open PySem L2
local macro_rules | `(tactic| walk_at "g1") => `(tactic| first
  | (with_reducible show WE _ _ _; with_reducible first | refine we_var (by with_unfolding_all exact rfl) ?_ | (show WE (tOp _ _ _) _ _; first | refine we_ixS (by with_unfolding_all exact rfl) ?_ | refine we_ixScr (by with_unfolding_all exact rfl) ?_ | refine we_inS (by with_unfolding_all exact rfl) ?_ | refine we_notInS (by with_unfolding_all exact rfl) ?_ | refine we_eqS (by with_unfolding_all exact rfl) ?_ | refine we_neS (by with_unfolding_all exact rfl) ?_ | refine we_opK ?_) | (show WE (tCB _ _) _ _; first | refine we_lenS' (by with_unfolding_all exact rfl) ?_ | refine we_lenScr (by with_unfolding_all exact rfl) ?_ | refine we_cbK ?_) | refine we_int ?_ | refine we_bl ?_ | refine we_non ?_ | refine we_str ?_ | refine we_neg ?_ | refine we_not ?_ | refine we_and ?_ | refine we_or ?_ | refine we_if ?_ | refine we_tup ?_ | refine we_lst ?_ | refine we_call ?_ | refine we_mt (by with_unfolding_all exact rfl) ?_)
  | (with_reducible show WS _ _ _ _; with_reducible first | refine ws_seqA ?_ | refine ws_seqD ?_ | refine ws_asg (by with_unfolding_all exact rfl) ?_ | refine ws_asgG ?_ | refine ws_if ?_ | refine ws_ret ?_ | refine ws_drop ?_ | refine ws_next ?_ | refine ws_retN ?_)
  | (with_reducible show WT _ _ _; with_reducible first | refine wt_test ?_ | refine wt_B ?_ | refine wt_not ?_ | refine wt_and ?_ | refine wt_or ?_ | refine wt_yes ?_)
  | (with_reducible show WA _ _ _; with_reducible first | refine wa_nil ?_ | refine wa_cons (wq_of (we_var (by with_unfolding_all exact rfl) ?_)) | refine wa_slotU (by with_unfolding_all exact rfl) ?_ | refine wa_cons ?_)
  | (with_reducible show OpK _ _ _ _ _; with_reducible first | refine ok_plusI ?_ | refine ok_sub ?_ | refine ok_lt ?_ | refine ok_le ?_ | refine ok_gt ?_ | refine ok_ge ?_ | refine ok_eqI ?_ | refine ok_neI ?_ | refine ok_mod (by first | assumption | decide | omega) ?_ | refine ok_ixL (by with_unfolding_all exact rfl) ?_)
  | (with_reducible show CbK _ _ _ _; with_reducible first | refine ck_lenL ?_ | refine ck_lenT ?_ | refine ck_int ?_ | refine ck_intB ?_ | refine ck_max ?_ | refine ck_min ?_ | refine ck_list ?_)
  | with_reducible refine wq_of ?_
  | (with_reducible show WG _ _ _ _ _; with_reducible first | refine wg_name (by with_unfolding_all exact rfl) ?_ | refine wg_tup (by with_unfolding_all exact rfl) ?_ | refine wg_set (by with_unfolding_all exact rfl) ?_)
  | (with_reducible show WGs _ _ _ _ _; with_reducible first | refine wgs_cons ?_ | refine wgs_nil ?_)
  | with_reducible refine iteT ?_
  | with_reducible refine iteF ?_
  | with_reducible refine ⟨_, frz_per, ?_⟩
  | with_reducible refine ⟨_, frz_own, ?_⟩
  | refine ⟨_, rfl, ?_⟩
  | refine ⟨_, argD1, ?_⟩
  | refine ⟨_, argD2, ?_⟩
  | refine ⟨_, argD0, ?_⟩
  | refine ⟨_, argD3, ?_⟩
  | refine ⟨_, argD4, ?_⟩
  | refine ⟨_, _, rfl, rfl, rfl, ?_⟩
  | refine ⟨_, _, _, rfl, rfl, rfl, ?_⟩
  | refine ⟨(by simp only [List.length_cons, List.length_nil]; decide), ?_⟩
  | refine ⟨rfl, nd1, ?_⟩
  | refine ⟨rfl, nd0, ?_⟩)
local macro_rules | `(tactic| walk_at "go") => `(tactic| repeat walk_at "g1")
local macro_rules | `(tactic| walk_at "g2") => `(tactic| first
  | (with_reducible show WE _ _ _; with_reducible first | refine we_var (by with_unfolding_all exact rfl) ?_ | (show WE (tOp _ _ _) _ _; first | refine we_notN ?_ | refine we_ixS (by with_unfolding_all exact rfl) ?_ | refine we_ixScr (by with_unfolding_all exact rfl) ?_ | refine we_inS (by with_unfolding_all exact rfl) ?_ | refine we_notInS (by with_unfolding_all exact rfl) ?_ | refine we_eqS (by with_unfolding_all exact rfl) ?_ | refine we_neS (by with_unfolding_all exact rfl) ?_ | refine we_opK ?_) | (show WE (tCB _ _) _ _; first | refine we_isInt ?_ | refine we_isBl ?_ | refine we_isLst ?_ | refine we_isTup ?_ | refine we_lenO (by with_unfolding_all exact rfl) ?_ | refine we_lenS' (by with_unfolding_all exact rfl) ?_ | refine we_lenScr (by with_unfolding_all exact rfl) ?_ | refine we_cbK ?_) | refine we_chain ?_ | refine we_slice ?_ | refine we_int ?_ | refine we_bl ?_ | refine we_non ?_ | refine we_str ?_ | refine we_neg ?_ | refine we_not ?_ | refine we_and ?_ | refine we_or ?_ | refine we_if ?_ | refine we_tup ?_ | refine we_lst ?_ | refine we_call ?_ | refine we_mt (by with_unfolding_all exact rfl) ?_)
  | (with_reducible show WS _ _ _ _; with_reducible first | refine ws_seqA ?_ | refine ws_seqD ?_ | refine ws_asg (by with_unfolding_all exact rfl) ?_ | refine ws_asgG ?_ | refine ws_if ?_ | refine ws_ret ?_ | refine ws_drop ?_ | refine ws_next ?_ | refine ws_retN ?_)
  | (with_reducible show WT _ _ _; with_reducible first | refine wt_test ?_ | refine wt_B ?_ | refine wt_not ?_ | refine wt_and ?_ | refine wt_or ?_ | refine wt_yes ?_)
  | (with_reducible show WA _ _ _; with_reducible first | refine wa_nil ?_ | refine wa_cons (wq_of (we_var (by with_unfolding_all exact rfl) ?_)) | refine wa_slotU (by with_unfolding_all exact rfl) ?_ | refine wa_cons ?_)
  | (with_reducible show OpK _ _ _ _ _; with_reducible first | refine ok_isB ?_ | refine ok_notB ?_ | refine ok_plusI ?_ | refine ok_sub ?_ | refine ok_lt ?_ | refine ok_le ?_ | refine ok_gt ?_ | refine ok_ge ?_ | refine ok_eqI ?_ | refine ok_neI ?_ | refine ok_mod (by first | assumption | decide | omega) ?_ | refine ok_ixL (by with_unfolding_all exact rfl) ?_)
  | (with_reducible show CbK _ _ _ _; with_reducible first | refine ck_lenL ?_ | refine ck_lenT ?_ | refine ck_int ?_ | refine ck_intB ?_ | refine ck_max ?_ | refine ck_min ?_ | refine ck_list ?_)
  | with_reducible refine wq_of ?_
  | (with_reducible show WG _ _ _ _ _; with_reducible first | refine wg_name (by with_unfolding_all exact rfl) ?_ | refine wg_tup (by with_unfolding_all exact rfl) ?_ | refine wg_set (by with_unfolding_all exact rfl) ?_)
  | (with_reducible show WGs _ _ _ _ _; with_reducible first | refine wgs_cons ?_ | refine wgs_nil ?_)
  | (with_reducible show WO _ _ _; with_reducible first | refine wo_some ?_ | refine wo_none ?_)
  | refine ⟨_, argD5, ?_⟩
  | refine ⟨_, argD6, ?_⟩
  | refine ⟨_, argD7, ?_⟩
  | refine ⟨_, argD9, ?_⟩
  | with_reducible refine iteT ?_
  | with_reducible refine iteF ?_
  | with_reducible refine ⟨_, frz_per, ?_⟩
  | with_reducible refine ⟨_, frz_own, ?_⟩
  | refine ⟨_, rfl, ?_⟩
  | refine ⟨_, argD1, ?_⟩
  | refine ⟨_, argD2, ?_⟩
  | refine ⟨_, argD0, ?_⟩
  | refine ⟨_, argD3, ?_⟩
  | refine ⟨_, argD4, ?_⟩
  | refine ⟨_, _, rfl, rfl, rfl, ?_⟩
  | refine ⟨_, _, _, rfl, rfl, rfl, ?_⟩
  | refine ⟨(by simp only [List.length_cons, List.length_nil]; decide), ?_⟩
  | refine ⟨rfl, nd1, ?_⟩
  | refine ⟨rfl, nd0, ?_⟩)
abbrev t_law_pick_0 (K : PySem.W.Frag) : TS :=
  (tSeq (tAsg (tOp (rModI) (tCB (rInt1) (tCons (tOp (rIx K) (tVar 0) (tC (.int 0))) tNil)) (tVar 1)) (gName 2))
    (tSeq (tAsg (tOp (rDivI) (tOp (rIx K) (tVar 0) (tC (.int 0))) (tVar 1)) (gSub (tVar 0) (tC (.int 0)) rSetL))
    (tRet (tVar 2))))
abbrev t_law_pick_1 (K : PySem.W.Frag) : TS :=
  (tSeq (tAsg (tOp (rModI) (tCB (rInt1) (tCons (tOp (rPlus K) (tOp (rMulI) (tOp (rMulI) (tVar 4) (tVar 4)) (tC (.int 31))) (tVar 4)) tNil)) (tOp (rIx K) (tLst (tCons (tC (.int 2147483579)) (tCons (tC (.int 2147483563)) (tCons (tC (.int 2147483549)) (tCons (tC (.int 2147483543)) tNil))))) (tOp (rModI) (tCB (rInt1) (tCons (tVar 3) tNil)) (tC (.int 4))))) (gName 4))
    (tRet (tOp (rModI) (tCB (rInt1) (tCons (tOp (rDivI) (tVar 4) (tC (.int 32))) tNil)) (tVar 1))))
abbrev t_law_pick_2 (K : PySem.W.Frag) : TS :=
  (tSeq (tAsg (tOp (rModI) (tCB (rInt1) (tCons (tOp (rPlus K) (tOp (rPlus K) (tOp (rMulI) (tVar 4) (tVar 4)) (tOp (rDivI) (tOp (rIx K) (tVar 0) (tC (.int 1))) (tC (.int 2147483629)))) (tOp (rMulI) (tC (.int 104729)) (tVar 3))) tNil)) (tC (.int 2147483587))) (gName 4))
    (t_law_pick_1 K))
abbrev t_law_pick_3 (K : PySem.W.Frag) : TS :=
  (tSeq (tAsg (tOp (rModI) (tCB (rInt1) (tCons (tOp (rPlus K) (tOp (rPlus K) (tOp (rIx K) (tVar 0) (tC (.int 1))) (tOp (rMulI) (tVar 3) (tC (.int 1299709)))) (tOp (rMulI) (tOp (rMulI) (tVar 3) (tVar 3)) (tC (.int 15485863)))) tNil)) (tC (.int 2147483629))) (gName 4))
    (t_law_pick_2 K))
abbrev t_law_pick_4 (K : PySem.W.Frag) : TS :=
  (tSeq (tAsg (tOp (rPlus K) (tOp (rIx K) (tVar 0) (tC (.int 2))) (tC (.int 1))) (gSub (tVar 0) (tC (.int 2)) rSetL))
    (tSeq (tAsg (tOp (rIx K) (tVar 0) (tC (.int 2))) (gName 3))
    (t_law_pick_3 K)))
def t_law_pick (K : PySem.W.Frag) : TS :=
  (tSeq (tIfS (tTest (tOp (rGtI) (tOp (rIx K) (tVar 0) (tC (.int 0))) (tC (.int 0)))) (t_law_pick_0 K) tNext)
    (t_law_pick_4 K))
abbrev N_law_pick : List Str := ["urn", "many", "found", "turn", "mixed"]
abbrev F_law_pick : Fw := fun gs kk xx => ∃ m many, gs = [urn m, dat (.int many)] ∧ 1 ≤ m ∧ 0 < many ∧ many < 2 ^ 100 ∧ ∀ r : Int, 0 ≤ r → r < many → kk (dat (.int r)) [some (urn (m - 1)), none]
abbrev sp_law_pick (K : PySem.W.Frag) : Sp := SpG 2 F_law_pick
theorem pure_law_pick {K : PySem.W.Frag} {vs : List V} {H : Hp} {Q : VK} {E : XK} (h : sp_law_pick K vs H Q E) : t_law_pick K { nx := fun _ H' => Q .non H', rt := Q } (L2.start N_law_pick vs) H := by
  refine body_ok (fun i => i == 0) ?_ h
  rintro gs kk xx ⟨m, many, rfl, hm, h0, hM, hk⟩ -
  refine ws_urn (i := 0) rfl fun a b c c0 c1 => ?_
  unfold t_law_pick
  refine ws_seq ?_
  walk_at "go"
  refine ite_dec (fun ha => ?_) (fun ha => ?_)
  · walk_at "go"
    refine ok_div (cdiv_of h0 hM (by decide) (by decide)) ?_
    walk_at "go"
    exact ⟨_, _, Ent.refl, les_some (urn_mk c0 (by omega)) (les_none les_nil), hk _ (Int.emod_nonneg _ (by omega)) (Int.emod_lt_of_pos _ h0)⟩
  · walk_at "go"
    refine ok_mul (cmul_l (by omega) (by omega)) ?_
    walk_at "go"
    refine ok_mul (cmul_l (by omega) (by omega)) ?_
    walk_at "go"
    refine ok_mul (cmul_r (by decide) (by decide)) ?_
    walk_at "go"
    generalize hx : (b + (c + 1) * 1299709 + (c + 1) * (c + 1) * 15485863) % 2147483629 = x
    have x0 : 0 ≤ x := by rw [← hx]; exact Int.emod_nonneg _ (by decide)
    have x1 : x < 2147483629 := by rw [← hx]; exact Int.emod_lt_of_pos _ (by decide)
    refine ok_mul (cmul_l (by omega) (by omega)) ?_
    walk_at "go"
    refine ok_div (cdiv_of (b := 32) (by decide) (by decide) (by decide) (by decide)) ?_
    walk_at "go"
    refine ok_mul (cmul_l (by decide) (by decide)) ?_
    walk_at "go"
    generalize hy : (x * x + b / 2147483629 + 104729 * (c + 1)) % 2147483587 = y
    have y0 : 0 ≤ y := by rw [← hy]; exact Int.emod_nonneg _ (by decide)
    have y1 : y < 2147483587 := by rw [← hy]; exact Int.emod_lt_of_pos _ (by decide)
    refine ok_mul (cmul_l (by omega) (by omega)) ?_
    walk_at "go"
    refine ok_mul (cmul_r (by decide) (by decide)) ?_
    walk_at "go"
    obtain ⟨p, hp, hp0⟩ : ∃ p : Int, atI [PyData.int 2147483579, PyData.int 2147483563, PyData.int 2147483549, PyData.int 2147483543] ((c + 1) % 4) = some (.int p) ∧ 0 < p := by
      have h4 : (c + 1) % 4 = 0 ∨ (c + 1) % 4 = 1 ∨ (c + 1) % 4 = 2 ∨ (c + 1) % 4 = 3 := by omega
      rcases h4 with e | e | e | e <;> rw [e]
      · exact ⟨2147483579, rfl, by decide⟩
      · exact ⟨2147483563, rfl, by decide⟩
      · exact ⟨2147483549, rfl, by decide⟩
      · exact ⟨2147483543, rfl, by decide⟩
    refine ok_ixL hp ?_
    walk_at "go"
    refine ok_div (cdiv_of (b := 32) (by decide) (by decide) (by decide) (by decide)) ?_
    walk_at "go"
    exact ⟨_, _, Ent.refl, les_some (urn_mk (m := m - 1) (by omega) (by omega)) (les_none les_nil), hk _ (Int.emod_nonneg _ (by omega)) (Int.emod_lt_of_pos _ h0)⟩
end G

namespace G
open PySem L2
local macro_rules | `(tactic| walk_at "g1") => `(tactic| first
  | (with_reducible show WE _ _ _; with_reducible first | refine we_var (by with_unfolding_all exact rfl) ?_ | (show WE (tOp _ _ _) _ _; first | refine we_ixS (by with_unfolding_all exact rfl) ?_ | refine we_ixScr (by with_unfolding_all exact rfl) ?_ | refine we_inS (by with_unfolding_all exact rfl) ?_ | refine we_notInS (by with_unfolding_all exact rfl) ?_ | refine we_eqS (by with_unfolding_all exact rfl) ?_ | refine we_neS (by with_unfolding_all exact rfl) ?_ | refine we_opK ?_) | (show WE (tCB _ _) _ _; first | refine we_lenS' (by with_unfolding_all exact rfl) ?_ | refine we_lenScr (by with_unfolding_all exact rfl) ?_ | refine we_cbK ?_) | refine we_int ?_ | refine we_bl ?_ | refine we_non ?_ | refine we_str ?_ | refine we_neg ?_ | refine we_not ?_ | refine we_and ?_ | refine we_or ?_ | refine we_if ?_ | refine we_tup ?_ | refine we_lst ?_ | refine we_call ?_ | refine we_mt (by with_unfolding_all exact rfl) ?_)
  | (with_reducible show WS _ _ _ _; with_reducible first | refine ws_seqA ?_ | refine ws_seqD ?_ | refine ws_asg (by with_unfolding_all exact rfl) ?_ | refine ws_asgG ?_ | refine ws_if ?_ | refine ws_ret ?_ | refine ws_drop ?_ | refine ws_next ?_ | refine ws_retN ?_)
  | (with_reducible show WT _ _ _; with_reducible first | refine wt_test ?_ | refine wt_B ?_ | refine wt_not ?_ | refine wt_and ?_ | refine wt_or ?_ | refine wt_yes ?_)
  | (with_reducible show WA _ _ _; with_reducible first | refine wa_nil ?_ | refine wa_cons (wq_of (we_var (by with_unfolding_all exact rfl) ?_)) | refine wa_slotU (by with_unfolding_all exact rfl) ?_ | refine wa_cons ?_)
  | (with_reducible show OpK _ _ _ _ _; with_reducible first | refine ok_plusI ?_ | refine ok_sub ?_ | refine ok_lt ?_ | refine ok_le ?_ | refine ok_gt ?_ | refine ok_ge ?_ | refine ok_eqI ?_ | refine ok_neI ?_ | refine ok_mod (by first | assumption | decide | omega) ?_ | refine ok_ixL (by with_unfolding_all exact rfl) ?_)
  | (with_reducible show CbK _ _ _ _; with_reducible first | refine ck_lenL ?_ | refine ck_lenT ?_ | refine ck_int ?_ | refine ck_intB ?_ | refine ck_max ?_ | refine ck_min ?_ | refine ck_list ?_)
  | with_reducible refine wq_of ?_
  | (with_reducible show WG _ _ _ _ _; with_reducible first | refine wg_name (by with_unfolding_all exact rfl) ?_ | refine wg_tup (by with_unfolding_all exact rfl) ?_ | refine wg_set (by with_unfolding_all exact rfl) ?_)
  | (with_reducible show WGs _ _ _ _ _; with_reducible first | refine wgs_cons ?_ | refine wgs_nil ?_)
  | with_reducible refine iteT ?_
  | with_reducible refine iteF ?_
  | with_reducible refine ⟨_, frz_per, ?_⟩
  | with_reducible refine ⟨_, frz_own, ?_⟩
  | refine ⟨_, rfl, ?_⟩
  | refine ⟨_, argD1, ?_⟩
  | refine ⟨_, argD2, ?_⟩
  | refine ⟨_, argD0, ?_⟩
  | refine ⟨_, argD3, ?_⟩
  | refine ⟨_, argD4, ?_⟩
  | refine ⟨_, _, rfl, rfl, rfl, ?_⟩
  | refine ⟨_, _, _, rfl, rfl, rfl, ?_⟩
  | refine ⟨(by simp only [List.length_cons, List.length_nil]; decide), ?_⟩
  | refine ⟨rfl, nd1, ?_⟩
  | refine ⟨rfl, nd0, ?_⟩)
local macro_rules | `(tactic| walk_at "go") => `(tactic| repeat walk_at "g1")
local macro_rules | `(tactic| walk_at "g2") => `(tactic| first
  | (with_reducible show WE _ _ _; with_reducible first | refine we_var (by with_unfolding_all exact rfl) ?_ | (show WE (tOp _ _ _) _ _; first | refine we_notN ?_ | refine we_ixS (by with_unfolding_all exact rfl) ?_ | refine we_ixScr (by with_unfolding_all exact rfl) ?_ | refine we_inS (by with_unfolding_all exact rfl) ?_ | refine we_notInS (by with_unfolding_all exact rfl) ?_ | refine we_eqS (by with_unfolding_all exact rfl) ?_ | refine we_neS (by with_unfolding_all exact rfl) ?_ | refine we_opK ?_) | (show WE (tCB _ _) _ _; first | refine we_isInt ?_ | refine we_isBl ?_ | refine we_isLst ?_ | refine we_isTup ?_ | refine we_lenO (by with_unfolding_all exact rfl) ?_ | refine we_lenS' (by with_unfolding_all exact rfl) ?_ | refine we_lenScr (by with_unfolding_all exact rfl) ?_ | refine we_cbK ?_) | refine we_chain ?_ | refine we_slice ?_ | refine we_int ?_ | refine we_bl ?_ | refine we_non ?_ | refine we_str ?_ | refine we_neg ?_ | refine we_not ?_ | refine we_and ?_ | refine we_or ?_ | refine we_if ?_ | refine we_tup ?_ | refine we_lst ?_ | refine we_call ?_ | refine we_mt (by with_unfolding_all exact rfl) ?_)
  | (with_reducible show WS _ _ _ _; with_reducible first | refine ws_seqA ?_ | refine ws_seqD ?_ | refine ws_asg (by with_unfolding_all exact rfl) ?_ | refine ws_asgG ?_ | refine ws_if ?_ | refine ws_ret ?_ | refine ws_drop ?_ | refine ws_next ?_ | refine ws_retN ?_)
  | (with_reducible show WT _ _ _; with_reducible first | refine wt_test ?_ | refine wt_B ?_ | refine wt_not ?_ | refine wt_and ?_ | refine wt_or ?_ | refine wt_yes ?_)
  | (with_reducible show WA _ _ _; with_reducible first | refine wa_nil ?_ | refine wa_cons (wq_of (we_var (by with_unfolding_all exact rfl) ?_)) | refine wa_slotU (by with_unfolding_all exact rfl) ?_ | refine wa_cons ?_)
  | (with_reducible show OpK _ _ _ _ _; with_reducible first | refine ok_isB ?_ | refine ok_notB ?_ | refine ok_plusI ?_ | refine ok_sub ?_ | refine ok_lt ?_ | refine ok_le ?_ | refine ok_gt ?_ | refine ok_ge ?_ | refine ok_eqI ?_ | refine ok_neI ?_ | refine ok_mod (by first | assumption | decide | omega) ?_ | refine ok_ixL (by with_unfolding_all exact rfl) ?_)
  | (with_reducible show CbK _ _ _ _; with_reducible first | refine ck_lenL ?_ | refine ck_lenT ?_ | refine ck_int ?_ | refine ck_intB ?_ | refine ck_max ?_ | refine ck_min ?_ | refine ck_list ?_)
  | with_reducible refine wq_of ?_
  | (with_reducible show WG _ _ _ _ _; with_reducible first | refine wg_name (by with_unfolding_all exact rfl) ?_ | refine wg_tup (by with_unfolding_all exact rfl) ?_ | refine wg_set (by with_unfolding_all exact rfl) ?_)
  | (with_reducible show WGs _ _ _ _ _; with_reducible first | refine wgs_cons ?_ | refine wgs_nil ?_)
  | (with_reducible show WO _ _ _; with_reducible first | refine wo_some ?_ | refine wo_none ?_)
  | refine ⟨_, argD5, ?_⟩
  | refine ⟨_, argD6, ?_⟩
  | refine ⟨_, argD7, ?_⟩
  | refine ⟨_, argD9, ?_⟩
  | with_reducible refine iteT ?_
  | with_reducible refine iteF ?_
  | with_reducible refine ⟨_, frz_per, ?_⟩
  | with_reducible refine ⟨_, frz_own, ?_⟩
  | refine ⟨_, rfl, ?_⟩
  | refine ⟨_, argD1, ?_⟩
  | refine ⟨_, argD2, ?_⟩
  | refine ⟨_, argD0, ?_⟩
  | refine ⟨_, argD3, ?_⟩
  | refine ⟨_, argD4, ?_⟩
  | refine ⟨_, _, rfl, rfl, rfl, ?_⟩
  | refine ⟨_, _, _, rfl, rfl, rfl, ?_⟩
  | refine ⟨(by simp only [List.length_cons, List.length_nil]; decide), ?_⟩
  | refine ⟨rfl, nd1, ?_⟩
  | refine ⟨rfl, nd0, ?_⟩)
abbrev t_law_urn_0 (K : PySem.W.Frag) : TS :=
  (tRet (tLst (tCons (tCB (rMax2) (tCons (tC (.int 0)) (tCons (tOp (rSubI) (tVar 2) (tOp (rPowI) (tC (.int 10)) (tC (.int 18)))) tNil))) (tCons (tOp (rPlus K) (tOp (rModI) (tCB (rInt1) (tCons (tVar 2) tNil)) (tOp (rPlus K) (tOp (rPowI) (tC (.int 10)) (tC (.int 30))) (tC (.int 57)))) (tVar 1)) (tCons (tC (.int 0)) tNil)))))
abbrev t_law_urn_1 (K : PySem.W.Frag) : TS :=
  (tSeq (tIfS (tTest (tOp (rLtI) (tVar 1) (tCB (rLenA K) (tCons (tVar 0) tNil)))) (tAsg (tOp (rIx K) (tVar 0) (tVar 1)) (gName 2)) tNext)
    (t_law_urn_0 K))
def t_law_urn (K : PySem.W.Frag) : TS :=
  (tSeq (tAsg (tOp (rPlus K) (tOp (rMulI) (tC (.int 40)) (tVar 1)) (tC (.int 3))) (gName 2))
    (t_law_urn_1 K))
abbrev N_law_urn : List Str := ["script", "k", "cell"]
abbrev t_law_shuffled_0 (K : PySem.W.Frag) : TS :=
  (tDrop (tBM K "list" (rAppend) (tVar 3) (tCons (tBM K "list" (rPopAt) (tVar 2) (tCons (tCall (sp_law_pick K) [] E0 (tCons (tVar 0) (tCons (tCB (rLenA K) (tCons (tVar 2) tNil)) tNil))) tNil)) tNil)))
abbrev t_law_shuffled_1 (K : PySem.W.Frag) : TS :=
  (tSeq (tAsg (tLst tNil) (gName 3))
    (tSeq (tFor (iRng1 (tCons (tCB (rLenA K) (tCons (tVar 1) tNil)) tNil)) (gName 4) (t_law_shuffled_0 K))
    (tRet (tVar 3))))
def t_law_shuffled (K : PySem.W.Frag) : TS :=
  (tSeq (tAsg (tCB (rListOf K) (tCons (tVar 1) tNil)) (gName 2))
    (t_law_shuffled_1 K))
abbrev N_law_shuffled : List Str := ["urn", "things", "left", "found", "k"]
def big : Nat := 1000000000000000
abbrev F_law_urn (K : PySem.W.Frag) : Fw := fun gs kk xx => ∃ ns j, gs = [per (scrP K ns), dat (.int j)] ∧ 0 ≤ j ∧ ns.length ≤ 63 ∧ kk (urn big) [none, none]
abbrev sp_law_urn (K : PySem.W.Frag) : Sp := SpG 2 (F_law_urn K)
theorem pure_law_urn {K : PySem.W.Frag} {vs : List V} {H : Hp} {Q : VK} {E : XK} (h : sp_law_urn K vs H Q E) : t_law_urn K { nx := fun _ H' => Q .non H', rt := Q } (L2.start N_law_urn vs) H := by
  refine body_ok (fun _ => false) ?_ h
  rintro gs kk xx ⟨ns, j, rfl, hj, hn, hk⟩ -
  unfold t_law_urn
  walk_at "go"
  refine ok_mul (cmul_l (by decide) (by decide)) ?_
  walk_at "go"
  refine ws_seq ?_
  walk_at "go"
  have fin : ∀ (c : Int) (Γ : Ga), Γ[0]? = some (some (per (scrP K ns))) → Γ[1]? = some (some (dat (.int j))) → Γ[2]? = some (some (dat (.int c))) → Γ.length = 3 → WS (fun _ => false) (tRet
          (tLst
            (tCons
              (tCB rMax2
                (tCons (tC (V.int 0))
                  (tCons (tOp rSubI (tVar 2) (tOp rPowI (tC (V.int 10)) (tC (V.int 18)))) tNil)))
              (tCons
                (tOp (rPlus K)
                  (tOp rModI (tCB rInt1 (tCons (tVar 2) tNil))
                    (tOp (rPlus K) (tOp rPowI (tC (V.int 10)) (tC (V.int 30))) (tC (V.int 57))))
                  (tVar 1))
                (tCons (tC (V.int 0)) tNil))))) Γ ⟨fun Γ => ∃ Γp, Les (mask (fun _ => false) 2 Γ) Γp ∧ kk (dat .none) Γp, fun g Γ => ∃ g' Γp, Ent g g' ∧ Les (mask (fun _ => false) 2 Γ) Γp ∧ kk g' Γp, fun _ => False, fun _ => False⟩ := by
    intro c Γ h0 h1 h2 hl
    match Γ, h0, h1, h2, hl with
    | [o0, o1, o2], h0, h1, h2, _ =>
      cases h0
      cases h1
      cases h2
      walk_at "go"
      refine ok_pow (cpow_of (by decide) (by decide) (by decide)) ?_
      walk_at "go"
      refine ok_pow (cpow_of (by decide) (by decide) (by decide)) ?_
      walk_at "go"
      exact ⟨_, _, urn_mk (Int.le_refl _) (m := big) (by unfold big; omega), les_none (les_none les_nil), hk⟩
  refine ite_dec (fun h => ?_) (fun h => ?_)
  · walk_at "go"
    obtain ⟨i, rfl⟩ : ∃ i : Nat, j = (i : Int) := ⟨j.toNat, by omega⟩
    have hi : i < ns.length := by omega
    refine ⟨_, _, rfl, at_nat i rfl (List.getElem?_eq_getElem hi), ?_⟩
    exact fin _ _ rfl rfl rfl rfl
  · walk_at "g1"
    exact fin _ _ rfl rfl rfl rfl
abbrev F_law_shuffled : Fw := fun gs kk xx => ∃ m ds, gs = [urn m, dat (.list ds)] ∧ ds.length ≤ m ∧ ds.length ≤ 1000 ∧ ∀ es : List PyData, es.Perm ds → kk (own es) [some (urn (m - ds.length)), none]
abbrev sp_law_shuffled (K : PySem.W.Frag) : Sp := SpG 2 F_law_shuffled
theorem pure_law_shuffled {K : PySem.W.Frag} {vs : List V} {H : Hp} {Q : VK} {E : XK} (h : sp_law_shuffled K vs H Q E) : t_law_shuffled K { nx := fun _ H' => Q .non H', rt := Q } (L2.start N_law_shuffled vs) H := by
  refine body_ok (fun i => i == 0) ?_ h
  rintro gs kk xx ⟨m, ds, rfl, hm, hd, hk⟩ -
  unfold t_law_shuffled
  walk_at "go"
  refine ws_seq ?_
  refine ws_for (fun i Γ => ∃ left found o, Γ = [some (urn (m - i)), some (dat (.list ds)), some (own left), some (own found), o] ∧ left.length + i = ds.length ∧ (found ++ left).Perm ds ∧ i ≤ ds.length) ?_
  refine wi_range1 ?_
  walk_at "go"
  refine ⟨by omega, by omega, ⟨ds, [], none, rfl, by simp, List.Perm.refl _, by omega⟩, ?_, ?_⟩
  · rintro Γ ⟨left, found, o, rfl, hl, hp, _⟩
    simp only [Int.toNat_natCast] at hl hp
    have e : left = [] := List.eq_nil_of_length_eq_zero (by omega)
    subst e
    rw [List.append_nil] at hp
    walk_at "go"
    refine we_varM rfl ?_
    exact ⟨_, _, Ent.refl, les_some Ent.refl (les_none les_nil), hk _ hp⟩
  · rintro i Γ hi ⟨left, found, o, rfl, hl, hp, hi2⟩
    walk_at "go"
    have hl0 : 0 < left.length := by omega
    refine ⟨_, _, rfl, by omega, by omega, by omega, fun r r0 r1 => ?_⟩
    walk_at "go"
    obtain ⟨j, rfl⟩ : ∃ j : Nat, r = (j : Int) := ⟨r.toNat, by omega⟩
    have hj : j < left.length := by omega
    refine ⟨_, _, _, _, rfl, argD1, mo_popAt j rfl (List.getElem?_eq_getElem hj) (by omega), ?_⟩
    walk_at "go"
    refine ⟨_, _, _, _, rfl, argD1, mo_append ?_, ?_⟩
    · have := hp.length_eq
      rw [List.length_append] at this
      omega
    refine ⟨_, _, _, by rw [show m - (i + 1) = m - i - 1 by omega]; rfl, ?_, perm_pick hp (List.getElem?_eq_getElem hj), by omega⟩
    rw [List.length_eraseIdx_of_lt hj]
    omega
end G

namespace G
open PySem L2
local macro_rules | `(tactic| walk_at "g1") => `(tactic| first
  | (with_reducible show WE _ _ _; with_reducible first | refine we_var (by with_unfolding_all exact rfl) ?_ | (show WE (tOp _ _ _) _ _; first | refine we_ixS (by with_unfolding_all exact rfl) ?_ | refine we_ixScr (by with_unfolding_all exact rfl) ?_ | refine we_inS (by with_unfolding_all exact rfl) ?_ | refine we_notInS (by with_unfolding_all exact rfl) ?_ | refine we_eqS (by with_unfolding_all exact rfl) ?_ | refine we_neS (by with_unfolding_all exact rfl) ?_ | refine we_opK ?_) | (show WE (tCB _ _) _ _; first | refine we_lenS' (by with_unfolding_all exact rfl) ?_ | refine we_lenScr (by with_unfolding_all exact rfl) ?_ | refine we_cbK ?_) | refine we_int ?_ | refine we_bl ?_ | refine we_non ?_ | refine we_str ?_ | refine we_neg ?_ | refine we_not ?_ | refine we_and ?_ | refine we_or ?_ | refine we_if ?_ | refine we_tup ?_ | refine we_lst ?_ | refine we_call ?_ | refine we_mt (by with_unfolding_all exact rfl) ?_)
  | (with_reducible show WS _ _ _ _; with_reducible first | refine ws_seqA ?_ | refine ws_seqD ?_ | refine ws_asg (by with_unfolding_all exact rfl) ?_ | refine ws_asgG ?_ | refine ws_if ?_ | refine ws_ret ?_ | refine ws_drop ?_ | refine ws_next ?_ | refine ws_retN ?_)
  | (with_reducible show WT _ _ _; with_reducible first | refine wt_test ?_ | refine wt_B ?_ | refine wt_not ?_ | refine wt_and ?_ | refine wt_or ?_ | refine wt_yes ?_)
  | (with_reducible show WA _ _ _; with_reducible first | refine wa_nil ?_ | refine wa_cons (wq_of (we_var (by with_unfolding_all exact rfl) ?_)) | refine wa_slotU (by with_unfolding_all exact rfl) ?_ | refine wa_cons ?_)
  | (with_reducible show OpK _ _ _ _ _; with_reducible first | refine ok_plusI ?_ | refine ok_sub ?_ | refine ok_lt ?_ | refine ok_le ?_ | refine ok_gt ?_ | refine ok_ge ?_ | refine ok_eqI ?_ | refine ok_neI ?_ | refine ok_mod (by first | assumption | decide | omega) ?_ | refine ok_ixL (by with_unfolding_all exact rfl) ?_)
  | (with_reducible show CbK _ _ _ _; with_reducible first | refine ck_lenL ?_ | refine ck_lenT ?_ | refine ck_int ?_ | refine ck_intB ?_ | refine ck_max ?_ | refine ck_min ?_ | refine ck_list ?_)
  | with_reducible refine wq_of ?_
  | (with_reducible show WG _ _ _ _ _; with_reducible first | refine wg_name (by with_unfolding_all exact rfl) ?_ | refine wg_tup (by with_unfolding_all exact rfl) ?_ | refine wg_set (by with_unfolding_all exact rfl) ?_)
  | (with_reducible show WGs _ _ _ _ _; with_reducible first | refine wgs_cons ?_ | refine wgs_nil ?_)
  | with_reducible refine iteT ?_
  | with_reducible refine iteF ?_
  | with_reducible refine ⟨_, frz_per, ?_⟩
  | with_reducible refine ⟨_, frz_own, ?_⟩
  | refine ⟨_, rfl, ?_⟩
  | refine ⟨_, argD1, ?_⟩
  | refine ⟨_, argD2, ?_⟩
  | refine ⟨_, argD0, ?_⟩
  | refine ⟨_, argD3, ?_⟩
  | refine ⟨_, argD4, ?_⟩
  | refine ⟨_, _, rfl, rfl, rfl, ?_⟩
  | refine ⟨_, _, _, rfl, rfl, rfl, ?_⟩
  | refine ⟨(by simp only [List.length_cons, List.length_nil]; decide), ?_⟩
  | refine ⟨rfl, nd1, ?_⟩
  | refine ⟨rfl, nd0, ?_⟩)
local macro_rules | `(tactic| walk_at "go") => `(tactic| repeat walk_at "g1")
local macro_rules | `(tactic| walk_at "g2") => `(tactic| first
  | (with_reducible show WE _ _ _; with_reducible first | refine we_var (by with_unfolding_all exact rfl) ?_ | (show WE (tOp _ _ _) _ _; first | refine we_notN ?_ | refine we_ixS (by with_unfolding_all exact rfl) ?_ | refine we_ixScr (by with_unfolding_all exact rfl) ?_ | refine we_inS (by with_unfolding_all exact rfl) ?_ | refine we_notInS (by with_unfolding_all exact rfl) ?_ | refine we_eqS (by with_unfolding_all exact rfl) ?_ | refine we_neS (by with_unfolding_all exact rfl) ?_ | refine we_opK ?_) | (show WE (tCB _ _) _ _; first | refine we_isInt ?_ | refine we_isBl ?_ | refine we_isLst ?_ | refine we_isTup ?_ | refine we_lenO (by with_unfolding_all exact rfl) ?_ | refine we_lenS' (by with_unfolding_all exact rfl) ?_ | refine we_lenScr (by with_unfolding_all exact rfl) ?_ | refine we_cbK ?_) | refine we_chain ?_ | refine we_slice ?_ | refine we_int ?_ | refine we_bl ?_ | refine we_non ?_ | refine we_str ?_ | refine we_neg ?_ | refine we_not ?_ | refine we_and ?_ | refine we_or ?_ | refine we_if ?_ | refine we_tup ?_ | refine we_lst ?_ | refine we_call ?_ | refine we_mt (by with_unfolding_all exact rfl) ?_)
  | (with_reducible show WS _ _ _ _; with_reducible first | refine ws_seqA ?_ | refine ws_seqD ?_ | refine ws_asg (by with_unfolding_all exact rfl) ?_ | refine ws_asgG ?_ | refine ws_if ?_ | refine ws_ret ?_ | refine ws_drop ?_ | refine ws_next ?_ | refine ws_retN ?_)
  | (with_reducible show WT _ _ _; with_reducible first | refine wt_test ?_ | refine wt_B ?_ | refine wt_not ?_ | refine wt_and ?_ | refine wt_or ?_ | refine wt_yes ?_)
  | (with_reducible show WA _ _ _; with_reducible first | refine wa_nil ?_ | refine wa_cons (wq_of (we_var (by with_unfolding_all exact rfl) ?_)) | refine wa_slotU (by with_unfolding_all exact rfl) ?_ | refine wa_cons ?_)
  | (with_reducible show OpK _ _ _ _ _; with_reducible first | refine ok_isB ?_ | refine ok_notB ?_ | refine ok_plusI ?_ | refine ok_sub ?_ | refine ok_lt ?_ | refine ok_le ?_ | refine ok_gt ?_ | refine ok_ge ?_ | refine ok_eqI ?_ | refine ok_neI ?_ | refine ok_mod (by first | assumption | decide | omega) ?_ | refine ok_ixL (by with_unfolding_all exact rfl) ?_)
  | (with_reducible show CbK _ _ _ _; with_reducible first | refine ck_lenL ?_ | refine ck_lenT ?_ | refine ck_int ?_ | refine ck_intB ?_ | refine ck_max ?_ | refine ck_min ?_ | refine ck_list ?_)
  | with_reducible refine wq_of ?_
  | (with_reducible show WG _ _ _ _ _; with_reducible first | refine wg_name (by with_unfolding_all exact rfl) ?_ | refine wg_tup (by with_unfolding_all exact rfl) ?_ | refine wg_set (by with_unfolding_all exact rfl) ?_)
  | (with_reducible show WGs _ _ _ _ _; with_reducible first | refine wgs_cons ?_ | refine wgs_nil ?_)
  | (with_reducible show WO _ _ _; with_reducible first | refine wo_some ?_ | refine wo_none ?_)
  | refine ⟨_, argD5, ?_⟩
  | refine ⟨_, argD6, ?_⟩
  | refine ⟨_, argD7, ?_⟩
  | refine ⟨_, argD9, ?_⟩
  | with_reducible refine iteT ?_
  | with_reducible refine iteF ?_
  | with_reducible refine ⟨_, frz_per, ?_⟩
  | with_reducible refine ⟨_, frz_own, ?_⟩
  | refine ⟨_, rfl, ?_⟩
  | refine ⟨_, argD1, ?_⟩
  | refine ⟨_, argD2, ?_⟩
  | refine ⟨_, argD0, ?_⟩
  | refine ⟨_, argD3, ?_⟩
  | refine ⟨_, argD4, ?_⟩
  | refine ⟨_, _, rfl, rfl, rfl, ?_⟩
  | refine ⟨_, _, _, rfl, rfl, rfl, ?_⟩
  | refine ⟨(by simp only [List.length_cons, List.length_nil]; decide), ?_⟩
  | refine ⟨rfl, nd1, ?_⟩
  | refine ⟨rfl, nd0, ?_⟩)
end G

namespace G
open PySem L2
local macro_rules | `(tactic| walk_at "g1") => `(tactic| first
  | (with_reducible show WE _ _ _; with_reducible first | refine we_var (by with_unfolding_all exact rfl) ?_ | (show WE (tOp _ _ _) _ _; first | refine we_ixS (by with_unfolding_all exact rfl) ?_ | refine we_ixScr (by with_unfolding_all exact rfl) ?_ | refine we_inS (by with_unfolding_all exact rfl) ?_ | refine we_notInS (by with_unfolding_all exact rfl) ?_ | refine we_eqS (by with_unfolding_all exact rfl) ?_ | refine we_neS (by with_unfolding_all exact rfl) ?_ | refine we_opK ?_) | (show WE (tCB _ _) _ _; first | refine we_lenS' (by with_unfolding_all exact rfl) ?_ | refine we_lenScr (by with_unfolding_all exact rfl) ?_ | refine we_cbK ?_) | refine we_int ?_ | refine we_bl ?_ | refine we_non ?_ | refine we_str ?_ | refine we_neg ?_ | refine we_not ?_ | refine we_and ?_ | refine we_or ?_ | refine we_if ?_ | refine we_tup ?_ | refine we_lst ?_ | refine we_call ?_ | refine we_mt (by with_unfolding_all exact rfl) ?_)
  | (with_reducible show WS _ _ _ _; with_reducible first | refine ws_seqA ?_ | refine ws_seqD ?_ | refine ws_asg (by with_unfolding_all exact rfl) ?_ | refine ws_asgG ?_ | refine ws_if ?_ | refine ws_ret ?_ | refine ws_drop ?_ | refine ws_next ?_ | refine ws_retN ?_)
  | (with_reducible show WT _ _ _; with_reducible first | refine wt_test ?_ | refine wt_B ?_ | refine wt_not ?_ | refine wt_and ?_ | refine wt_or ?_ | refine wt_yes ?_)
  | (with_reducible show WA _ _ _; with_reducible first | refine wa_nil ?_ | refine wa_cons (wq_of (we_var (by with_unfolding_all exact rfl) ?_)) | refine wa_slotU (by with_unfolding_all exact rfl) ?_ | refine wa_cons ?_)
  | (with_reducible show OpK _ _ _ _ _; with_reducible first | refine ok_plusI ?_ | refine ok_sub ?_ | refine ok_lt ?_ | refine ok_le ?_ | refine ok_gt ?_ | refine ok_ge ?_ | refine ok_eqI ?_ | refine ok_neI ?_ | refine ok_mod (by first | assumption | decide | omega) ?_ | refine ok_ixL (by with_unfolding_all exact rfl) ?_)
  | (with_reducible show CbK _ _ _ _; with_reducible first | refine ck_lenL ?_ | refine ck_lenT ?_ | refine ck_int ?_ | refine ck_intB ?_ | refine ck_max ?_ | refine ck_min ?_ | refine ck_list ?_)
  | with_reducible refine wq_of ?_
  | (with_reducible show WG _ _ _ _ _; with_reducible first | refine wg_name (by with_unfolding_all exact rfl) ?_ | refine wg_tup (by with_unfolding_all exact rfl) ?_ | refine wg_set (by with_unfolding_all exact rfl) ?_)
  | (with_reducible show WGs _ _ _ _ _; with_reducible first | refine wgs_cons ?_ | refine wgs_nil ?_)
  | with_reducible refine iteT ?_
  | with_reducible refine iteF ?_
  | with_reducible refine ⟨_, frz_per, ?_⟩
  | with_reducible refine ⟨_, frz_own, ?_⟩
  | refine ⟨_, rfl, ?_⟩
  | refine ⟨_, argD1, ?_⟩
  | refine ⟨_, argD2, ?_⟩
  | refine ⟨_, argD0, ?_⟩
  | refine ⟨_, argD3, ?_⟩
  | refine ⟨_, argD4, ?_⟩
  | refine ⟨_, _, rfl, rfl, rfl, ?_⟩
  | refine ⟨_, _, _, rfl, rfl, rfl, ?_⟩
  | refine ⟨(by simp only [List.length_cons, List.length_nil]; decide), ?_⟩
  | refine ⟨rfl, nd1, ?_⟩
  | refine ⟨rfl, nd0, ?_⟩)
local macro_rules | `(tactic| walk_at "go") => `(tactic| repeat walk_at "g1")
local macro_rules | `(tactic| walk_at "g2") => `(tactic| first
  | (with_reducible show WE _ _ _; with_reducible first | refine we_var (by with_unfolding_all exact rfl) ?_ | (show WE (tOp _ _ _) _ _; first | refine we_notN ?_ | refine we_ixS (by with_unfolding_all exact rfl) ?_ | refine we_ixScr (by with_unfolding_all exact rfl) ?_ | refine we_inS (by with_unfolding_all exact rfl) ?_ | refine we_notInS (by with_unfolding_all exact rfl) ?_ | refine we_eqS (by with_unfolding_all exact rfl) ?_ | refine we_neS (by with_unfolding_all exact rfl) ?_ | refine we_opK ?_) | (show WE (tCB _ _) _ _; first | refine we_isInt ?_ | refine we_isBl ?_ | refine we_isLst ?_ | refine we_isTup ?_ | refine we_lenO (by with_unfolding_all exact rfl) ?_ | refine we_lenS' (by with_unfolding_all exact rfl) ?_ | refine we_lenScr (by with_unfolding_all exact rfl) ?_ | refine we_cbK ?_) | refine we_chain ?_ | refine we_slice ?_ | refine we_int ?_ | refine we_bl ?_ | refine we_non ?_ | refine we_str ?_ | refine we_neg ?_ | refine we_not ?_ | refine we_and ?_ | refine we_or ?_ | refine we_if ?_ | refine we_tup ?_ | refine we_lst ?_ | refine we_call ?_ | refine we_mt (by with_unfolding_all exact rfl) ?_)
  | (with_reducible show WS _ _ _ _; with_reducible first | refine ws_seqA ?_ | refine ws_seqD ?_ | refine ws_asg (by with_unfolding_all exact rfl) ?_ | refine ws_asgG ?_ | refine ws_if ?_ | refine ws_ret ?_ | refine ws_drop ?_ | refine ws_next ?_ | refine ws_retN ?_)
  | (with_reducible show WT _ _ _; with_reducible first | refine wt_test ?_ | refine wt_B ?_ | refine wt_not ?_ | refine wt_and ?_ | refine wt_or ?_ | refine wt_yes ?_)
  | (with_reducible show WA _ _ _; with_reducible first | refine wa_nil ?_ | refine wa_cons (wq_of (we_var (by with_unfolding_all exact rfl) ?_)) | refine wa_slotU (by with_unfolding_all exact rfl) ?_ | refine wa_cons ?_)
  | (with_reducible show OpK _ _ _ _ _; with_reducible first | refine ok_isB ?_ | refine ok_notB ?_ | refine ok_plusI ?_ | refine ok_sub ?_ | refine ok_lt ?_ | refine ok_le ?_ | refine ok_gt ?_ | refine ok_ge ?_ | refine ok_eqI ?_ | refine ok_neI ?_ | refine ok_mod (by first | assumption | decide | omega) ?_ | refine ok_ixL (by with_unfolding_all exact rfl) ?_)
  | (with_reducible show CbK _ _ _ _; with_reducible first | refine ck_lenL ?_ | refine ck_lenT ?_ | refine ck_int ?_ | refine ck_intB ?_ | refine ck_max ?_ | refine ck_min ?_ | refine ck_list ?_)
  | with_reducible refine wq_of ?_
  | (with_reducible show WG _ _ _ _ _; with_reducible first | refine wg_name (by with_unfolding_all exact rfl) ?_ | refine wg_tup (by with_unfolding_all exact rfl) ?_ | refine wg_set (by with_unfolding_all exact rfl) ?_)
  | (with_reducible show WGs _ _ _ _ _; with_reducible first | refine wgs_cons ?_ | refine wgs_nil ?_)
  | (with_reducible show WO _ _ _; with_reducible first | refine wo_some ?_ | refine wo_none ?_)
  | refine ⟨_, argD5, ?_⟩
  | refine ⟨_, argD6, ?_⟩
  | refine ⟨_, argD7, ?_⟩
  | refine ⟨_, argD9, ?_⟩
  | with_reducible refine iteT ?_
  | with_reducible refine iteF ?_
  | with_reducible refine ⟨_, frz_per, ?_⟩
  | with_reducible refine ⟨_, frz_own, ?_⟩
  | refine ⟨_, rfl, ?_⟩
  | refine ⟨_, argD1, ?_⟩
  | refine ⟨_, argD2, ?_⟩
  | refine ⟨_, argD0, ?_⟩
  | refine ⟨_, argD3, ?_⟩
  | refine ⟨_, argD4, ?_⟩
  | refine ⟨_, _, rfl, rfl, rfl, ?_⟩
  | refine ⟨_, _, _, rfl, rfl, rfl, ?_⟩
  | refine ⟨(by simp only [List.length_cons, List.length_nil]; decide), ?_⟩
  | refine ⟨rfl, nd1, ?_⟩
  | refine ⟨rfl, nd0, ?_⟩)
local macro_rules | `(tactic| walk_at "g2") => `(tactic| first | with_reducible refine we_isInt ?_ | with_reducible refine we_isBl ?_ | with_reducible refine we_isLst ?_ | with_reducible refine we_isTup ?_ | with_reducible refine we_chain ?_ | with_reducible refine we_lenO (by with_unfolding_all exact rfl) ?_ | with_reducible refine we_slice ?_ | with_reducible refine wo_some ?_ | with_reducible refine wo_none ?_ | walk_at "g1")
/-- the addresses of the program's classes -/
structure Ad where
  C_Web : Addr
  C_HueError : Addr
  C_InvalidWeb : Addr
  C_InvalidLists : Addr
  C_InvalidPlace : Addr
def F_Web_len_ (a : Ad) : Fw := fun gs kk _ => ∃ ds xs, gs = [per (objP a.C_Web ds)] ∧ lookD "_near" ds = some (.list xs) ∧ kk (dat (.int xs.length)) [none]
abbrev sp_Web_len_ (K : PySem.W.Frag) (a : Ad) : Sp := SpG 1 (F_Web_len_ a)
def F_Web_ties (a : Ad) : Fw := fun gs kk _ => ∃ ds xs, gs = [per (objP a.C_Web ds)] ∧ lookD "_ties" ds = some (.list xs) ∧ kk (own xs) [none]
abbrev sp_Web_ties (K : PySem.W.Frag) (a : Ad) : Sp := SpG 1 (F_Web_ties a)
/-- y is put at the end of the m-th one -/
def putAt (dss : List (List PyData)) (m : Nat) (y : PyData) : List (List PyData) := dss.set m (dss.getD m [] ++ [y])
def nearStep (dss : List (List PyData)) (t : Int × Int) : List (List PyData) := putAt (putAt dss t.1.toNat (.int t.2)) t.2.toNat (.int t.1)
/-- for each place the ones it is tied to, in the order of the ties -/
def nearL (n : Nat) (ts : List (Int × Int)) : List (List PyData) := ts.foldl nearStep (List.replicate n [])
theorem putAt_len {dss : List (List PyData)} {m : Nat} {y : PyData} : (putAt dss m y).length = dss.length := List.length_set
theorem nearStep_len {dss : List (List PyData)} {t : Int × Int} : (nearStep dss t).length = dss.length := by unfold nearStep; rw [putAt_len, putAt_len]
theorem nearFold_len : ∀ (ts : List (Int × Int)) (dss : List (List PyData)), (ts.foldl nearStep dss).length = dss.length
  | [], _ => rfl
  | t :: ts, dss => by rw [List.foldl_cons, nearFold_len ts, nearStep_len]
theorem nearL_len {n : Nat} {ts : List (Int × Int)} : (nearL n ts).length = n := by unfold nearL; rw [nearFold_len, List.length_replicate]
end G

namespace G
open PySem L2
local macro_rules | `(tactic| walk_at "g1") => `(tactic| first
  | (with_reducible show WE _ _ _; with_reducible first | refine we_var (by with_unfolding_all exact rfl) ?_ | (show WE (tOp _ _ _) _ _; first | refine we_ixS (by with_unfolding_all exact rfl) ?_ | refine we_ixScr (by with_unfolding_all exact rfl) ?_ | refine we_inS (by with_unfolding_all exact rfl) ?_ | refine we_notInS (by with_unfolding_all exact rfl) ?_ | refine we_eqS (by with_unfolding_all exact rfl) ?_ | refine we_neS (by with_unfolding_all exact rfl) ?_ | refine we_opK ?_) | (show WE (tCB _ _) _ _; first | refine we_lenS' (by with_unfolding_all exact rfl) ?_ | refine we_lenScr (by with_unfolding_all exact rfl) ?_ | refine we_cbK ?_) | refine we_int ?_ | refine we_bl ?_ | refine we_non ?_ | refine we_str ?_ | refine we_neg ?_ | refine we_not ?_ | refine we_and ?_ | refine we_or ?_ | refine we_if ?_ | refine we_tup ?_ | refine we_lst ?_ | refine we_call ?_ | refine we_mt (by with_unfolding_all exact rfl) ?_)
  | (with_reducible show WS _ _ _ _; with_reducible first | refine ws_seqA ?_ | refine ws_seqD ?_ | refine ws_asg (by with_unfolding_all exact rfl) ?_ | refine ws_asgG ?_ | refine ws_if ?_ | refine ws_ret ?_ | refine ws_drop ?_ | refine ws_next ?_ | refine ws_retN ?_)
  | (with_reducible show WT _ _ _; with_reducible first | refine wt_test ?_ | refine wt_B ?_ | refine wt_not ?_ | refine wt_and ?_ | refine wt_or ?_ | refine wt_yes ?_)
  | (with_reducible show WA _ _ _; with_reducible first | refine wa_nil ?_ | refine wa_cons (wq_of (we_var (by with_unfolding_all exact rfl) ?_)) | refine wa_slotU (by with_unfolding_all exact rfl) ?_ | refine wa_cons ?_)
  | (with_reducible show OpK _ _ _ _ _; with_reducible first | refine ok_plusI ?_ | refine ok_sub ?_ | refine ok_lt ?_ | refine ok_le ?_ | refine ok_gt ?_ | refine ok_ge ?_ | refine ok_eqI ?_ | refine ok_neI ?_ | refine ok_mod (by first | assumption | decide | omega) ?_ | refine ok_ixL (by with_unfolding_all exact rfl) ?_)
  | (with_reducible show CbK _ _ _ _; with_reducible first | refine ck_lenL ?_ | refine ck_lenT ?_ | refine ck_int ?_ | refine ck_intB ?_ | refine ck_max ?_ | refine ck_min ?_ | refine ck_list ?_)
  | with_reducible refine wq_of ?_
  | (with_reducible show WG _ _ _ _ _; with_reducible first | refine wg_name (by with_unfolding_all exact rfl) ?_ | refine wg_tup (by with_unfolding_all exact rfl) ?_ | refine wg_set (by with_unfolding_all exact rfl) ?_)
  | (with_reducible show WGs _ _ _ _ _; with_reducible first | refine wgs_cons ?_ | refine wgs_nil ?_)
  | with_reducible refine iteT ?_
  | with_reducible refine iteF ?_
  | with_reducible refine ⟨_, frz_per, ?_⟩
  | with_reducible refine ⟨_, frz_own, ?_⟩
  | refine ⟨_, rfl, ?_⟩
  | refine ⟨_, argD1, ?_⟩
  | refine ⟨_, argD2, ?_⟩
  | refine ⟨_, argD0, ?_⟩
  | refine ⟨_, argD3, ?_⟩
  | refine ⟨_, argD4, ?_⟩
  | refine ⟨_, _, rfl, rfl, rfl, ?_⟩
  | refine ⟨_, _, _, rfl, rfl, rfl, ?_⟩
  | refine ⟨(by simp only [List.length_cons, List.length_nil]; decide), ?_⟩
  | refine ⟨rfl, nd1, ?_⟩
  | refine ⟨rfl, nd0, ?_⟩)
local macro_rules | `(tactic| walk_at "go") => `(tactic| repeat walk_at "g1")
local macro_rules | `(tactic| walk_at "g2") => `(tactic| first
  | (with_reducible show WE _ _ _; with_reducible first | refine we_var (by with_unfolding_all exact rfl) ?_ | (show WE (tOp _ _ _) _ _; first | refine we_notN ?_ | refine we_ixS (by with_unfolding_all exact rfl) ?_ | refine we_ixScr (by with_unfolding_all exact rfl) ?_ | refine we_inS (by with_unfolding_all exact rfl) ?_ | refine we_notInS (by with_unfolding_all exact rfl) ?_ | refine we_eqS (by with_unfolding_all exact rfl) ?_ | refine we_neS (by with_unfolding_all exact rfl) ?_ | refine we_opK ?_) | (show WE (tCB _ _) _ _; first | refine we_isInt ?_ | refine we_isBl ?_ | refine we_isLst ?_ | refine we_isTup ?_ | refine we_lenO (by with_unfolding_all exact rfl) ?_ | refine we_lenS' (by with_unfolding_all exact rfl) ?_ | refine we_lenScr (by with_unfolding_all exact rfl) ?_ | refine we_cbK ?_) | refine we_chain ?_ | refine we_slice ?_ | refine we_int ?_ | refine we_bl ?_ | refine we_non ?_ | refine we_str ?_ | refine we_neg ?_ | refine we_not ?_ | refine we_and ?_ | refine we_or ?_ | refine we_if ?_ | refine we_tup ?_ | refine we_lst ?_ | refine we_call ?_ | refine we_mt (by with_unfolding_all exact rfl) ?_)
  | (with_reducible show WS _ _ _ _; with_reducible first | refine ws_seqA ?_ | refine ws_seqD ?_ | refine ws_asg (by with_unfolding_all exact rfl) ?_ | refine ws_asgG ?_ | refine ws_if ?_ | refine ws_ret ?_ | refine ws_drop ?_ | refine ws_next ?_ | refine ws_retN ?_)
  | (with_reducible show WT _ _ _; with_reducible first | refine wt_test ?_ | refine wt_B ?_ | refine wt_not ?_ | refine wt_and ?_ | refine wt_or ?_ | refine wt_yes ?_)
  | (with_reducible show WA _ _ _; with_reducible first | refine wa_nil ?_ | refine wa_cons (wq_of (we_var (by with_unfolding_all exact rfl) ?_)) | refine wa_slotU (by with_unfolding_all exact rfl) ?_ | refine wa_cons ?_)
  | (with_reducible show OpK _ _ _ _ _; with_reducible first | refine ok_isB ?_ | refine ok_notB ?_ | refine ok_plusI ?_ | refine ok_sub ?_ | refine ok_lt ?_ | refine ok_le ?_ | refine ok_gt ?_ | refine ok_ge ?_ | refine ok_eqI ?_ | refine ok_neI ?_ | refine ok_mod (by first | assumption | decide | omega) ?_ | refine ok_ixL (by with_unfolding_all exact rfl) ?_)
  | (with_reducible show CbK _ _ _ _; with_reducible first | refine ck_lenL ?_ | refine ck_lenT ?_ | refine ck_int ?_ | refine ck_intB ?_ | refine ck_max ?_ | refine ck_min ?_ | refine ck_list ?_)
  | with_reducible refine wq_of ?_
  | (with_reducible show WG _ _ _ _ _; with_reducible first | refine wg_name (by with_unfolding_all exact rfl) ?_ | refine wg_tup (by with_unfolding_all exact rfl) ?_ | refine wg_set (by with_unfolding_all exact rfl) ?_)
  | (with_reducible show WGs _ _ _ _ _; with_reducible first | refine wgs_cons ?_ | refine wgs_nil ?_)
  | (with_reducible show WO _ _ _; with_reducible first | refine wo_some ?_ | refine wo_none ?_)
  | refine ⟨_, argD5, ?_⟩
  | refine ⟨_, argD6, ?_⟩
  | refine ⟨_, argD7, ?_⟩
  | refine ⟨_, argD9, ?_⟩
  | with_reducible refine iteT ?_
  | with_reducible refine iteF ?_
  | with_reducible refine ⟨_, frz_per, ?_⟩
  | with_reducible refine ⟨_, frz_own, ?_⟩
  | refine ⟨_, rfl, ?_⟩
  | refine ⟨_, argD1, ?_⟩
  | refine ⟨_, argD2, ?_⟩
  | refine ⟨_, argD0, ?_⟩
  | refine ⟨_, argD3, ?_⟩
  | refine ⟨_, argD4, ?_⟩
  | refine ⟨_, _, rfl, rfl, rfl, ?_⟩
  | refine ⟨_, _, _, rfl, rfl, rfl, ?_⟩
  | refine ⟨(by simp only [List.length_cons, List.length_nil]; decide), ?_⟩
  | refine ⟨rfl, nd1, ?_⟩
  | refine ⟨rfl, nd0, ?_⟩)
local macro_rules | `(tactic| walk_at "g2") => `(tactic| first | with_reducible refine we_isInt ?_ | with_reducible refine we_isBl ?_ | with_reducible refine we_isLst ?_ | with_reducible refine we_isTup ?_ | with_reducible refine we_chain ?_ | with_reducible refine we_lenO (by with_unfolding_all exact rfl) ?_ | with_reducible refine we_lenSetT ?_ | with_reducible refine we_slice ?_ | with_reducible refine wo_some ?_ | with_reducible refine wo_none ?_ | walk_at "g1")
/-- the attributes of a web -/
def webF (n : Nat) (ts : List (Int × Int)) : List (Str × PyData) := [("_ties", .list (ts.map tieD)), ("_near", .list ((nearL n ts).map .list))]
theorem webF_near {n : Nat} {ts : List (Int × Int)} : lookD "_near" (webF n ts) = some (.list ((nearL n ts).map .list)) := by
  show (if ("_ties" : Str) = "_near" then _ else if ("_near" : Str) = "_near" then _ else _) = _
  rw [if_neg (by decide +kernel), if_pos rfl]
theorem webF_ties {n : Nat} {ts : List (Int × Int)} : lookD "_ties" (webF n ts) = some (.list (ts.map tieD)) := by
  show (if ("_ties" : Str) = "_ties" then _ else _) = _
  rw [if_pos rfl]
end G

namespace G
open PySem L2
local macro_rules | `(tactic| walk_at "g1") => `(tactic| first
  | (with_reducible show WE _ _ _; with_reducible first | refine we_var (by with_unfolding_all exact rfl) ?_ | (show WE (tOp _ _ _) _ _; first | refine we_ixS (by with_unfolding_all exact rfl) ?_ | refine we_ixScr (by with_unfolding_all exact rfl) ?_ | refine we_inS (by with_unfolding_all exact rfl) ?_ | refine we_notInS (by with_unfolding_all exact rfl) ?_ | refine we_eqS (by with_unfolding_all exact rfl) ?_ | refine we_neS (by with_unfolding_all exact rfl) ?_ | refine we_opK ?_) | (show WE (tCB _ _) _ _; first | refine we_lenS' (by with_unfolding_all exact rfl) ?_ | refine we_lenScr (by with_unfolding_all exact rfl) ?_ | refine we_cbK ?_) | refine we_int ?_ | refine we_bl ?_ | refine we_non ?_ | refine we_str ?_ | refine we_neg ?_ | refine we_not ?_ | refine we_and ?_ | refine we_or ?_ | refine we_if ?_ | refine we_tup ?_ | refine we_lst ?_ | refine we_call ?_ | refine we_mt (by with_unfolding_all exact rfl) ?_)
  | (with_reducible show WS _ _ _ _; with_reducible first | refine ws_seqA ?_ | refine ws_seqD ?_ | refine ws_asg (by with_unfolding_all exact rfl) ?_ | refine ws_asgG ?_ | refine ws_if ?_ | refine ws_ret ?_ | refine ws_drop ?_ | refine ws_next ?_ | refine ws_retN ?_)
  | (with_reducible show WT _ _ _; with_reducible first | refine wt_test ?_ | refine wt_B ?_ | refine wt_not ?_ | refine wt_and ?_ | refine wt_or ?_ | refine wt_yes ?_)
  | (with_reducible show WA _ _ _; with_reducible first | refine wa_nil ?_ | refine wa_cons (wq_of (we_var (by with_unfolding_all exact rfl) ?_)) | refine wa_slotU (by with_unfolding_all exact rfl) ?_ | refine wa_cons ?_)
  | (with_reducible show OpK _ _ _ _ _; with_reducible first | refine ok_plusI ?_ | refine ok_sub ?_ | refine ok_lt ?_ | refine ok_le ?_ | refine ok_gt ?_ | refine ok_ge ?_ | refine ok_eqI ?_ | refine ok_neI ?_ | refine ok_mod (by first | assumption | decide | omega) ?_ | refine ok_ixL (by with_unfolding_all exact rfl) ?_)
  | (with_reducible show CbK _ _ _ _; with_reducible first | refine ck_lenL ?_ | refine ck_lenT ?_ | refine ck_int ?_ | refine ck_intB ?_ | refine ck_max ?_ | refine ck_min ?_ | refine ck_list ?_)
  | with_reducible refine wq_of ?_
  | (with_reducible show WG _ _ _ _ _; with_reducible first | refine wg_name (by with_unfolding_all exact rfl) ?_ | refine wg_tup (by with_unfolding_all exact rfl) ?_ | refine wg_set (by with_unfolding_all exact rfl) ?_)
  | (with_reducible show WGs _ _ _ _ _; with_reducible first | refine wgs_cons ?_ | refine wgs_nil ?_)
  | with_reducible refine iteT ?_
  | with_reducible refine iteF ?_
  | with_reducible refine ⟨_, frz_per, ?_⟩
  | with_reducible refine ⟨_, frz_own, ?_⟩
  | refine ⟨_, rfl, ?_⟩
  | refine ⟨_, argD1, ?_⟩
  | refine ⟨_, argD2, ?_⟩
  | refine ⟨_, argD0, ?_⟩
  | refine ⟨_, argD3, ?_⟩
  | refine ⟨_, argD4, ?_⟩
  | refine ⟨_, _, rfl, rfl, rfl, ?_⟩
  | refine ⟨_, _, _, rfl, rfl, rfl, ?_⟩
  | refine ⟨(by simp only [List.length_cons, List.length_nil]; decide), ?_⟩
  | refine ⟨rfl, nd1, ?_⟩
  | refine ⟨rfl, nd0, ?_⟩)
local macro_rules | `(tactic| walk_at "go") => `(tactic| repeat walk_at "g1")
local macro_rules | `(tactic| walk_at "g2") => `(tactic| first
  | (with_reducible show WE _ _ _; with_reducible first | refine we_var (by with_unfolding_all exact rfl) ?_ | (show WE (tOp _ _ _) _ _; first | refine we_notN ?_ | refine we_ixS (by with_unfolding_all exact rfl) ?_ | refine we_ixScr (by with_unfolding_all exact rfl) ?_ | refine we_inS (by with_unfolding_all exact rfl) ?_ | refine we_notInS (by with_unfolding_all exact rfl) ?_ | refine we_eqS (by with_unfolding_all exact rfl) ?_ | refine we_neS (by with_unfolding_all exact rfl) ?_ | refine we_opK ?_) | (show WE (tCB _ _) _ _; first | refine we_isInt ?_ | refine we_isBl ?_ | refine we_isLst ?_ | refine we_isTup ?_ | refine we_lenO (by with_unfolding_all exact rfl) ?_ | refine we_lenS' (by with_unfolding_all exact rfl) ?_ | refine we_lenScr (by with_unfolding_all exact rfl) ?_ | refine we_cbK ?_) | refine we_chain ?_ | refine we_slice ?_ | refine we_int ?_ | refine we_bl ?_ | refine we_non ?_ | refine we_str ?_ | refine we_neg ?_ | refine we_not ?_ | refine we_and ?_ | refine we_or ?_ | refine we_if ?_ | refine we_tup ?_ | refine we_lst ?_ | refine we_call ?_ | refine we_mt (by with_unfolding_all exact rfl) ?_)
  | (with_reducible show WS _ _ _ _; with_reducible first | refine ws_seqA ?_ | refine ws_seqD ?_ | refine ws_asg (by with_unfolding_all exact rfl) ?_ | refine ws_asgG ?_ | refine ws_if ?_ | refine ws_ret ?_ | refine ws_drop ?_ | refine ws_next ?_ | refine ws_retN ?_)
  | (with_reducible show WT _ _ _; with_reducible first | refine wt_test ?_ | refine wt_B ?_ | refine wt_not ?_ | refine wt_and ?_ | refine wt_or ?_ | refine wt_yes ?_)
  | (with_reducible show WA _ _ _; with_reducible first | refine wa_nil ?_ | refine wa_cons (wq_of (we_var (by with_unfolding_all exact rfl) ?_)) | refine wa_slotU (by with_unfolding_all exact rfl) ?_ | refine wa_cons ?_)
  | (with_reducible show OpK _ _ _ _ _; with_reducible first | refine ok_isB ?_ | refine ok_notB ?_ | refine ok_plusI ?_ | refine ok_sub ?_ | refine ok_lt ?_ | refine ok_le ?_ | refine ok_gt ?_ | refine ok_ge ?_ | refine ok_eqI ?_ | refine ok_neI ?_ | refine ok_mod (by first | assumption | decide | omega) ?_ | refine ok_ixL (by with_unfolding_all exact rfl) ?_)
  | (with_reducible show CbK _ _ _ _; with_reducible first | refine ck_lenL ?_ | refine ck_lenT ?_ | refine ck_int ?_ | refine ck_intB ?_ | refine ck_max ?_ | refine ck_min ?_ | refine ck_list ?_)
  | with_reducible refine wq_of ?_
  | (with_reducible show WG _ _ _ _ _; with_reducible first | refine wg_name (by with_unfolding_all exact rfl) ?_ | refine wg_tup (by with_unfolding_all exact rfl) ?_ | refine wg_set (by with_unfolding_all exact rfl) ?_)
  | (with_reducible show WGs _ _ _ _ _; with_reducible first | refine wgs_cons ?_ | refine wgs_nil ?_)
  | (with_reducible show WO _ _ _; with_reducible first | refine wo_some ?_ | refine wo_none ?_)
  | refine ⟨_, argD5, ?_⟩
  | refine ⟨_, argD6, ?_⟩
  | refine ⟨_, argD7, ?_⟩
  | refine ⟨_, argD9, ?_⟩
  | with_reducible refine iteT ?_
  | with_reducible refine iteF ?_
  | with_reducible refine ⟨_, frz_per, ?_⟩
  | with_reducible refine ⟨_, frz_own, ?_⟩
  | refine ⟨_, rfl, ?_⟩
  | refine ⟨_, argD1, ?_⟩
  | refine ⟨_, argD2, ?_⟩
  | refine ⟨_, argD0, ?_⟩
  | refine ⟨_, argD3, ?_⟩
  | refine ⟨_, argD4, ?_⟩
  | refine ⟨_, _, rfl, rfl, rfl, ?_⟩
  | refine ⟨_, _, _, rfl, rfl, rfl, ?_⟩
  | refine ⟨(by simp only [List.length_cons, List.length_nil]; decide), ?_⟩
  | refine ⟨rfl, nd1, ?_⟩
  | refine ⟨rfl, nd0, ?_⟩)
local macro_rules | `(tactic| walk_at "g2") => `(tactic| first | with_reducible refine we_isInt ?_ | with_reducible refine we_isBl ?_ | with_reducible refine we_isLst ?_ | with_reducible refine we_isTup ?_ | with_reducible refine we_chain ?_ | with_reducible refine we_lenO (by with_unfolding_all exact rfl) ?_ | with_reducible refine we_lenSetT ?_ | with_reducible refine we_slice ?_ | with_reducible refine wo_some ?_ | with_reducible refine wo_none ?_ | walk_at "g1")
def intOf : PyData → Int
  | .int i => i
  | _ => 0
theorem cnts_ints : ∀ {ds : List PyData}, ds.all cntD = true → ds = (ds.map intOf).map .int
  | [], _ => rfl
  | d :: ds, h => by
    rw [List.all_cons, Bool.and_eq_true] at h
    have e : d = .int (intOf d) := by
      cases d <;> first | rfl | exact Bool.noConfusion h.1
    rw [List.map_cons, List.map_cons, ← e, ← cnts_ints h.2]
end G

namespace G
open PySem L2
local macro_rules | `(tactic| walk_at "g1") => `(tactic| first
  | (with_reducible show WE _ _ _; with_reducible first | refine we_var (by with_unfolding_all exact rfl) ?_ | (show WE (tOp _ _ _) _ _; first | refine we_ixS (by with_unfolding_all exact rfl) ?_ | refine we_ixScr (by with_unfolding_all exact rfl) ?_ | refine we_inS (by with_unfolding_all exact rfl) ?_ | refine we_notInS (by with_unfolding_all exact rfl) ?_ | refine we_eqS (by with_unfolding_all exact rfl) ?_ | refine we_neS (by with_unfolding_all exact rfl) ?_ | refine we_opK ?_) | (show WE (tCB _ _) _ _; first | refine we_lenS' (by with_unfolding_all exact rfl) ?_ | refine we_lenScr (by with_unfolding_all exact rfl) ?_ | refine we_cbK ?_) | refine we_int ?_ | refine we_bl ?_ | refine we_non ?_ | refine we_str ?_ | refine we_neg ?_ | refine we_not ?_ | refine we_and ?_ | refine we_or ?_ | refine we_if ?_ | refine we_tup ?_ | refine we_lst ?_ | refine we_call ?_ | refine we_mt (by with_unfolding_all exact rfl) ?_)
  | (with_reducible show WS _ _ _ _; with_reducible first | refine ws_seqA ?_ | refine ws_seqD ?_ | refine ws_asg (by with_unfolding_all exact rfl) ?_ | refine ws_asgG ?_ | refine ws_if ?_ | refine ws_ret ?_ | refine ws_drop ?_ | refine ws_next ?_ | refine ws_retN ?_)
  | (with_reducible show WT _ _ _; with_reducible first | refine wt_test ?_ | refine wt_B ?_ | refine wt_not ?_ | refine wt_and ?_ | refine wt_or ?_ | refine wt_yes ?_)
  | (with_reducible show WA _ _ _; with_reducible first | refine wa_nil ?_ | refine wa_cons (wq_of (we_var (by with_unfolding_all exact rfl) ?_)) | refine wa_slotU (by with_unfolding_all exact rfl) ?_ | refine wa_cons ?_)
  | (with_reducible show OpK _ _ _ _ _; with_reducible first | refine ok_plusI ?_ | refine ok_sub ?_ | refine ok_lt ?_ | refine ok_le ?_ | refine ok_gt ?_ | refine ok_ge ?_ | refine ok_eqI ?_ | refine ok_neI ?_ | refine ok_mod (by first | assumption | decide | omega) ?_ | refine ok_ixL (by with_unfolding_all exact rfl) ?_)
  | (with_reducible show CbK _ _ _ _; with_reducible first | refine ck_lenL ?_ | refine ck_lenT ?_ | refine ck_int ?_ | refine ck_intB ?_ | refine ck_max ?_ | refine ck_min ?_ | refine ck_list ?_)
  | with_reducible refine wq_of ?_
  | (with_reducible show WG _ _ _ _ _; with_reducible first | refine wg_name (by with_unfolding_all exact rfl) ?_ | refine wg_tup (by with_unfolding_all exact rfl) ?_ | refine wg_set (by with_unfolding_all exact rfl) ?_)
  | (with_reducible show WGs _ _ _ _ _; with_reducible first | refine wgs_cons ?_ | refine wgs_nil ?_)
  | with_reducible refine iteT ?_
  | with_reducible refine iteF ?_
  | with_reducible refine ⟨_, frz_per, ?_⟩
  | with_reducible refine ⟨_, frz_own, ?_⟩
  | refine ⟨_, rfl, ?_⟩
  | refine ⟨_, argD1, ?_⟩
  | refine ⟨_, argD2, ?_⟩
  | refine ⟨_, argD0, ?_⟩
  | refine ⟨_, argD3, ?_⟩
  | refine ⟨_, argD4, ?_⟩
  | refine ⟨_, _, rfl, rfl, rfl, ?_⟩
  | refine ⟨_, _, _, rfl, rfl, rfl, ?_⟩
  | refine ⟨(by simp only [List.length_cons, List.length_nil]; decide), ?_⟩
  | refine ⟨rfl, nd1, ?_⟩
  | refine ⟨rfl, nd0, ?_⟩)
local macro_rules | `(tactic| walk_at "go") => `(tactic| repeat walk_at "g1")
local macro_rules | `(tactic| walk_at "g2") => `(tactic| first
  | (with_reducible show WE _ _ _; with_reducible first | refine we_var (by with_unfolding_all exact rfl) ?_ | (show WE (tOp _ _ _) _ _; first | refine we_notN ?_ | refine we_ixS (by with_unfolding_all exact rfl) ?_ | refine we_ixScr (by with_unfolding_all exact rfl) ?_ | refine we_inS (by with_unfolding_all exact rfl) ?_ | refine we_notInS (by with_unfolding_all exact rfl) ?_ | refine we_eqS (by with_unfolding_all exact rfl) ?_ | refine we_neS (by with_unfolding_all exact rfl) ?_ | refine we_opK ?_) | (show WE (tCB _ _) _ _; first | refine we_isInt ?_ | refine we_isBl ?_ | refine we_isLst ?_ | refine we_isTup ?_ | refine we_lenO (by with_unfolding_all exact rfl) ?_ | refine we_lenS' (by with_unfolding_all exact rfl) ?_ | refine we_lenScr (by with_unfolding_all exact rfl) ?_ | refine we_cbK ?_) | refine we_chain ?_ | refine we_slice ?_ | refine we_int ?_ | refine we_bl ?_ | refine we_non ?_ | refine we_str ?_ | refine we_neg ?_ | refine we_not ?_ | refine we_and ?_ | refine we_or ?_ | refine we_if ?_ | refine we_tup ?_ | refine we_lst ?_ | refine we_call ?_ | refine we_mt (by with_unfolding_all exact rfl) ?_)
  | (with_reducible show WS _ _ _ _; with_reducible first | refine ws_seqA ?_ | refine ws_seqD ?_ | refine ws_asg (by with_unfolding_all exact rfl) ?_ | refine ws_asgG ?_ | refine ws_if ?_ | refine ws_ret ?_ | refine ws_drop ?_ | refine ws_next ?_ | refine ws_retN ?_)
  | (with_reducible show WT _ _ _; with_reducible first | refine wt_test ?_ | refine wt_B ?_ | refine wt_not ?_ | refine wt_and ?_ | refine wt_or ?_ | refine wt_yes ?_)
  | (with_reducible show WA _ _ _; with_reducible first | refine wa_nil ?_ | refine wa_cons (wq_of (we_var (by with_unfolding_all exact rfl) ?_)) | refine wa_slotU (by with_unfolding_all exact rfl) ?_ | refine wa_cons ?_)
  | (with_reducible show OpK _ _ _ _ _; with_reducible first | refine ok_isB ?_ | refine ok_notB ?_ | refine ok_plusI ?_ | refine ok_sub ?_ | refine ok_lt ?_ | refine ok_le ?_ | refine ok_gt ?_ | refine ok_ge ?_ | refine ok_eqI ?_ | refine ok_neI ?_ | refine ok_mod (by first | assumption | decide | omega) ?_ | refine ok_ixL (by with_unfolding_all exact rfl) ?_)
  | (with_reducible show CbK _ _ _ _; with_reducible first | refine ck_lenL ?_ | refine ck_lenT ?_ | refine ck_int ?_ | refine ck_intB ?_ | refine ck_max ?_ | refine ck_min ?_ | refine ck_list ?_)
  | with_reducible refine wq_of ?_
  | (with_reducible show WG _ _ _ _ _; with_reducible first | refine wg_name (by with_unfolding_all exact rfl) ?_ | refine wg_tup (by with_unfolding_all exact rfl) ?_ | refine wg_set (by with_unfolding_all exact rfl) ?_)
  | (with_reducible show WGs _ _ _ _ _; with_reducible first | refine wgs_cons ?_ | refine wgs_nil ?_)
  | (with_reducible show WO _ _ _; with_reducible first | refine wo_some ?_ | refine wo_none ?_)
  | refine ⟨_, argD5, ?_⟩
  | refine ⟨_, argD6, ?_⟩
  | refine ⟨_, argD7, ?_⟩
  | refine ⟨_, argD9, ?_⟩
  | with_reducible refine iteT ?_
  | with_reducible refine iteF ?_
  | with_reducible refine ⟨_, frz_per, ?_⟩
  | with_reducible refine ⟨_, frz_own, ?_⟩
  | refine ⟨_, rfl, ?_⟩
  | refine ⟨_, argD1, ?_⟩
  | refine ⟨_, argD2, ?_⟩
  | refine ⟨_, argD0, ?_⟩
  | refine ⟨_, argD3, ?_⟩
  | refine ⟨_, argD4, ?_⟩
  | refine ⟨_, _, rfl, rfl, rfl, ?_⟩
  | refine ⟨_, _, _, rfl, rfl, rfl, ?_⟩
  | refine ⟨(by simp only [List.length_cons, List.length_nil]; decide), ?_⟩
  | refine ⟨rfl, nd1, ?_⟩
  | refine ⟨rfl, nd0, ?_⟩)
local macro_rules | `(tactic| walk_at "g2") => `(tactic| first | with_reducible refine we_isInt ?_ | with_reducible refine we_isLst ?_ | with_reducible refine we_chain ?_ | with_reducible refine we_lenO (by with_unfolding_all exact rfl) ?_ | with_reducible refine we_slice ?_ | with_reducible refine wo_some ?_ | with_reducible refine wo_none ?_ | walk_at "g1")
abbrev t_law_pool_0 (K : PySem.W.Frag) : TS :=
  (tSeq (tAsg (tOp (rPlus K) (tC (.int 1)) (tCall (sp_law_pick K) [] E0 (tCons (tVar 0) (tCons (tOp (rIx K) (tLst (tCons (tC (.int 1)) (tCons (tC (.int 9)) (tCons (tOp (rPowI) (tC (.int 10)) (tC (.int 7))) tNil)))) (tCall (sp_law_pick K) [] E0 (tCons (tVar 0) (tCons (tC (.int 3)) tNil)))) tNil)))) (gName 3))
    (tRet (tLc (iRng1 (tCons (tVar 1) tNil)) (gName 4) tYes (tOp (rPlus K) (tVar 2) (tOp (rMulI) (tVar 4) (tVar 3))) [4])))
abbrev t_law_pool_1 (K : PySem.W.Frag) : TS :=
  (tSeq (tAsg (tOp (rIx K) (tLst (tCons (tC (.int 0)) (tCons (tC (.int 1)) (tCons (tCall (sp_law_pick K) [] E0 (tCons (tVar 0) (tCons (tOp (rMulI) (tC (.int 9)) (tOp (rPowI) (tC (.int 10)) (tC (.int 8)))) tNil))) tNil)))) (tCall (sp_law_pick K) [] E0 (tCons (tVar 0) (tCons (tC (.int 3)) tNil)))) (gName 2))
    (t_law_pool_0 K))
def t_law_pool (K : PySem.W.Frag) : TS :=
  (t_law_pool_1 K)
abbrev N_law_pool : List Str := ["urn", "many", "start", "step", "k"]
abbrev F_law_pool : Fw := fun gs kk xx => ∃ (m n : Nat), gs = [urn m, dat (.int n)] ∧ 4 ≤ m ∧ n ≤ 100 ∧ ∀ ps : List Int, ps.length = n → ps.Pairwise (· < ·) → (∀ p ∈ ps, 0 ≤ p ∧ p < 10 ^ 12) → kk (own (ps.map .int)) [some (urn (m - 4)), none]
abbrev sp_law_pool (K : PySem.W.Frag) : Sp := SpG 2 F_law_pool
/-- start, start + step, .. -/
def prog (s t : Int) (i : Nat) : List Int := (List.range i).map fun (k : Nat) => s + (k : Int) * t
theorem prog_len {s t : Int} {i : Nat} : (prog s t i).length = i := by unfold prog; rw [List.length_map, List.length_range]
theorem prog_lt {s t : Int} {i : Nat} (ht : 1 ≤ t) : (prog s t i).Pairwise (· < ·) := by
  unfold prog
  refine List.Pairwise.map _ (fun (a b : Nat) (h : a < b) => ?_) List.pairwise_lt_range
  have : (a : Int) * t < (b : Int) * t := Int.mul_lt_mul_of_pos_right (by omega) (by omega)
  omega
theorem prog_nn {s t : Int} {i : Nat} (hs : 0 ≤ s) (ht : 1 ≤ t) (hs2 : s < 10 ^ 10) (ht2 : t ≤ 10 ^ 9) (hi : i ≤ 100) : ∀ p ∈ prog s t i, 0 ≤ p ∧ p < 10 ^ 12 := fun p hp => by
  unfold prog at hp
  obtain ⟨k, hk, rfl⟩ := List.mem_map.mp hp
  have hk := List.mem_range.mp hk
  have : 0 ≤ (k : Int) * t := Int.mul_nonneg (by omega) (by omega)
  have h2 : (k : Int) * t ≤ 100 * 10 ^ 9 := Int.mul_le_mul (by omega) ht2 (by omega) (by omega)
  omega
theorem prog_snoc {s t : Int} {i : Nat} : prog s t (i + 1) = prog s t i ++ [s + (i : Int) * t] := by
  unfold prog
  rw [List.range_succ, List.map_append]
  rfl
theorem pure_law_pool {K : PySem.W.Frag} {vs : List V} {H : Hp} {Q : VK} {E : XK} (h : sp_law_pool K vs H Q E) : t_law_pool K { nx := fun _ H' => Q .non H', rt := Q } (L2.start N_law_pool vs) H := by
  refine body_ok (fun i => i == 0) ?_ h
  rintro gs kk xx ⟨m, n, rfl, hm, hn, hk⟩ -
  unfold t_law_pool
  walk_at "go"
  refine ok_pow (cpow_of (by decide) (by decide) (by decide)) ?_
  walk_at "go"
  refine ok_mul (cmul_l (by decide) (by decide)) ?_
  walk_at "go"
  refine ⟨_, _, rfl, by omega, by decide, by decide, fun s s0 s1 => ?_⟩
  walk_at "go"
  refine ⟨_, _, rfl, by omega, by decide, by decide, fun r r0 r1 => ?_⟩
  walk_at "go"
  obtain ⟨b, hb, b0, b1⟩ : ∃ b : Int, atI [PyData.int 0, PyData.int 1, PyData.int s] r = some (.int b) ∧ 0 ≤ b ∧ b < 10 ^ 10 := by
    have s1' : s < 10 ^ 10 := Int.lt_of_lt_of_le s1 (by decide)
    rcases (by omega : r = 0 ∨ r = 1 ∨ r = 2) with e | e | e <;> subst e
    · exact ⟨0, rfl, by omega, by omega⟩
    · exact ⟨1, rfl, by omega, by omega⟩
    · exact ⟨s, rfl, s0, s1'⟩
  refine ok_ixL hb ?_
  walk_at "go"
  refine ok_pow (cpow_of (by decide) (by decide) (by decide)) ?_
  walk_at "go"
  refine ⟨_, _, rfl, by omega, by decide, by decide, fun r r0 r1 => ?_⟩
  walk_at "go"
  obtain ⟨c, hc, c0, c1⟩ : ∃ c : Int, atI [PyData.int 1, PyData.int 9, PyData.int (10 ^ Int.toNat 7)] r = some (.int c) ∧ 0 < c ∧ c < 10 ^ 9 := by
    rcases (by omega : r = 0 ∨ r = 1 ∨ r = 2) with e | e | e <;> subst e
    · exact ⟨1, rfl, by decide, by decide⟩
    · exact ⟨9, rfl, by decide, by decide⟩
    · exact ⟨10 ^ Int.toNat 7, rfl, by decide, by decide⟩
  refine ok_ixL hc ?_
  walk_at "go"
  refine ⟨_, _, rfl, by omega, c0, Int.lt_of_lt_of_le c1 (by decide), fun t t0 t1 => ?_⟩
  walk_at "go"
  refine we_lc (fun i acc Γ => acc = (prog b (1 + t) i).map .int ∧ Γ = [some (urn (m - 1 - 1 - 1 - 1)), some (dat (.int n)), some (dat (.int b)), some (dat (.int (1 + t))), none]) ?_
  refine wi_range1 ?_
  walk_at "go"
  refine ⟨by omega, by omega, ⟨rfl, rfl⟩, ?_, ?_⟩
  · rintro acc Γ2 ⟨rfl, rfl⟩
    refine ⟨_, _, Ent.refl, les_some (urn_le (by omega)) (les_none les_nil), hk _ (by rw [prog_len]; omega) (prog_lt (by omega)) (prog_nn b0 (by omega) (by omega) (by omega) (by omega))⟩
  · rintro i acc Γ2 hi ⟨rfl, rfl⟩ -
    dsimp only
    refine wg_name rfl ?_
    refine wt_yes ?_
    refine iteT ?_
    walk_at "go"
    refine ok_mul (cmul_l (by omega) (by omega)) ?_
    walk_at "go"
    refine ⟨by rw [List.length_map, prog_len]; omega, ?_, rfl⟩
    rw [prog_snoc, List.map_append, Int.zero_add]
    rfl
def t_law_row (K : PySem.W.Frag) : TS :=
  (tRet (tCB (rSortA K) (tCons (tSl (rSlL K) (tCall (sp_law_shuffled K) [] E0 (tCons (tVar 0) (tCons (tVar 1) tNil))) tNoPart (tPart (tVar 2))) tNil)))
abbrev N_law_row : List Str := ["urn", "pool", "size"]
theorem perm_ints {es : List PyData} {ps : List Int} (h : es.Perm (ps.map .int)) : ∃ ns : List Int, es = ns.map .int ∧ ns.Perm ps := by
  have e0 : ∀ {ns : List Int}, (ns.map PyData.int).map intOf = ns := fun {ns} => by
    rw [List.map_map]
    exact List.map_id ns
  refine ⟨es.map intOf, ?_, by have := h.map intOf; rwa [e0] at this⟩
  rw [List.map_map]
  refine (List.map_id es).symm.trans (List.map_congr_left fun d hd => ?_)
  obtain ⟨n, _, rfl⟩ := List.mem_map.mp (h.mem_iff.mp hd)
  rfl
theorem lt_of_le {ns : List Int} (h : ns.Pairwise (· ≤ ·)) (hn : ns.Nodup) : ns.Pairwise (· < ·) := (h.and hn).imp fun ⟨a, b⟩ => by
  have : _ ≠ _ := b
  omega
abbrev F_law_row : Fw := fun gs kk xx => ∃ (m : Nat) (ps : List Int) (z : Int), gs = [urn m, dat (.list (ps.map .int)), dat (.int z)] ∧ ps.length ≤ m ∧ ps.length ≤ 100 ∧ 0 ≤ z ∧ ps.Pairwise (· < ·) ∧ (∀ p ∈ ps, 0 ≤ p ∧ p < 10 ^ 12) ∧
  ∀ qs : List Int, qs.length = min z.toNat ps.length → qs.Pairwise (· < ·) → (∀ p ∈ qs, 0 ≤ p ∧ p < 10 ^ 12) → kk (own (qs.map .int)) [some (urn (m - ps.length)), none, none]
abbrev sp_law_row (K : PySem.W.Frag) : Sp := SpG 3 F_law_row
theorem pure_law_row {K : PySem.W.Frag} {vs : List V} {H : Hp} {Q : VK} {E : XK} (h : sp_law_row K vs H Q E) : t_law_row K { nx := fun _ H' => Q .non H', rt := Q } (L2.start N_law_row vs) H := by
  refine body_ok (fun i => i == 0) ?_ h
  rintro gs kk xx ⟨m, ps, z, rfl, hm, hl, hz, hp, h0, hk⟩ -
  unfold t_law_row
  repeat walk_at "g2"
  refine ⟨m, _, rfl, by rw [List.length_map]; exact hm, by rw [List.length_map]; omega, fun es he => ?_⟩
  obtain ⟨ns, rfl, hns⟩ := perm_ints he
  repeat walk_at "g2"
  rw [cutTo hz, List.length_map, ← List.map_take]
  refine ck_sortI fun ns' hp' hs' => ?_
  have hnd : ps.Nodup := hp.imp fun h => by omega
  have hnd' : ns'.Nodup := hp'.nodup_iff.mpr ((hns.nodup_iff.mpr hnd).sublist (List.take_sublist _ _))
  refine ⟨_, _, Ent.refl, les_some (urn_le (by rw [List.length_map]; exact Nat.le_refl _)) (les_none (les_none les_nil)), hk ns' ?_ (lt_of_le hs' hnd') fun p hp1 => ?_⟩
  · rw [hp'.length_eq, List.length_take, hns.length_eq]
    omega
  · exact h0 p (hns.mem_iff.mp (List.mem_of_mem_take (hp'.mem_iff.mp hp1)))
def t_law_copies (K : PySem.W.Frag) : TS :=
  (tRet (tLc (iList K (tVar 0)) (gName 1) tYes (tCB (rListOf K) (tCons (tVar 1) tNil)) [1]))
abbrev N_law_copies : List Str := ["rows", "row"]
abbrev F_law_copies : Fw := fun gs kk xx => ∃ (ls : List (List Int)), gs = [dat (.list (ls.map rowI))] ∧ ls.length < 1000 ∧ kk (own (ls.map rowI)) [none]
abbrev sp_law_copies (K : PySem.W.Frag) : Sp := SpG 1 F_law_copies
theorem pure_law_copies {K : PySem.W.Frag} {vs : List V} {H : Hp} {Q : VK} {E : XK} (h : sp_law_copies K vs H Q E) : t_law_copies K { nx := fun _ H' => Q .non H', rt := Q } (L2.start N_law_copies vs) H := by
  refine body_ok (fun i => false) ?_ h
  rintro gs kk xx ⟨ls, rfl, hl, hk⟩ -
  unfold t_law_copies
  repeat walk_at "g2"
  refine we_lc (fun i acc Γ => acc = (ls.take i).map rowI ∧ Γ = [some (dat (.list (ls.map rowI))), none]) ?_
  refine wi_list (wq_of (we_var rfl ⟨_, frz_per, _, rfl, ⟨rfl, rfl⟩, ?_, ?_⟩))
  · rintro acc Γ2 ⟨rfl, rfl⟩
    rw [List.length_map, List.take_length]
    exact ⟨_, _, Ent.refl, les_none les_nil, hk⟩
  · rintro i acc Γ2 hi ⟨rfl, rfl⟩ -
    rw [List.length_map] at hi
    obtain ⟨x, hx⟩ := getD_of hi
    have e : (ls.map rowI).getD i .none = rowI x := getD_at (by rw [List.getElem?_map, hx]; rfl)
    dsimp only
    rw [e]
    refine wg_name rfl ?_
    refine wt_yes ?_
    refine iteT ?_
    unfold rowI
    walk_at "go"
    exact ⟨by rw [List.length_map, List.length_take]; omega, (take_map (f := rowI) hx).symm, rfl⟩
end G

namespace G
open PySem L2
local macro_rules | `(tactic| walk_at "g1") => `(tactic| first
  | (with_reducible show WE _ _ _; with_reducible first | refine we_var (by with_unfolding_all exact rfl) ?_ | (show WE (tOp _ _ _) _ _; first | refine we_ixS (by with_unfolding_all exact rfl) ?_ | refine we_ixScr (by with_unfolding_all exact rfl) ?_ | refine we_inS (by with_unfolding_all exact rfl) ?_ | refine we_notInS (by with_unfolding_all exact rfl) ?_ | refine we_eqS (by with_unfolding_all exact rfl) ?_ | refine we_neS (by with_unfolding_all exact rfl) ?_ | refine we_opK ?_) | (show WE (tCB _ _) _ _; first | refine we_lenS' (by with_unfolding_all exact rfl) ?_ | refine we_lenScr (by with_unfolding_all exact rfl) ?_ | refine we_cbK ?_) | refine we_int ?_ | refine we_bl ?_ | refine we_non ?_ | refine we_str ?_ | refine we_neg ?_ | refine we_not ?_ | refine we_and ?_ | refine we_or ?_ | refine we_if ?_ | refine we_tup ?_ | refine we_lst ?_ | refine we_call ?_ | refine we_mt (by with_unfolding_all exact rfl) ?_)
  | (with_reducible show WS _ _ _ _; with_reducible first | refine ws_seqA ?_ | refine ws_seqD ?_ | refine ws_asg (by with_unfolding_all exact rfl) ?_ | refine ws_asgG ?_ | refine ws_if ?_ | refine ws_ret ?_ | refine ws_drop ?_ | refine ws_next ?_ | refine ws_retN ?_)
  | (with_reducible show WT _ _ _; with_reducible first | refine wt_test ?_ | refine wt_B ?_ | refine wt_not ?_ | refine wt_and ?_ | refine wt_or ?_ | refine wt_yes ?_)
  | (with_reducible show WA _ _ _; with_reducible first | refine wa_nil ?_ | refine wa_cons (wq_of (we_var (by with_unfolding_all exact rfl) ?_)) | refine wa_slotU (by with_unfolding_all exact rfl) ?_ | refine wa_cons ?_)
  | (with_reducible show OpK _ _ _ _ _; with_reducible first | refine ok_plusI ?_ | refine ok_sub ?_ | refine ok_lt ?_ | refine ok_le ?_ | refine ok_gt ?_ | refine ok_ge ?_ | refine ok_eqI ?_ | refine ok_neI ?_ | refine ok_mod (by first | assumption | decide | omega) ?_ | refine ok_ixL (by with_unfolding_all exact rfl) ?_)
  | (with_reducible show CbK _ _ _ _; with_reducible first | refine ck_lenL ?_ | refine ck_lenT ?_ | refine ck_int ?_ | refine ck_intB ?_ | refine ck_max ?_ | refine ck_min ?_ | refine ck_list ?_)
  | with_reducible refine wq_of ?_
  | (with_reducible show WG _ _ _ _ _; with_reducible first | refine wg_name (by with_unfolding_all exact rfl) ?_ | refine wg_tup (by with_unfolding_all exact rfl) ?_ | refine wg_set (by with_unfolding_all exact rfl) ?_)
  | (with_reducible show WGs _ _ _ _ _; with_reducible first | refine wgs_cons ?_ | refine wgs_nil ?_)
  | with_reducible refine iteT ?_
  | with_reducible refine iteF ?_
  | with_reducible refine ⟨_, frz_per, ?_⟩
  | with_reducible refine ⟨_, frz_own, ?_⟩
  | refine ⟨_, rfl, ?_⟩
  | refine ⟨_, argD1, ?_⟩
  | refine ⟨_, argD2, ?_⟩
  | refine ⟨_, argD0, ?_⟩
  | refine ⟨_, argD3, ?_⟩
  | refine ⟨_, argD4, ?_⟩
  | refine ⟨_, _, rfl, rfl, rfl, ?_⟩
  | refine ⟨_, _, _, rfl, rfl, rfl, ?_⟩
  | refine ⟨(by simp only [List.length_cons, List.length_nil]; decide), ?_⟩
  | refine ⟨rfl, nd1, ?_⟩
  | refine ⟨rfl, nd0, ?_⟩)
local macro_rules | `(tactic| walk_at "go") => `(tactic| repeat walk_at "g1")
local macro_rules | `(tactic| walk_at "g2") => `(tactic| first
  | (with_reducible show WE _ _ _; with_reducible first | refine we_var (by with_unfolding_all exact rfl) ?_ | (show WE (tOp _ _ _) _ _; first | refine we_notN ?_ | refine we_ixS (by with_unfolding_all exact rfl) ?_ | refine we_ixScr (by with_unfolding_all exact rfl) ?_ | refine we_inS (by with_unfolding_all exact rfl) ?_ | refine we_notInS (by with_unfolding_all exact rfl) ?_ | refine we_eqS (by with_unfolding_all exact rfl) ?_ | refine we_neS (by with_unfolding_all exact rfl) ?_ | refine we_opK ?_) | (show WE (tCB _ _) _ _; first | refine we_isInt ?_ | refine we_isBl ?_ | refine we_isLst ?_ | refine we_isTup ?_ | refine we_lenO (by with_unfolding_all exact rfl) ?_ | refine we_lenS' (by with_unfolding_all exact rfl) ?_ | refine we_lenScr (by with_unfolding_all exact rfl) ?_ | refine we_cbK ?_) | refine we_chain ?_ | refine we_slice ?_ | refine we_int ?_ | refine we_bl ?_ | refine we_non ?_ | refine we_str ?_ | refine we_neg ?_ | refine we_not ?_ | refine we_and ?_ | refine we_or ?_ | refine we_if ?_ | refine we_tup ?_ | refine we_lst ?_ | refine we_call ?_ | refine we_mt (by with_unfolding_all exact rfl) ?_)
  | (with_reducible show WS _ _ _ _; with_reducible first | refine ws_seqA ?_ | refine ws_seqD ?_ | refine ws_asg (by with_unfolding_all exact rfl) ?_ | refine ws_asgG ?_ | refine ws_if ?_ | refine ws_ret ?_ | refine ws_drop ?_ | refine ws_next ?_ | refine ws_retN ?_)
  | (with_reducible show WT _ _ _; with_reducible first | refine wt_test ?_ | refine wt_B ?_ | refine wt_not ?_ | refine wt_and ?_ | refine wt_or ?_ | refine wt_yes ?_)
  | (with_reducible show WA _ _ _; with_reducible first | refine wa_nil ?_ | refine wa_cons (wq_of (we_var (by with_unfolding_all exact rfl) ?_)) | refine wa_slotU (by with_unfolding_all exact rfl) ?_ | refine wa_cons ?_)
  | (with_reducible show OpK _ _ _ _ _; with_reducible first | refine ok_isB ?_ | refine ok_notB ?_ | refine ok_plusI ?_ | refine ok_sub ?_ | refine ok_lt ?_ | refine ok_le ?_ | refine ok_gt ?_ | refine ok_ge ?_ | refine ok_eqI ?_ | refine ok_neI ?_ | refine ok_mod (by first | assumption | decide | omega) ?_ | refine ok_ixL (by with_unfolding_all exact rfl) ?_)
  | (with_reducible show CbK _ _ _ _; with_reducible first | refine ck_lenL ?_ | refine ck_lenT ?_ | refine ck_int ?_ | refine ck_intB ?_ | refine ck_max ?_ | refine ck_min ?_ | refine ck_list ?_)
  | with_reducible refine wq_of ?_
  | (with_reducible show WG _ _ _ _ _; with_reducible first | refine wg_name (by with_unfolding_all exact rfl) ?_ | refine wg_tup (by with_unfolding_all exact rfl) ?_ | refine wg_set (by with_unfolding_all exact rfl) ?_)
  | (with_reducible show WGs _ _ _ _ _; with_reducible first | refine wgs_cons ?_ | refine wgs_nil ?_)
  | (with_reducible show WO _ _ _; with_reducible first | refine wo_some ?_ | refine wo_none ?_)
  | refine ⟨_, argD5, ?_⟩
  | refine ⟨_, argD6, ?_⟩
  | refine ⟨_, argD7, ?_⟩
  | refine ⟨_, argD9, ?_⟩
  | with_reducible refine iteT ?_
  | with_reducible refine iteF ?_
  | with_reducible refine ⟨_, frz_per, ?_⟩
  | with_reducible refine ⟨_, frz_own, ?_⟩
  | refine ⟨_, rfl, ?_⟩
  | refine ⟨_, argD1, ?_⟩
  | refine ⟨_, argD2, ?_⟩
  | refine ⟨_, argD0, ?_⟩
  | refine ⟨_, argD3, ?_⟩
  | refine ⟨_, argD4, ?_⟩
  | refine ⟨_, _, rfl, rfl, rfl, ?_⟩
  | refine ⟨_, _, _, rfl, rfl, rfl, ?_⟩
  | refine ⟨(by simp only [List.length_cons, List.length_nil]; decide), ?_⟩
  | refine ⟨rfl, nd1, ?_⟩
  | refine ⟨rfl, nd0, ?_⟩)
local macro_rules | `(tactic| walk_at "g2") => `(tactic| first | with_reducible refine we_notN ?_ | with_reducible refine we_isInt ?_ | with_reducible refine we_isLst ?_ | with_reducible refine we_chain ?_ | with_reducible refine we_lenO (by with_unfolding_all exact rfl) ?_ | with_reducible refine we_slice ?_ | with_reducible refine wo_some ?_ | with_reducible refine wo_none ?_ | walk_at "g1")
abbrev t_law_lists_0 (K : PySem.W.Frag) : TS :=
  (tDrop (tBM K "list" (rAppend) (tVar 5) (tCons (tCB (rListOf K) (tCons (tOp (rIx K) (tVar 5) (tCall (sp_law_pick K) [] E0 (tCons (tVar 0) (tCons (tVar 6) tNil)))) tNil)) tNil)))
abbrev t_law_lists_1 (K : PySem.W.Frag) : TS :=
  (tIfS (tAnd (tTest (tOp (rGtI) (tVar 6) (tC (.int 0)))) (tTest (tOp (rLtI) (tCall (sp_law_pick K) [] E0 (tCons (tVar 0) (tCons (tC (.int 4)) tNil))) (tVar 4)))) (t_law_lists_0 K) (tDrop (tBM K "list" (rAppend) (tVar 5) (tCons (tCall (sp_law_row K) [] E0 (tCons (tVar 0) (tCons (tVar 3) (tCons (tVar 7) tNil)))) tNil))))
abbrev t_law_lists_2 (K : PySem.W.Frag) : TS :=
  (tSeq (tIfS (tTest (tOp (rEqD K) (tCall (sp_law_pick K) [] E0 (tCons (tVar 0) (tCons (tC (.int 9)) tNil))) (tC (.int 8)))) (tAsg (tCall (sp_law_pick K) [] E0 (tCons (tVar 0) (tCons (tOp (rPlus K) (tVar 2) (tC (.int 1))) tNil))) (gName 7)) tNext)
    (t_law_lists_1 K))
abbrev t_law_lists_3 (K : PySem.W.Frag) : TS :=
  (tSeq (tAsg (tLst tNil) (gName 5))
    (tSeq (tFor (iRng1 (tCons (tVar 1) tNil)) (gName 6) (tSeq (tAsg (tVar 2) (gName 7))
    (t_law_lists_2 K)))
    (tRet (tVar 5))))
abbrev t_law_lists_4 (K : PySem.W.Frag) : TS :=
  (tSeq (tAsg (tCall (sp_law_pool K) [] E0 (tCons (tVar 0) (tCons (tOp (rPlus K) (tVar 2) (tCall (sp_law_pick K) [] E0 (tCons (tVar 0) (tCons (tC (.int 3)) tNil)))) tNil))) (gName 3))
    (tSeq (tAsg (tCall (sp_law_pick K) [] E0 (tCons (tVar 0) (tCons (tC (.int 4)) tNil))) (gName 4))
    (t_law_lists_3 K)))
def t_law_lists (K : PySem.W.Frag) : TS :=
  (t_law_lists_4 K)
abbrev N_law_lists : List Str := ["urn", "places", "most", "pool", "alike", "rows", "place", "size"]
structure RowOk (l : List Int) : Prop where
  asc : l.Pairwise (· < ·)
  nn : ∀ h ∈ l, 0 ≤ h ∧ h < 10 ^ 12
  few : l.length ≤ 100
abbrev F_law_lists : Fw := fun gs kk xx => ∃ (m n q : Nat), gs = [urn m, dat (.int n), dat (.int q)] ∧ 1000 ≤ m ∧ n ≤ 40 ∧ q ≤ 10 ∧ ∀ ls : List (List Int), ls.length = n → (∀ l ∈ ls, RowOk l) → (∀ l ∈ ls, l.length ≤ q) → kk (own (ls.map rowI)) [some (urn (m - 1000)), none, none]
abbrev sp_law_lists (K : PySem.W.Frag) : Sp := SpG 3 F_law_lists
theorem pure_law_lists {K : PySem.W.Frag} {vs : List V} {H : Hp} {Q : VK} {E : XK} (h : sp_law_lists K vs H Q E) : t_law_lists K { nx := fun _ H' => Q .non H', rt := Q } (L2.start N_law_lists vs) H := by
  refine body_ok (fun i => i == 0) ?_ h
  rintro gs kk xx ⟨m, n, q, rfl, hm, hn, hq, hk⟩ -
  unfold t_law_lists
  walk_at "go"
  refine ⟨_, _, rfl, by omega, by decide, by decide, fun r r0 r1 => ?_⟩
  walk_at "go"
  obtain ⟨r, rfl⟩ : ∃ x : Nat, r = (x : Int) := ⟨r.toNat, by omega⟩
  refine ⟨_, q + r, rfl, by omega, by omega, fun ps p1 p2 p3 => ?_⟩
  walk_at "go"
  refine ⟨_, _, rfl, by omega, by decide, by decide, fun al al0 al1 => ?_⟩
  walk_at "go"
  refine ws_frz (i := 3) rfl frz_own ?_
  refine ws_seq ?_
  refine ws_for (fun i Γ => ∃ (m1 : Nat) (ls : List (List Int)) (o6 o7 : Option Gp), Γ = [some (urn m1), some (dat (.int n)), some (dat (.int q)), some (dat (.list (ps.map .int))), some (dat (.int al)), some (own (ls.map rowI)), o6, o7] ∧ m ≤ m1 + 10 + 20 * i ∧ ls.length = i ∧ ∀ l ∈ ls, RowOk l ∧ l.length ≤ q) ?_
  refine wi_range1 ?_
  walk_at "go"
  refine ⟨by omega, by omega, ⟨_, [], _, _, rfl, by omega, rfl, by simp⟩, ?_, ?_⟩
  · rintro Γ2 ⟨m1, ls, o6, o7, rfl, h1, h2, h3⟩
    refine ws_ret (we_varM rfl ?_)
    exact ⟨_, _, Ent.refl, les_some (urn_le (by omega)) (les_none (les_none les_nil)), hk ls (by omega) (fun l hl => (h3 l hl).1) fun l hl => (h3 l hl).2⟩
  · rintro i Γ2 hi ⟨m1, ls, o6, o7, rfl, h1, h2, h3⟩
    walk_at "go"
    refine ws_cut (fun Γ => ∃ (m2 : Nat) (z : Int), Γ = [some (urn m2), some (dat (.int n)), some (dat (.int q)), some (dat (.list (ps.map .int))), some (dat (.int al)), some (own (ls.map rowI)), some (dat (.int (0 + (i : Int)))), some (dat (.int z))] ∧ m1 ≤ m2 + 2 ∧ 0 ≤ z ∧ z ≤ q) ?_ ?_
    · refine ws_if ?_
      walk_at "go"
      refine ⟨_, _, rfl, by omega, by decide, by decide, fun x x0 x1 => ?_⟩
      walk_at "go"
      refine ite_dec (fun _ => ?_) fun _ => ?_
      · walk_at "go"
        refine ⟨_, _, rfl, by omega, by omega, by omega, fun y y0 y1 => ?_⟩
        walk_at "go"
        exact ⟨_, y, rfl, by omega, y0, by omega⟩
      · walk_at "go"
        exact ⟨_, q, rfl, by omega, by omega, by omega⟩
    · rintro Γ2 ⟨m2, z, rfl, h4, z0, z1⟩
      refine ws_if ?_
      walk_at "go"
      refine ite_dec (fun hi0 => ?_) fun hi0 => ?_
      · walk_at "go"
        refine ⟨_, _, rfl, by omega, by decide, by decide, fun y y0 y1 => ?_⟩
        walk_at "go"
        refine ite_dec (fun hy => ?_) fun hy => ?_
        · walk_at "go"
          refine ⟨_, _, rfl, by omega, hi0, by omega, fun x x0 x1 => ?_⟩
          walk_at "go"
          obtain ⟨l, hl⟩ := getD_of (xs := ls) (i := x.toNat) (by omega)
          refine ⟨_, _, rfl, rfl, atI_in x0 (d := .list (l.map .int)) (by rw [List.getElem?_map, hl]; rfl), ?_⟩
          walk_at "go"
          refine ⟨_, _, _, _, rfl, argD1 (d := rowI l), mo_append (by rw [List.length_map]; omega), ?_⟩
          refine ⟨_, ls ++ [l], _, _, by rw [List.map_append]; rfl, by omega, by rw [List.length_append, h2]; rfl, fun l' hl' => ?_⟩
          rcases List.mem_append.mp hl' with hl' | hl'
          · exact h3 l' hl'
          · rw [List.mem_singleton.mp hl']
            exact h3 l (List.mem_of_getElem? hl)
        · walk_at "go"
          refine ⟨_, ps, z, rfl, by omega, by omega, z0, p2, p3, fun qs q1 q2 q3 => ?_⟩
          walk_at "go"
          refine ⟨_, _, _, _, rfl, argD1 (d := rowI qs), mo_append (by rw [List.length_map]; omega), ?_⟩
          refine ⟨_, ls ++ [qs], _, _, by rw [List.map_append]; rfl, by omega, by rw [List.length_append, h2]; rfl, fun l hl => ?_⟩
          rcases List.mem_append.mp hl with hl | hl
          · exact h3 l hl
          · rw [List.mem_singleton.mp hl]
            exact ⟨⟨q2, q3, by omega⟩, by omega⟩
      · walk_at "go"
        refine ⟨_, ps, z, rfl, by omega, by omega, z0, p2, p3, fun qs q1 q2 q3 => ?_⟩
        walk_at "go"
        refine ⟨_, _, _, _, rfl, argD1 (d := rowI qs), mo_append (by rw [List.length_map]; omega), ?_⟩
        refine ⟨_, ls ++ [qs], _, _, by rw [List.map_append]; rfl, by omega, by rw [List.length_append, h2]; rfl, fun l hl => ?_⟩
        rcases List.mem_append.mp hl with hl | hl
        · exact h3 l hl
        · rw [List.mem_singleton.mp hl]
          exact ⟨⟨q2, q3, by omega⟩, by omega⟩
end G

namespace G
open PySem L2
local macro_rules | `(tactic| walk_at "g1") => `(tactic| first
  | (with_reducible show WE _ _ _; with_reducible first | refine we_var (by with_unfolding_all exact rfl) ?_ | (show WE (tOp _ _ _) _ _; first | refine we_ixS (by with_unfolding_all exact rfl) ?_ | refine we_ixScr (by with_unfolding_all exact rfl) ?_ | refine we_inS (by with_unfolding_all exact rfl) ?_ | refine we_notInS (by with_unfolding_all exact rfl) ?_ | refine we_eqS (by with_unfolding_all exact rfl) ?_ | refine we_neS (by with_unfolding_all exact rfl) ?_ | refine we_opK ?_) | (show WE (tCB _ _) _ _; first | refine we_lenS' (by with_unfolding_all exact rfl) ?_ | refine we_lenScr (by with_unfolding_all exact rfl) ?_ | refine we_cbK ?_) | refine we_int ?_ | refine we_bl ?_ | refine we_non ?_ | refine we_str ?_ | refine we_neg ?_ | refine we_not ?_ | refine we_and ?_ | refine we_or ?_ | refine we_if ?_ | refine we_tup ?_ | refine we_lst ?_ | refine we_call ?_ | refine we_mt (by with_unfolding_all exact rfl) ?_)
  | (with_reducible show WS _ _ _ _; with_reducible first | refine ws_seqA ?_ | refine ws_seqD ?_ | refine ws_asg (by with_unfolding_all exact rfl) ?_ | refine ws_asgG ?_ | refine ws_if ?_ | refine ws_ret ?_ | refine ws_drop ?_ | refine ws_next ?_ | refine ws_retN ?_)
  | (with_reducible show WT _ _ _; with_reducible first | refine wt_test ?_ | refine wt_B ?_ | refine wt_not ?_ | refine wt_and ?_ | refine wt_or ?_ | refine wt_yes ?_)
  | (with_reducible show WA _ _ _; with_reducible first | refine wa_nil ?_ | refine wa_cons (wq_of (we_var (by with_unfolding_all exact rfl) ?_)) | refine wa_slotU (by with_unfolding_all exact rfl) ?_ | refine wa_cons ?_)
  | (with_reducible show OpK _ _ _ _ _; with_reducible first | refine ok_plusI ?_ | refine ok_sub ?_ | refine ok_lt ?_ | refine ok_le ?_ | refine ok_gt ?_ | refine ok_ge ?_ | refine ok_eqI ?_ | refine ok_neI ?_ | refine ok_mod (by first | assumption | decide | omega) ?_ | refine ok_ixL (by with_unfolding_all exact rfl) ?_)
  | (with_reducible show CbK _ _ _ _; with_reducible first | refine ck_lenL ?_ | refine ck_lenT ?_ | refine ck_int ?_ | refine ck_intB ?_ | refine ck_max ?_ | refine ck_min ?_ | refine ck_list ?_)
  | with_reducible refine wq_of ?_
  | (with_reducible show WG _ _ _ _ _; with_reducible first | refine wg_name (by with_unfolding_all exact rfl) ?_ | refine wg_tup (by with_unfolding_all exact rfl) ?_ | refine wg_set (by with_unfolding_all exact rfl) ?_)
  | (with_reducible show WGs _ _ _ _ _; with_reducible first | refine wgs_cons ?_ | refine wgs_nil ?_)
  | with_reducible refine iteT ?_
  | with_reducible refine iteF ?_
  | with_reducible refine ⟨_, frz_per, ?_⟩
  | with_reducible refine ⟨_, frz_own, ?_⟩
  | refine ⟨_, rfl, ?_⟩
  | refine ⟨_, argD1, ?_⟩
  | refine ⟨_, argD2, ?_⟩
  | refine ⟨_, argD0, ?_⟩
  | refine ⟨_, argD3, ?_⟩
  | refine ⟨_, argD4, ?_⟩
  | refine ⟨_, _, rfl, rfl, rfl, ?_⟩
  | refine ⟨_, _, _, rfl, rfl, rfl, ?_⟩
  | refine ⟨(by simp only [List.length_cons, List.length_nil]; decide), ?_⟩
  | refine ⟨rfl, nd1, ?_⟩
  | refine ⟨rfl, nd0, ?_⟩)
local macro_rules | `(tactic| walk_at "go") => `(tactic| repeat walk_at "g1")
local macro_rules | `(tactic| walk_at "g2") => `(tactic| first
  | (with_reducible show WE _ _ _; with_reducible first | refine we_var (by with_unfolding_all exact rfl) ?_ | (show WE (tOp _ _ _) _ _; first | refine we_notN ?_ | refine we_ixS (by with_unfolding_all exact rfl) ?_ | refine we_ixScr (by with_unfolding_all exact rfl) ?_ | refine we_inS (by with_unfolding_all exact rfl) ?_ | refine we_notInS (by with_unfolding_all exact rfl) ?_ | refine we_eqS (by with_unfolding_all exact rfl) ?_ | refine we_neS (by with_unfolding_all exact rfl) ?_ | refine we_opK ?_) | (show WE (tCB _ _) _ _; first | refine we_isInt ?_ | refine we_isBl ?_ | refine we_isLst ?_ | refine we_isTup ?_ | refine we_lenO (by with_unfolding_all exact rfl) ?_ | refine we_lenS' (by with_unfolding_all exact rfl) ?_ | refine we_lenScr (by with_unfolding_all exact rfl) ?_ | refine we_cbK ?_) | refine we_chain ?_ | refine we_slice ?_ | refine we_int ?_ | refine we_bl ?_ | refine we_non ?_ | refine we_str ?_ | refine we_neg ?_ | refine we_not ?_ | refine we_and ?_ | refine we_or ?_ | refine we_if ?_ | refine we_tup ?_ | refine we_lst ?_ | refine we_call ?_ | refine we_mt (by with_unfolding_all exact rfl) ?_)
  | (with_reducible show WS _ _ _ _; with_reducible first | refine ws_seqA ?_ | refine ws_seqD ?_ | refine ws_asg (by with_unfolding_all exact rfl) ?_ | refine ws_asgG ?_ | refine ws_if ?_ | refine ws_ret ?_ | refine ws_drop ?_ | refine ws_next ?_ | refine ws_retN ?_)
  | (with_reducible show WT _ _ _; with_reducible first | refine wt_test ?_ | refine wt_B ?_ | refine wt_not ?_ | refine wt_and ?_ | refine wt_or ?_ | refine wt_yes ?_)
  | (with_reducible show WA _ _ _; with_reducible first | refine wa_nil ?_ | refine wa_cons (wq_of (we_var (by with_unfolding_all exact rfl) ?_)) | refine wa_slotU (by with_unfolding_all exact rfl) ?_ | refine wa_cons ?_)
  | (with_reducible show OpK _ _ _ _ _; with_reducible first | refine ok_isB ?_ | refine ok_notB ?_ | refine ok_plusI ?_ | refine ok_sub ?_ | refine ok_lt ?_ | refine ok_le ?_ | refine ok_gt ?_ | refine ok_ge ?_ | refine ok_eqI ?_ | refine ok_neI ?_ | refine ok_mod (by first | assumption | decide | omega) ?_ | refine ok_ixL (by with_unfolding_all exact rfl) ?_)
  | (with_reducible show CbK _ _ _ _; with_reducible first | refine ck_lenL ?_ | refine ck_lenT ?_ | refine ck_int ?_ | refine ck_intB ?_ | refine ck_max ?_ | refine ck_min ?_ | refine ck_list ?_)
  | with_reducible refine wq_of ?_
  | (with_reducible show WG _ _ _ _ _; with_reducible first | refine wg_name (by with_unfolding_all exact rfl) ?_ | refine wg_tup (by with_unfolding_all exact rfl) ?_ | refine wg_set (by with_unfolding_all exact rfl) ?_)
  | (with_reducible show WGs _ _ _ _ _; with_reducible first | refine wgs_cons ?_ | refine wgs_nil ?_)
  | (with_reducible show WO _ _ _; with_reducible first | refine wo_some ?_ | refine wo_none ?_)
  | refine ⟨_, argD5, ?_⟩
  | refine ⟨_, argD6, ?_⟩
  | refine ⟨_, argD7, ?_⟩
  | refine ⟨_, argD9, ?_⟩
  | with_reducible refine iteT ?_
  | with_reducible refine iteF ?_
  | with_reducible refine ⟨_, frz_per, ?_⟩
  | with_reducible refine ⟨_, frz_own, ?_⟩
  | refine ⟨_, rfl, ?_⟩
  | refine ⟨_, argD1, ?_⟩
  | refine ⟨_, argD2, ?_⟩
  | refine ⟨_, argD0, ?_⟩
  | refine ⟨_, argD3, ?_⟩
  | refine ⟨_, argD4, ?_⟩
  | refine ⟨_, _, rfl, rfl, rfl, ?_⟩
  | refine ⟨_, _, _, rfl, rfl, rfl, ?_⟩
  | refine ⟨(by simp only [List.length_cons, List.length_nil]; decide), ?_⟩
  | refine ⟨rfl, nd1, ?_⟩
  | refine ⟨rfl, nd0, ?_⟩)
end G

namespace G
open PySem L2
/-! ### what is tied to a place, by the ties alone -/
/-- the other end at w -/
def oth (w : Int) (t : Int × Int) : Option Int := if t.1 = w then some t.2 else if t.2 = w then some t.1 else none
def nb (ts : List (Int × Int)) (w : Int) : List Int := ts.filterMap (oth w)
def Valid (n : Nat) (ts : List (Int × Int)) : Prop := ∀ t ∈ ts, 0 ≤ t.1 ∧ t.1 < t.2 ∧ t.2 < n
end G

namespace G
open PySem L2
local macro_rules | `(tactic| walk_at "g1") => `(tactic| first
  | (with_reducible show WE _ _ _; with_reducible first | refine we_var (by with_unfolding_all exact rfl) ?_ | (show WE (tOp _ _ _) _ _; first | refine we_ixS (by with_unfolding_all exact rfl) ?_ | refine we_ixScr (by with_unfolding_all exact rfl) ?_ | refine we_inS (by with_unfolding_all exact rfl) ?_ | refine we_notInS (by with_unfolding_all exact rfl) ?_ | refine we_eqS (by with_unfolding_all exact rfl) ?_ | refine we_neS (by with_unfolding_all exact rfl) ?_ | refine we_opK ?_) | (show WE (tCB _ _) _ _; first | refine we_lenS' (by with_unfolding_all exact rfl) ?_ | refine we_lenScr (by with_unfolding_all exact rfl) ?_ | refine we_cbK ?_) | refine we_int ?_ | refine we_bl ?_ | refine we_non ?_ | refine we_str ?_ | refine we_neg ?_ | refine we_not ?_ | refine we_and ?_ | refine we_or ?_ | refine we_if ?_ | refine we_tup ?_ | refine we_lst ?_ | refine we_call ?_ | refine we_mt (by with_unfolding_all exact rfl) ?_)
  | (with_reducible show WS _ _ _ _; with_reducible first | refine ws_seqA ?_ | refine ws_seqD ?_ | refine ws_asg (by with_unfolding_all exact rfl) ?_ | refine ws_asgG ?_ | refine ws_if ?_ | refine ws_ret ?_ | refine ws_drop ?_ | refine ws_next ?_ | refine ws_retN ?_)
  | (with_reducible show WT _ _ _; with_reducible first | refine wt_test ?_ | refine wt_B ?_ | refine wt_not ?_ | refine wt_and ?_ | refine wt_or ?_ | refine wt_yes ?_)
  | (with_reducible show WA _ _ _; with_reducible first | refine wa_nil ?_ | refine wa_cons (wq_of (we_var (by with_unfolding_all exact rfl) ?_)) | refine wa_slotU (by with_unfolding_all exact rfl) ?_ | refine wa_cons ?_)
  | (with_reducible show OpK _ _ _ _ _; with_reducible first | refine ok_plusI ?_ | refine ok_sub ?_ | refine ok_lt ?_ | refine ok_le ?_ | refine ok_gt ?_ | refine ok_ge ?_ | refine ok_eqI ?_ | refine ok_neI ?_ | refine ok_mod (by first | assumption | decide | omega) ?_ | refine ok_ixL (by with_unfolding_all exact rfl) ?_)
  | (with_reducible show CbK _ _ _ _; with_reducible first | refine ck_lenL ?_ | refine ck_lenT ?_ | refine ck_int ?_ | refine ck_intB ?_ | refine ck_max ?_ | refine ck_min ?_ | refine ck_list ?_)
  | with_reducible refine wq_of ?_
  | (with_reducible show WG _ _ _ _ _; with_reducible first | refine wg_name (by with_unfolding_all exact rfl) ?_ | refine wg_tup (by with_unfolding_all exact rfl) ?_ | refine wg_set (by with_unfolding_all exact rfl) ?_)
  | (with_reducible show WGs _ _ _ _ _; with_reducible first | refine wgs_cons ?_ | refine wgs_nil ?_)
  | with_reducible refine iteT ?_
  | with_reducible refine iteF ?_
  | with_reducible refine ⟨_, frz_per, ?_⟩
  | with_reducible refine ⟨_, frz_own, ?_⟩
  | refine ⟨_, rfl, ?_⟩
  | refine ⟨_, argD1, ?_⟩
  | refine ⟨_, argD2, ?_⟩
  | refine ⟨_, argD0, ?_⟩
  | refine ⟨_, argD3, ?_⟩
  | refine ⟨_, argD4, ?_⟩
  | refine ⟨_, _, rfl, rfl, rfl, ?_⟩
  | refine ⟨_, _, _, rfl, rfl, rfl, ?_⟩
  | refine ⟨(by simp only [List.length_cons, List.length_nil]; decide), ?_⟩
  | refine ⟨rfl, nd1, ?_⟩
  | refine ⟨rfl, nd0, ?_⟩)
local macro_rules | `(tactic| walk_at "go") => `(tactic| repeat walk_at "g1")
local macro_rules | `(tactic| walk_at "g2") => `(tactic| first
  | (with_reducible show WE _ _ _; with_reducible first | refine we_var (by with_unfolding_all exact rfl) ?_ | (show WE (tOp _ _ _) _ _; first | refine we_notN ?_ | refine we_ixS (by with_unfolding_all exact rfl) ?_ | refine we_ixScr (by with_unfolding_all exact rfl) ?_ | refine we_inS (by with_unfolding_all exact rfl) ?_ | refine we_notInS (by with_unfolding_all exact rfl) ?_ | refine we_eqS (by with_unfolding_all exact rfl) ?_ | refine we_neS (by with_unfolding_all exact rfl) ?_ | refine we_opK ?_) | (show WE (tCB _ _) _ _; first | refine we_isInt ?_ | refine we_isBl ?_ | refine we_isLst ?_ | refine we_isTup ?_ | refine we_lenO (by with_unfolding_all exact rfl) ?_ | refine we_lenS' (by with_unfolding_all exact rfl) ?_ | refine we_lenScr (by with_unfolding_all exact rfl) ?_ | refine we_cbK ?_) | refine we_chain ?_ | refine we_slice ?_ | refine we_int ?_ | refine we_bl ?_ | refine we_non ?_ | refine we_str ?_ | refine we_neg ?_ | refine we_not ?_ | refine we_and ?_ | refine we_or ?_ | refine we_if ?_ | refine we_tup ?_ | refine we_lst ?_ | refine we_call ?_ | refine we_mt (by with_unfolding_all exact rfl) ?_)
  | (with_reducible show WS _ _ _ _; with_reducible first | refine ws_seqA ?_ | refine ws_seqD ?_ | refine ws_asg (by with_unfolding_all exact rfl) ?_ | refine ws_asgG ?_ | refine ws_if ?_ | refine ws_ret ?_ | refine ws_drop ?_ | refine ws_next ?_ | refine ws_retN ?_)
  | (with_reducible show WT _ _ _; with_reducible first | refine wt_test ?_ | refine wt_B ?_ | refine wt_not ?_ | refine wt_and ?_ | refine wt_or ?_ | refine wt_yes ?_)
  | (with_reducible show WA _ _ _; with_reducible first | refine wa_nil ?_ | refine wa_cons (wq_of (we_var (by with_unfolding_all exact rfl) ?_)) | refine wa_slotU (by with_unfolding_all exact rfl) ?_ | refine wa_cons ?_)
  | (with_reducible show OpK _ _ _ _ _; with_reducible first | refine ok_isB ?_ | refine ok_notB ?_ | refine ok_plusI ?_ | refine ok_sub ?_ | refine ok_lt ?_ | refine ok_le ?_ | refine ok_gt ?_ | refine ok_ge ?_ | refine ok_eqI ?_ | refine ok_neI ?_ | refine ok_mod (by first | assumption | decide | omega) ?_ | refine ok_ixL (by with_unfolding_all exact rfl) ?_)
  | (with_reducible show CbK _ _ _ _; with_reducible first | refine ck_lenL ?_ | refine ck_lenT ?_ | refine ck_int ?_ | refine ck_intB ?_ | refine ck_max ?_ | refine ck_min ?_ | refine ck_list ?_)
  | with_reducible refine wq_of ?_
  | (with_reducible show WG _ _ _ _ _; with_reducible first | refine wg_name (by with_unfolding_all exact rfl) ?_ | refine wg_tup (by with_unfolding_all exact rfl) ?_ | refine wg_set (by with_unfolding_all exact rfl) ?_)
  | (with_reducible show WGs _ _ _ _ _; with_reducible first | refine wgs_cons ?_ | refine wgs_nil ?_)
  | (with_reducible show WO _ _ _; with_reducible first | refine wo_some ?_ | refine wo_none ?_)
  | refine ⟨_, argD5, ?_⟩
  | refine ⟨_, argD6, ?_⟩
  | refine ⟨_, argD7, ?_⟩
  | refine ⟨_, argD9, ?_⟩
  | with_reducible refine iteT ?_
  | with_reducible refine iteF ?_
  | with_reducible refine ⟨_, frz_per, ?_⟩
  | with_reducible refine ⟨_, frz_own, ?_⟩
  | refine ⟨_, rfl, ?_⟩
  | refine ⟨_, argD1, ?_⟩
  | refine ⟨_, argD2, ?_⟩
  | refine ⟨_, argD0, ?_⟩
  | refine ⟨_, argD3, ?_⟩
  | refine ⟨_, argD4, ?_⟩
  | refine ⟨_, _, rfl, rfl, rfl, ?_⟩
  | refine ⟨_, _, _, rfl, rfl, rfl, ?_⟩
  | refine ⟨(by simp only [List.length_cons, List.length_nil]; decide), ?_⟩
  | refine ⟨rfl, nd1, ?_⟩
  | refine ⟨rfl, nd0, ?_⟩)
local macro_rules | `(tactic| walk_at "g3") => `(tactic| first | with_reducible refine we_dnew ?_ | with_reducible refine ck_tuple ?_ | with_reducible refine we_repr ?_ | walk_at "g2")
def t_law_whole (K : PySem.W.Frag) : TS :=
  (tRet (tAndV (tCB (rIsiA K) (tCons (tVar 0) (tCons (tC (.ty "int")) tNil))) (tNotV (tCB (rIsiA K) (tCons (tVar 0) (tCons (tC (.ty "bool")) tNil))))))
abbrev N_law_whole : List Str := ["value"]
def wholeD : PyData → Bool
  | .int _ => true
  | _ => false
abbrev F_law_whole : Fw := fun gs kk _ => ∃ d, gs = [dat d] ∧ kk (dat (.bool (wholeD d))) [none]
abbrev sp_law_whole (K : PySem.W.Frag) : Sp := SpG 1 F_law_whole
theorem pure_law_whole {K : PySem.W.Frag} {vs : List V} {H : Hp} {Q : VK} {E : XK} (h : sp_law_whole K vs H Q E) : t_law_whole K { nx := fun _ H' => Q .non H', rt := Q } (L2.start N_law_whole vs) H := by
  refine body_ok (fun _ => false) ?_ h
  rintro gs kk xx ⟨d, rfl, hk⟩ -
  unfold t_law_whole
  repeat walk_at "g3"
  have out : ∀ {b : Bool}, wholeD d = b → ∃ g' Γp, Ent (dat (.bool b)) g' ∧ Les (mask (fun _ => false) 1 (List.map some [dat d] ++ List.replicate (N_law_whole.length - 1) none)) Γp ∧ kk g' Γp := fun {b} e => ⟨_, [none], Ent.refl, les_none les_nil, e ▸ hk⟩
  refine ite_b (fun e => ?_) fun e => out (by cases d <;> first | rfl | exact Bool.noConfusion e)
  repeat walk_at "g3"
  cases d <;> first | exact Bool.noConfusion e | exact out rfl
abbrev t_law_wholes_0 (K : PySem.W.Frag) : TS :=
  (tRet (tAndV (tCB (rIsiA K) (tCons (tVar 0) (tCons (tC (.ty "list")) tNil))) (tCB (rAllA K) (tCons (tLc (iList K (tVar 0)) (gName 1) tYes (tCall (sp_law_whole K) [] E0 (tCons (tVar 1) tNil)) [1]) tNil))))
def t_law_wholes (K : PySem.W.Frag) : TS :=
  (t_law_wholes_0 K)
abbrev N_law_wholes : List Str := ["value", "one"]
def wholesD : PyData → Bool
  | .list ds => ds.all wholeD
  | _ => false
abbrev F_law_wholes : Fw := fun gs kk _ => ∃ d, gs = [dat d] ∧ (∀ ds, d = .list ds → ds.length < 100000) ∧ kk (dat (.bool (wholesD d))) [none]
abbrev sp_law_wholes (K : PySem.W.Frag) : Sp := SpG 1 F_law_wholes
theorem pure_law_wholes {K : PySem.W.Frag} {vs : List V} {H : Hp} {Q : VK} {E : XK} (h : sp_law_wholes K vs H Q E) : t_law_wholes K { nx := fun _ H' => Q .non H', rt := Q } (L2.start N_law_wholes vs) H := by
  refine body_ok (fun _ => false) ?_ h
  rintro gs kk xx ⟨d, rfl, hz, hk⟩ -
  unfold t_law_wholes
  repeat walk_at "g3"
  refine ite_b (fun e => ?_) fun e => ⟨_, [none], Ent.refl, les_none les_nil, ?_⟩
  · cases d with
    | list ds =>
      repeat walk_at "g3"
      refine we_lc (fun i acc Γ => acc = (ds.take i).map (fun d => .bool (wholeD d)) ∧ Γ = [some (dat (.list ds)), none]) ?_
      refine wi_list ?_
      repeat walk_at "g3"
      refine ⟨⟨rfl, rfl⟩, ?_, ?_⟩
      · rintro acc Γ2 ⟨rfl, rfl⟩
        repeat walk_at "g3"
        rw [List.take_length]
        exact ck_allM ⟨_, [none], Ent.refl, les_none les_nil, hk⟩
      · rintro i acc Γ2 hi ⟨rfl, rfl⟩ -
        obtain ⟨x, hx⟩ := getD_of hi
        dsimp only
        rw [getD_at hx]
        refine wg_name rfl ?_
        refine wt_yes ?_
        refine iteT ?_
        repeat walk_at "g3"
        exact ⟨by rw [List.length_map, List.length_take]; have := hz ds rfl; omega, (take_map hx).symm, rfl⟩
    | bool b => exact Bool.noConfusion e
    | int b => exact Bool.noConfusion e
    | none => exact Bool.noConfusion e
    | str s => exact Bool.noConfusion e
    | tuple s => exact Bool.noConfusion e
    | dict s => exact Bool.noConfusion e
  · have : wholesD d = false := by cases d <;> first | rfl | exact Bool.noConfusion e
    rw [← this]
    exact hk
end G

namespace G
open PySem L2
local macro_rules | `(tactic| walk_at "g1") => `(tactic| first
  | (with_reducible show WE _ _ _; with_reducible first | refine we_var (by with_unfolding_all exact rfl) ?_ | (show WE (tOp _ _ _) _ _; first | refine we_ixS (by with_unfolding_all exact rfl) ?_ | refine we_ixScr (by with_unfolding_all exact rfl) ?_ | refine we_inS (by with_unfolding_all exact rfl) ?_ | refine we_notInS (by with_unfolding_all exact rfl) ?_ | refine we_eqS (by with_unfolding_all exact rfl) ?_ | refine we_neS (by with_unfolding_all exact rfl) ?_ | refine we_opK ?_) | (show WE (tCB _ _) _ _; first | refine we_lenS' (by with_unfolding_all exact rfl) ?_ | refine we_lenScr (by with_unfolding_all exact rfl) ?_ | refine we_cbK ?_) | refine we_int ?_ | refine we_bl ?_ | refine we_non ?_ | refine we_str ?_ | refine we_neg ?_ | refine we_not ?_ | refine we_and ?_ | refine we_or ?_ | refine we_if ?_ | refine we_tup ?_ | refine we_lst ?_ | refine we_call ?_ | refine we_mt (by with_unfolding_all exact rfl) ?_)
  | (with_reducible show WS _ _ _ _; with_reducible first | refine ws_seqA ?_ | refine ws_seqD ?_ | refine ws_asg (by with_unfolding_all exact rfl) ?_ | refine ws_asgG ?_ | refine ws_if ?_ | refine ws_ret ?_ | refine ws_drop ?_ | refine ws_next ?_ | refine ws_retN ?_)
  | (with_reducible show WT _ _ _; with_reducible first | refine wt_test ?_ | refine wt_B ?_ | refine wt_not ?_ | refine wt_and ?_ | refine wt_or ?_ | refine wt_yes ?_)
  | (with_reducible show WA _ _ _; with_reducible first | refine wa_nil ?_ | refine wa_cons (wq_of (we_var (by with_unfolding_all exact rfl) ?_)) | refine wa_slotU (by with_unfolding_all exact rfl) ?_ | refine wa_cons ?_)
  | (with_reducible show OpK _ _ _ _ _; with_reducible first | refine ok_plusI ?_ | refine ok_sub ?_ | refine ok_lt ?_ | refine ok_le ?_ | refine ok_gt ?_ | refine ok_ge ?_ | refine ok_eqI ?_ | refine ok_neI ?_ | refine ok_mod (by first | assumption | decide | omega) ?_ | refine ok_ixL (by with_unfolding_all exact rfl) ?_)
  | (with_reducible show CbK _ _ _ _; with_reducible first | refine ck_lenL ?_ | refine ck_lenT ?_ | refine ck_int ?_ | refine ck_intB ?_ | refine ck_max ?_ | refine ck_min ?_ | refine ck_list ?_)
  | with_reducible refine wq_of ?_
  | (with_reducible show WG _ _ _ _ _; with_reducible first | refine wg_name (by with_unfolding_all exact rfl) ?_ | refine wg_tup (by with_unfolding_all exact rfl) ?_ | refine wg_set (by with_unfolding_all exact rfl) ?_)
  | (with_reducible show WGs _ _ _ _ _; with_reducible first | refine wgs_cons ?_ | refine wgs_nil ?_)
  | with_reducible refine iteT ?_
  | with_reducible refine iteF ?_
  | with_reducible refine ⟨_, frz_per, ?_⟩
  | with_reducible refine ⟨_, frz_own, ?_⟩
  | refine ⟨_, rfl, ?_⟩
  | refine ⟨_, argD1, ?_⟩
  | refine ⟨_, argD2, ?_⟩
  | refine ⟨_, argD0, ?_⟩
  | refine ⟨_, argD3, ?_⟩
  | refine ⟨_, argD4, ?_⟩
  | refine ⟨_, _, rfl, rfl, rfl, ?_⟩
  | refine ⟨_, _, _, rfl, rfl, rfl, ?_⟩
  | refine ⟨(by simp only [List.length_cons, List.length_nil]; decide), ?_⟩
  | refine ⟨rfl, nd1, ?_⟩
  | refine ⟨rfl, nd0, ?_⟩)
local macro_rules | `(tactic| walk_at "go") => `(tactic| repeat walk_at "g1")
local macro_rules | `(tactic| walk_at "g2") => `(tactic| first
  | (with_reducible show WE _ _ _; with_reducible first | refine we_var (by with_unfolding_all exact rfl) ?_ | (show WE (tOp _ _ _) _ _; first | refine we_notN ?_ | refine we_ixS (by with_unfolding_all exact rfl) ?_ | refine we_ixScr (by with_unfolding_all exact rfl) ?_ | refine we_inS (by with_unfolding_all exact rfl) ?_ | refine we_notInS (by with_unfolding_all exact rfl) ?_ | refine we_eqS (by with_unfolding_all exact rfl) ?_ | refine we_neS (by with_unfolding_all exact rfl) ?_ | refine we_opK ?_) | (show WE (tCB _ _) _ _; first | refine we_isInt ?_ | refine we_isBl ?_ | refine we_isLst ?_ | refine we_isTup ?_ | refine we_lenO (by with_unfolding_all exact rfl) ?_ | refine we_lenS' (by with_unfolding_all exact rfl) ?_ | refine we_lenScr (by with_unfolding_all exact rfl) ?_ | refine we_cbK ?_) | refine we_chain ?_ | refine we_slice ?_ | refine we_int ?_ | refine we_bl ?_ | refine we_non ?_ | refine we_str ?_ | refine we_neg ?_ | refine we_not ?_ | refine we_and ?_ | refine we_or ?_ | refine we_if ?_ | refine we_tup ?_ | refine we_lst ?_ | refine we_call ?_ | refine we_mt (by with_unfolding_all exact rfl) ?_)
  | (with_reducible show WS _ _ _ _; with_reducible first | refine ws_seqA ?_ | refine ws_seqD ?_ | refine ws_asg (by with_unfolding_all exact rfl) ?_ | refine ws_asgG ?_ | refine ws_if ?_ | refine ws_ret ?_ | refine ws_drop ?_ | refine ws_next ?_ | refine ws_retN ?_)
  | (with_reducible show WT _ _ _; with_reducible first | refine wt_test ?_ | refine wt_B ?_ | refine wt_not ?_ | refine wt_and ?_ | refine wt_or ?_ | refine wt_yes ?_)
  | (with_reducible show WA _ _ _; with_reducible first | refine wa_nil ?_ | refine wa_cons (wq_of (we_var (by with_unfolding_all exact rfl) ?_)) | refine wa_slotU (by with_unfolding_all exact rfl) ?_ | refine wa_cons ?_)
  | (with_reducible show OpK _ _ _ _ _; with_reducible first | refine ok_isB ?_ | refine ok_notB ?_ | refine ok_plusI ?_ | refine ok_sub ?_ | refine ok_lt ?_ | refine ok_le ?_ | refine ok_gt ?_ | refine ok_ge ?_ | refine ok_eqI ?_ | refine ok_neI ?_ | refine ok_mod (by first | assumption | decide | omega) ?_ | refine ok_ixL (by with_unfolding_all exact rfl) ?_)
  | (with_reducible show CbK _ _ _ _; with_reducible first | refine ck_lenL ?_ | refine ck_lenT ?_ | refine ck_int ?_ | refine ck_intB ?_ | refine ck_max ?_ | refine ck_min ?_ | refine ck_list ?_)
  | with_reducible refine wq_of ?_
  | (with_reducible show WG _ _ _ _ _; with_reducible first | refine wg_name (by with_unfolding_all exact rfl) ?_ | refine wg_tup (by with_unfolding_all exact rfl) ?_ | refine wg_set (by with_unfolding_all exact rfl) ?_)
  | (with_reducible show WGs _ _ _ _ _; with_reducible first | refine wgs_cons ?_ | refine wgs_nil ?_)
  | (with_reducible show WO _ _ _; with_reducible first | refine wo_some ?_ | refine wo_none ?_)
  | refine ⟨_, argD5, ?_⟩
  | refine ⟨_, argD6, ?_⟩
  | refine ⟨_, argD7, ?_⟩
  | refine ⟨_, argD9, ?_⟩
  | with_reducible refine iteT ?_
  | with_reducible refine iteF ?_
  | with_reducible refine ⟨_, frz_per, ?_⟩
  | with_reducible refine ⟨_, frz_own, ?_⟩
  | refine ⟨_, rfl, ?_⟩
  | refine ⟨_, argD1, ?_⟩
  | refine ⟨_, argD2, ?_⟩
  | refine ⟨_, argD0, ?_⟩
  | refine ⟨_, argD3, ?_⟩
  | refine ⟨_, argD4, ?_⟩
  | refine ⟨_, _, rfl, rfl, rfl, ?_⟩
  | refine ⟨_, _, _, rfl, rfl, rfl, ?_⟩
  | refine ⟨(by simp only [List.length_cons, List.length_nil]; decide), ?_⟩
  | refine ⟨rfl, nd1, ?_⟩
  | refine ⟨rfl, nd0, ?_⟩)
local macro_rules | `(tactic| walk_at "g3") => `(tactic| first | with_reducible refine we_dnew ?_ | with_reducible refine ck_tuple ?_ | with_reducible refine we_repr ?_ | walk_at "g2")
theorem map_intOf {ws : List Int} : (ws.map PyData.int).map intOf = ws := by
  rw [List.map_map]
  exact List.map_id ws
end G

/-! ### len(set(xs)), xs a list of ints -/
namespace G
open PySem PySem.Spec PyProof.Rows L2
theorem met_nd (f : Nat → Int) : ∀ i, (firstMet f i).Nodup
  | 0 => by rw [firstMet_zero]; exact List.nodup_nil
  | i + 1 => by
    rw [firstMet_succ]
    unfold step_dedup
    have ih := met_nd f i
    split
    · exact ih
    · rename_i h
      refine List.nodup_append.mpr ⟨ih, by simp, fun a ha b hb e => ?_⟩
      rw [List.mem_singleton.mp hb] at e
      exact h (List.any_eq_true.mpr ⟨a, ha, by simp [e]⟩)
theorem met_mem (f : Nat → Int) (i : Nat) (k : Int) : k ∈ firstMet f i ↔ ∃ j, j < i ∧ f j = k := by
  have h := firstMet_any f i k
  have e1 : k ∈ firstMet f i ↔ (firstMet f i).any (· == k) = true := by
    rw [List.any_eq_true]
    exact ⟨fun h => ⟨k, h, by simp⟩, fun ⟨x, hx, e⟩ => by rw [← eq_of_beq e]; exact hx⟩
  rw [e1, h, List.any_eq_true]
  constructor
  · rintro ⟨x, hx, e⟩
    obtain ⟨j, hj, rfl⟩ := List.mem_map.mp hx
    exact ⟨j, List.mem_range.mp hj, eq_of_beq e⟩
  · rintro ⟨j, hj, e⟩
    exact ⟨f j, List.mem_map.mpr ⟨j, List.mem_range.mpr hj, rfl⟩, by simp [e]⟩
theorem int_nd_len : ∀ (l D : List Int), l.Nodup → (∀ x ∈ l, x ∈ D) → l.length ≤ D.length
  | [], D, _, _ => Nat.zero_le _
  | a :: l, D, h, hs => by
    have ha : a ∈ D := hs a (by simp)
    obtain ⟨h1, h2⟩ := List.nodup_cons.mp h
    have := int_nd_len l (D.erase a) h2 fun x hx => (List.mem_erase_of_ne (fun (e : x = a) => h1 (e ▸ hx))).mpr (hs x (by simp [hx]))
    rw [List.length_erase_of_mem ha] at this
    have hp : 0 < D.length := List.length_pos_of_mem ha
    simp only [List.length_cons]
    omega
theorem nd_of_len : ∀ (ns l : List Int), l.Nodup → (∀ x ∈ l, x ∈ ns) → l.length = ns.length → ns.Nodup
  | [], _, _, _, _ => List.nodup_nil
  | a :: t, l, h, hs, e => by
    have ha : a ∉ t := fun ha => by
      have := int_nd_len l t h fun x hx => by
        rcases List.mem_cons.mp (hs x hx) with e | h
        · rw [e]; exact ha
        · exact h
      simp only [List.length_cons] at e
      omega
    by_cases hl : a ∈ l
    · refine List.nodup_cons.mpr ⟨ha, nd_of_len t (l.erase a) (h.erase a) (fun x hx => ?_) (by rw [List.length_erase_of_mem hl, e]; rfl)⟩
      have h2 := (h.mem_erase_iff).mp hx
      rcases List.mem_cons.mp (hs x h2.2) with e | h
      · exact absurd e h2.1
      · exact h
    · have := int_nd_len l t h fun x hx => by
        rcases List.mem_cons.mp (hs x hx) with e | h
        · exact absurd (e ▸ hx) hl
        · exact h
      simp only [List.length_cons] at e
      omega
/-- as many different ones as there are, or fewer -/
theorem met_len {ns : List Int} : (firstMet (fun i => ns.getD i 0) ns.length).length ≤ ns.length ∧ ((firstMet (fun i => ns.getD i 0) ns.length).length = ns.length ↔ ns.Nodup) := by
  have hle := firstMet_length_le (fun i => ns.getD i 0) ns.length
  have hm : ∀ k : Int, k ∈ firstMet (fun i => ns.getD i 0) ns.length ↔ k ∈ ns := fun k => by
    rw [met_mem]
    constructor
    · rintro ⟨j, hj, rfl⟩
      rw [List.getD_eq_getElem?_getD, List.getElem?_eq_getElem hj]
      exact List.getElem_mem hj
    · intro h
      obtain ⟨j, hj, e⟩ := List.getElem_of_mem h
      exact ⟨j, hj, by rw [List.getD_eq_getElem?_getD, List.getElem?_eq_getElem hj, e]; rfl⟩
  refine ⟨hle, fun e => ?_, fun h => Nat.le_antisymm hle (int_nd_len _ _ h fun x hx => (hm x).mpr hx)⟩
  exact nd_of_len _ _ (met_nd _ _) (fun x hx => (hm x).mp hx) e
def tLenSetI (K : PySem.W.Frag) (ta : TE) : TE := fun σ H Q => ta σ H fun x H1 => ∃ (l : Addr) (ns : List Int), x = .ref l ∧ SqL K H1 l (ns.map V.int) ∧ ns.length < 4000 ∧ Q (.int ((firstMet (fun i => ns.getD i 0) ns.length).length : Nat)) H1
theorem pe_lenSetI {X : Cx} {a : Expr} {ta : TE} {p p2 q pos : Pos} (hc : X.calm = true) (hg : Gl X "len") (hm : X.mg "len" = none) (hg2 : Gl X "set") (hm2 : X.mg "set" = none) (ha : PE X a ta)
    (na : starEach [a] X.env = (false, eval a X.env) :: starEach [] X.env := by rfl) : PE X (.Call (.Name "len" p) [.Call (.Name "set" p2) [a] [] q] [] pos) (tLenSetI X.K ta) := by
  refine ⟨fun pins s σ H Q I h => Call_ (ld_blt I hg hm boot_len (callWith_builtin1 (args_cons (Call_ (ld_blt I hg2 hm2 boot_set (callWith_type1 (args_cons (thn (ha.run pins s σ H _ I h) fun v s1 ⟨x, H1, I1, r1, l, ns, e, hq, hn, q1⟩ => args_nil ?_) na) na rfl))) rfl) rfl rfl))⟩
  subst e
  cases r1
  obtain ⟨its, rv, pl, hz⟩ := I1.list hq
  have hl : its.toArray.size = ns.length := by rw [List.size_toArray, ← rv.length, List.length_map]
  refine call_set_list (I1.ok.hd hc) pl.isList (by simpa using ints_of_vals rv) (by rw [hl]; show _ < 4096; omega) fun h' tk R kp => args_nil ?_
  rw [hl] at R
  obtain ⟨o, es, ep, t, ho, hex, hd, _, _, hsz, hf, hn2⟩ := R
  have I2 : Inv X pins σ H1 { s1 with heap := h', toks := tk } := I1.kept fun b o e => kp b o (Heap.lt_size e) e
  refine call_len_set ho hex hd hf (by rw [hn2]; have := met_len (ns := ns); omega) ⟨.int _, H1, I2.tok _, ⟨_, by rw [hn2]⟩, q1⟩
section
variable {K : PySem.W.Frag} {Γ : Ga} {k : Gp → Ga → Prop} {te : TE}
theorem we_lenSetI (h : WQ te Γ fun q Γ1 => ∃ ns : List Int, q = dP (.list (ns.map .int)) ∧ ns.length < 4000 ∧ ∀ m : Nat, m ≤ ns.length → (m = ns.length ↔ ns.Nodup) → k (dat (.int m)) Γ1) : WE (tLenSetI K te) Γ k := fun ω σ H S Q f => h ω σ H S _ fun v q Γ1 ω1 H1 ⟨ns, e, hl, hk⟩ S1 p f1 => by
  subst e
  obtain ⟨a, xs, rfl, ha, hd⟩ := DR.lst_inv p
  rw [hd.ints] at ha
  have hm := met_len (ns := ns)
  exact ⟨a, ns, rfl, SqL.of (vw_H ha), hl, f _ _ Γ1 ω1 H1 (hk _ hm.1 hm.2) S1 (DR.int _) f1⟩
end
end G

/-! ### o.m(..), truth of a list, xs[::-1] -/
namespace G
open PySem PySem.Spec PyProof.Rows L2
section
variable {K : PySem.W.Frag} {P : Nat → Bool} {Γ : Ga} {k : Gp → Ga → Prop} {kb : Bool → Ga → Prop} {te ta : TE} {tr : TA} {n : Nat} {F : Fw} {E : XK} {C : Addr} {m : Str}
theorem we_meth {i : Nat} {ds : List (Str × PyData)} (h : Γ[i]? = some (some (per (objP C ds)))) (nm : lookD m ds = none)
    (ha : WA tr Γ fun as Γ1 => Γ1[i]? = some (some (per (objP C ds))) ∧ as.length + 1 = n ∧ slots as = [] ∧ F (per (objP C ds) :: (qsOf as).map per) (fun g _ => k g Γ1) fun _ _ => False) :
    WE (tMeth C m (SpG n F) [] E (tVar i) tr) Γ k := fun ω σ H S Q f => by
  obtain ⟨v, e, hp⟩ := S.2 i _ h
  obtain ⟨a, dx, fs, rfl, hA, hf⟩ := id hp
  refine ⟨_, e, a, dx, fs, rfl, vw_H hA, Fds.none hf nm, ha ω σ H S _ fun vs as Γ1 ω1 H1 ⟨h1, hn, hs, hF⟩ S1 ax f1 => ?_⟩
  obtain ⟨v1, e1, hp1⟩ := S1.2 i _ h1
  rw [e] at e1
  cases e1
  obtain ⟨l1, l2, l3⟩ := args_q hs ax
  rw [List.append_nil]
  refine call_per (qs := objP C ds :: qsOf as) (k := k) (kx := fun _ => False) S1 (fun j q v h3 h4 => ?_) (by simp [l1]) (by simp [l1, ← l2, hn]) hF (fun v g ω' H' hk S' p f2 => f v g Γ1 ω' H' hk S' p (f1.trans f2)) fun _ _ _ hx => hx.elim
  match j, h3, h4 with
  | 0, h3, h4 =>
    cases h3
    cases h4
    exact hp1
  | j + 1, h3, h4 => exact l3 j q v (by simpa using h3) (by simpa using h4)
/-- a value as a test -/
def tTru (K : PySem.W.Frag) (ta : TE) : TT := fun σ H Q => ta σ H fun x H' => ∃ b, TruV K x H' b ∧ Q b H'
theorem wt_truL (h : WQ ta Γ fun q Γ1 => ∃ ds, q = dP (.list ds) ∧ kb (!ds.isEmpty) Γ1) : WT (tTru K ta) Γ kb := fun ω σ H S Q f => h ω σ H S _ fun v q Γ1 ω1 H1 ⟨ds, e, hk⟩ S1 p f1 => by
  subst e
  obtain ⟨a, xs, rfl, ha, hd⟩ := DR.lst_inv p
  have e : (!xs.isEmpty) = !ds.isEmpty := by
    have := hd.length
    cases xs <;> cases ds <;> simp_all
  refine ⟨!xs.isEmpty, .inl ⟨xs, SqL.of (vw_H ha), rfl⟩, ?_⟩
  rw [e]
  exact f _ Γ1 ω1 H1 hk S1 f1
theorem DRs.rev {H : Hp} : ∀ {ds : List PyData} {vs : List V}, DRs H vs ds → DRs H vs.reverse ds.reverse
  | [], _, h => by cases h; exact .nil
  | d :: ds, _, h => by
    cases h with | cons a b =>
    rw [List.reverse_cons, List.reverse_cons]
    exact (DRs.rev b).append (.cons a .nil)
theorem we_revL (h : WQ te Γ fun q Γ1 => ∃ ds, q = dP (.list ds) ∧ k (own ds.reverse) Γ1) : WE (tRevL K te) Γ k := fun ω σ H S Q f => h ω σ H S _ fun v q Γ1 ω1 H1 ⟨ds, e, hk⟩ S1 p f1 => by
  subst e
  obtain ⟨a, xs, rfl, ha, hd⟩ := DR.lst_inv p
  exact ⟨a, xs, rfl, SqL.of (vw_H ha), fun l hl => f _ _ Γ1 (paint ω1 l 2) _ hk (S1.new 2 hl) ⟨l, _, rfl, paint_at, (hd.rev).mono (paint_same hl 0)⟩ (f1.trans (paint_fr hl))⟩
end
end G

namespace G
open PySem L2
local macro_rules | `(tactic| walk_at "g1") => `(tactic| first
  | (with_reducible show WE _ _ _; with_reducible first | refine we_var (by with_unfolding_all exact rfl) ?_ | (show WE (tOp _ _ _) _ _; first | refine we_ixS (by with_unfolding_all exact rfl) ?_ | refine we_ixScr (by with_unfolding_all exact rfl) ?_ | refine we_inS (by with_unfolding_all exact rfl) ?_ | refine we_notInS (by with_unfolding_all exact rfl) ?_ | refine we_eqS (by with_unfolding_all exact rfl) ?_ | refine we_neS (by with_unfolding_all exact rfl) ?_ | refine we_opK ?_) | (show WE (tCB _ _) _ _; first | refine we_lenS' (by with_unfolding_all exact rfl) ?_ | refine we_lenScr (by with_unfolding_all exact rfl) ?_ | refine we_cbK ?_) | refine we_int ?_ | refine we_bl ?_ | refine we_non ?_ | refine we_str ?_ | refine we_neg ?_ | refine we_not ?_ | refine we_and ?_ | refine we_or ?_ | refine we_if ?_ | refine we_tup ?_ | refine we_lst ?_ | refine we_call ?_ | refine we_mt (by with_unfolding_all exact rfl) ?_)
  | (with_reducible show WS _ _ _ _; with_reducible first | refine ws_seqA ?_ | refine ws_seqD ?_ | refine ws_asg (by with_unfolding_all exact rfl) ?_ | refine ws_asgG ?_ | refine ws_if ?_ | refine ws_ret ?_ | refine ws_drop ?_ | refine ws_next ?_ | refine ws_retN ?_)
  | (with_reducible show WT _ _ _; with_reducible first | refine wt_test ?_ | refine wt_B ?_ | refine wt_not ?_ | refine wt_and ?_ | refine wt_or ?_ | refine wt_yes ?_)
  | (with_reducible show WA _ _ _; with_reducible first | refine wa_nil ?_ | refine wa_cons (wq_of (we_var (by with_unfolding_all exact rfl) ?_)) | refine wa_slotU (by with_unfolding_all exact rfl) ?_ | refine wa_cons ?_)
  | (with_reducible show OpK _ _ _ _ _; with_reducible first | refine ok_plusI ?_ | refine ok_sub ?_ | refine ok_lt ?_ | refine ok_le ?_ | refine ok_gt ?_ | refine ok_ge ?_ | refine ok_eqI ?_ | refine ok_neI ?_ | refine ok_mod (by first | assumption | decide | omega) ?_ | refine ok_ixL (by with_unfolding_all exact rfl) ?_)
  | (with_reducible show CbK _ _ _ _; with_reducible first | refine ck_lenL ?_ | refine ck_lenT ?_ | refine ck_int ?_ | refine ck_intB ?_ | refine ck_max ?_ | refine ck_min ?_ | refine ck_list ?_)
  | with_reducible refine wq_of ?_
  | (with_reducible show WG _ _ _ _ _; with_reducible first | refine wg_name (by with_unfolding_all exact rfl) ?_ | refine wg_tup (by with_unfolding_all exact rfl) ?_ | refine wg_set (by with_unfolding_all exact rfl) ?_)
  | (with_reducible show WGs _ _ _ _ _; with_reducible first | refine wgs_cons ?_ | refine wgs_nil ?_)
  | with_reducible refine iteT ?_
  | with_reducible refine iteF ?_
  | with_reducible refine ⟨_, frz_per, ?_⟩
  | with_reducible refine ⟨_, frz_own, ?_⟩
  | refine ⟨_, rfl, ?_⟩
  | refine ⟨_, argD1, ?_⟩
  | refine ⟨_, argD2, ?_⟩
  | refine ⟨_, argD0, ?_⟩
  | refine ⟨_, argD3, ?_⟩
  | refine ⟨_, argD4, ?_⟩
  | refine ⟨_, _, rfl, rfl, rfl, ?_⟩
  | refine ⟨_, _, _, rfl, rfl, rfl, ?_⟩
  | refine ⟨(by simp only [List.length_cons, List.length_nil]; decide), ?_⟩
  | refine ⟨rfl, nd1, ?_⟩
  | refine ⟨rfl, nd0, ?_⟩)
local macro_rules | `(tactic| walk_at "go") => `(tactic| repeat walk_at "g1")
local macro_rules | `(tactic| walk_at "g2") => `(tactic| first
  | (with_reducible show WE _ _ _; with_reducible first | refine we_var (by with_unfolding_all exact rfl) ?_ | (show WE (tOp _ _ _) _ _; first | refine we_notN ?_ | refine we_ixS (by with_unfolding_all exact rfl) ?_ | refine we_ixScr (by with_unfolding_all exact rfl) ?_ | refine we_inS (by with_unfolding_all exact rfl) ?_ | refine we_notInS (by with_unfolding_all exact rfl) ?_ | refine we_eqS (by with_unfolding_all exact rfl) ?_ | refine we_neS (by with_unfolding_all exact rfl) ?_ | refine we_opK ?_) | (show WE (tCB _ _) _ _; first | refine we_isInt ?_ | refine we_isBl ?_ | refine we_isLst ?_ | refine we_isTup ?_ | refine we_lenO (by with_unfolding_all exact rfl) ?_ | refine we_lenS' (by with_unfolding_all exact rfl) ?_ | refine we_lenScr (by with_unfolding_all exact rfl) ?_ | refine we_cbK ?_) | refine we_chain ?_ | refine we_slice ?_ | refine we_int ?_ | refine we_bl ?_ | refine we_non ?_ | refine we_str ?_ | refine we_neg ?_ | refine we_not ?_ | refine we_and ?_ | refine we_or ?_ | refine we_if ?_ | refine we_tup ?_ | refine we_lst ?_ | refine we_call ?_ | refine we_mt (by with_unfolding_all exact rfl) ?_)
  | (with_reducible show WS _ _ _ _; with_reducible first | refine ws_seqA ?_ | refine ws_seqD ?_ | refine ws_asg (by with_unfolding_all exact rfl) ?_ | refine ws_asgG ?_ | refine ws_if ?_ | refine ws_ret ?_ | refine ws_drop ?_ | refine ws_next ?_ | refine ws_retN ?_)
  | (with_reducible show WT _ _ _; with_reducible first | refine wt_test ?_ | refine wt_B ?_ | refine wt_not ?_ | refine wt_and ?_ | refine wt_or ?_ | refine wt_yes ?_)
  | (with_reducible show WA _ _ _; with_reducible first | refine wa_nil ?_ | refine wa_cons (wq_of (we_var (by with_unfolding_all exact rfl) ?_)) | refine wa_slotU (by with_unfolding_all exact rfl) ?_ | refine wa_cons ?_)
  | (with_reducible show OpK _ _ _ _ _; with_reducible first | refine ok_isB ?_ | refine ok_notB ?_ | refine ok_plusI ?_ | refine ok_sub ?_ | refine ok_lt ?_ | refine ok_le ?_ | refine ok_gt ?_ | refine ok_ge ?_ | refine ok_eqI ?_ | refine ok_neI ?_ | refine ok_mod (by first | assumption | decide | omega) ?_ | refine ok_ixL (by with_unfolding_all exact rfl) ?_)
  | (with_reducible show CbK _ _ _ _; with_reducible first | refine ck_lenL ?_ | refine ck_lenT ?_ | refine ck_int ?_ | refine ck_intB ?_ | refine ck_max ?_ | refine ck_min ?_ | refine ck_list ?_)
  | with_reducible refine wq_of ?_
  | (with_reducible show WG _ _ _ _ _; with_reducible first | refine wg_name (by with_unfolding_all exact rfl) ?_ | refine wg_tup (by with_unfolding_all exact rfl) ?_ | refine wg_set (by with_unfolding_all exact rfl) ?_)
  | (with_reducible show WGs _ _ _ _ _; with_reducible first | refine wgs_cons ?_ | refine wgs_nil ?_)
  | (with_reducible show WO _ _ _; with_reducible first | refine wo_some ?_ | refine wo_none ?_)
  | refine ⟨_, argD5, ?_⟩
  | refine ⟨_, argD6, ?_⟩
  | refine ⟨_, argD7, ?_⟩
  | refine ⟨_, argD9, ?_⟩
  | with_reducible refine iteT ?_
  | with_reducible refine iteF ?_
  | with_reducible refine ⟨_, frz_per, ?_⟩
  | with_reducible refine ⟨_, frz_own, ?_⟩
  | refine ⟨_, rfl, ?_⟩
  | refine ⟨_, argD1, ?_⟩
  | refine ⟨_, argD2, ?_⟩
  | refine ⟨_, argD0, ?_⟩
  | refine ⟨_, argD3, ?_⟩
  | refine ⟨_, argD4, ?_⟩
  | refine ⟨_, _, rfl, rfl, rfl, ?_⟩
  | refine ⟨_, _, _, rfl, rfl, rfl, ?_⟩
  | refine ⟨(by simp only [List.length_cons, List.length_nil]; decide), ?_⟩
  | refine ⟨rfl, nd1, ?_⟩
  | refine ⟨rfl, nd0, ?_⟩)
local macro_rules | `(tactic| walk_at "g3") => `(tactic| first | with_reducible refine we_dnew ?_ | with_reducible refine ck_tuple ?_ | with_reducible refine we_repr ?_ | with_reducible refine we_lenSetI ?_ | with_reducible refine we_revL ?_ | with_reducible refine wt_truL ?_ | walk_at "g2")
def t_are_different_counts (K : PySem.W.Frag) : TS :=
  (tRet (tAndV (tCall (sp_are_counts K) [] E0 (tCons (tVar 0) tNil)) (tOp (rEqD K) (tLenSetI K (tVar 0)) (tCB (rLenA K) (tCons (tVar 0) tNil)))))
abbrev N_are_different_counts : List Str := ["value"]
def diffD : PyData → Bool
  | .list ds => ds.all cntD && decide ((ds.map intOf).Nodup)
  | _ => false
abbrev F_are_different_counts : Fw := fun gs kk _ => ∃ d, gs = [dat d] ∧ (∀ ds, d = .list ds → ds.length < 4000) ∧ kk (dat (.bool (diffD d))) [none]
abbrev sp_are_different_counts (K : PySem.W.Frag) : Sp := SpG 1 F_are_different_counts
theorem pure_are_different_counts {K : PySem.W.Frag} {vs : List V} {H : Hp} {Q : VK} {E : XK} (h : sp_are_different_counts K vs H Q E) : t_are_different_counts K { nx := fun _ H' => Q .non H', rt := Q } (start N_are_different_counts vs) H := by
  refine body_ok (fun _ => false) ?_ h
  rintro gs kk xx ⟨d, rfl, hz, hk⟩ -
  unfold t_are_different_counts
  have out : ∀ {b : Bool} {Γ : Ga}, Γ.length = 1 → diffD d = b → ∃ g' Γp, Ent (dat (.bool b)) g' ∧ Les (mask (fun _ => false) 1 Γ) Γp ∧ kk g' Γp := fun _ e => ⟨_, [none], Ent.refl, les_none les_nil, e ▸ hk⟩
  repeat walk_at "g3"
  refine ⟨fun ds e => by have := hz ds e; omega, _, frz_per, _, rfl, ?_⟩
  cases hc : cntsD d with
  | false =>
    refine iteF (out rfl ?_)
    cases d <;> first | rfl | exact (by simp only [cntsD] at hc; simp only [diffD, hc, Bool.false_and])
  | true =>
    obtain ⟨ds, rfl⟩ : ∃ ds, d = .list ds := by
      cases d <;> first | exact ⟨_, rfl⟩ | exact Bool.noConfusion hc
    have hcd : ds.all cntD = true := hc
    have e0 := cnts_ints hcd
    have hl := hz ds rfl
    have ed : diffD (.list ds) = decide ((ds.map intOf).Nodup) := by simp only [diffD, hcd, Bool.true_and]
    generalize ds.map intOf = ws at *
    subst e0
    rw [List.length_map] at hl
    refine iteT ?_
    repeat walk_at "g3"
    refine ⟨hl, fun m h1 h2 => ?_⟩
    repeat walk_at "g3"
    rw [List.length_map]
    refine out rfl ?_
    rw [ed]
    exact decide_eq_decide.mpr ⟨fun h => by have := h2.mpr h; omega, fun h => h2.mp (by omega)⟩
theorem webF_no {n : Nat} {ts : List (Int × Int)} {m : Str} (h1 : ("_ties" : Str) ≠ m) (h2 : ("_near" : Str) ≠ m) : lookD m (webF n ts) = none := by
  show (if ("_ties" : Str) = m then _ else if ("_near" : Str) = m then _ else none) = none
  rw [if_neg h1, if_neg h2]
end G

/-! ### a list of one's own lent for a call that answers a bool -/
namespace G
open PySem L2
end G

/-! ### what is walked, said as a list of data; comprehensions and loops by functions -/
namespace G
open PySem L2
def WIL (wi : TI) (Γ : Ga) (k : List PyData → Ga → Prop) : Prop := WI wi Γ fun n it Γ1 => ∃ ds : List PyData, n = ds.length ∧ (∀ i, i < n → it i = dP (ds.getD i .none)) ∧ k ds Γ1
section
variable {kg : Ga → Prop} {kt : Bool → Ga → Prop} {u : TS} {K : PySem.W.Frag} {P : Nat → Bool} {Γ : Ga} {D : Pe} {k : Gp → Ga → Prop} {kd : List PyData → Ga → Prop} {te tl : TE} {t tb : TS} {ta : TA} {g : TG} {wi : TI} {vs : List Nat} {tt : TT}
theorem wil_list (h : WQ tl Γ fun q Γ1 => ∃ ds, q = dP (.list ds) ∧ kd ds Γ1) : WIL (iList K tl) Γ kd :=
  wi_list (h.imp fun q Γ1 ⟨ds, e, hk⟩ => ⟨ds, e, ds, rfl, fun _ _ => rfl, hk⟩)
theorem wil_range1 (h : WA ta Γ fun as Γ1 => ∃ j : Int, as = [.q (dP (.int j))] ∧ -(2 ^ 62) ≤ j ∧ j < 2 ^ 62 ∧ kd ((List.range j.toNat).map fun i => .int (i : Nat)) Γ1) : WIL (iRng1 ta) Γ kd :=
  wi_range1 (h.imp fun as Γ1 ⟨j, e, a, b, hk⟩ => ⟨j, e, a, b, _, by simp, fun i hi => by
    rw [List.getD_eq_getElem?_getD, List.getElem?_map, List.getElem?_range hi]
    simp, hk⟩)
theorem we_lcP {wi : TI} {vs : List Nat} (h : WI wi Γ fun n it Γ1 => ∃ Pv : Nat → List PyData → Ga → Prop, Pv 0 [] Γ1 ∧ (∀ acc Γ2, Pv n acc Γ2 → k (own acc) Γ2) ∧ ∀ i acc Γ2, i < n → Pv i acc Γ2 → Γ2.length = Γ.length →
    WG (fun i => !vs.contains i) g (it i) (wipeG Γ2 vs) fun Γ3 => WT tt Γ3 fun b Γ4 => if b = true then WQ te Γ4 fun q Γ5 => ∃ d, q = dP d ∧ acc.length < 100000 ∧ Pv (i + 1) (acc ++ [d]) (wipeG Γ5 vs) else Pv (i + 1) acc (wipeG Γ4 vs)) :
    WE (tLc wi g tt te vs) Γ k := fun ω σ H S Q f => h ω σ H S _ fun J n it Γ1 ω1 H1 ⟨Pv, h0, hd, hs⟩ S1 W f1 => by
  intro L hL
  have hlen : ∀ {Γ2 : Ga} {ω2 : Col} {σ2 : L2.St} {H2 : Hp}, Sta Γ2 ω2 σ2 H2 → σ2.length = σ.length → Γ2.length = Γ.length := fun {Γ2 ω2 σ2 H2} S2 e => by rw [← S2.1, e, S.1]
  refine ⟨fun i μ H' => μ = n - i ∧ i ≤ n ∧ ∃ acc xs Γ2 ω2, Pv i acc Γ2 ∧ Sta Γ2 ω2 σ H' ∧ Fr ω1 ω2 H1 H' ∧ ω2 L = 1 ∧ H' L = some (.lst xs) ∧ DRs (vw ω2 H' 0) xs acc,
    ⟨n, by simp, Nat.zero_le _, [], [], Γ1, paint ω1 L 1, h0, S1.new 1 hL, paint_fr hL, by unfold paint; rw [if_pos rfl], upd_same, .nil⟩, ?_⟩
  rintro i μ H' ⟨rfl, hi, acc, xs, Γ2, ω2, p2, S2, f2, c2, e2, d2⟩
  have sA : Same (vw ω1 H1 0) H' := fun a o e => vw_H (f2.1 a o e)
  by_cases hlt : i < n
  · refine .inr ⟨((W i H' sA).1 hlt).1, fun H'' => ∃ acc xs Γ2 ω2, Pv (i + 1) acc Γ2 ∧ Sta Γ2 ω2 σ H'' ∧ Fr ω1 ω2 H1 H'' ∧ ω2 L = 1 ∧ H'' L = some (.lst xs) ∧ DRs (vw ω2 H'' 0) xs acc, fun H'' z => ⟨n - (i + 1), by omega, rfl, hlt, z⟩, fun x H'' y => ?_⟩
    obtain ⟨ω3, S3, f3, q3⟩ := yld_ok W rfl f2 S2 hlt y
    refine hs i acc Γ2 hlt p2 (hlen S2 rfl) ω3 _ H'' x (S3.wipe vs) q3 _ fun Γ4 ω4 σ4 H4 h4 S4 f4 q4 => ?_
    obtain ⟨S5, ew⟩ := S4.unwipe q4
    refine ⟨ew, h4 ω4 σ4 H4 S4 _ fun b Γ6 ω6 H6 hk S6 f6 => ?_⟩
    have f16 : Fr ω1 ω6 H1 H6 := ((f2.trans f3).trans f4).trans f6
    have f26 : Fr ω2 ω6 H' H6 := (f3.trans f4).trans f6
    have keep : ∀ {ω7 : Col} {H7 : Hp}, Fr ω2 ω7 H' H7 → ω7 L = 1 ∧ H7 L = some (.lst xs) ∧ DRs (vw ω7 H7 0) xs acc := fun {ω7 H7} f7 => by
      have z := f7.2 L _ (vw_mk c2 e2)
      exact ⟨vw_c z, vw_H z, d2.mono f7.1⟩
    cases b with
    | false =>
      refine iteF ?_
      obtain ⟨k1, k2, k3⟩ := keep f26
      exact ⟨acc, xs, _, ω6, hk, (S6.unwipe q4).1, f16, k1, k2, k3⟩
    | true =>
      refine iteT ((show WQ te Γ6 _ from hk) ω6 σ4 H6 S6 _ fun w q Γ7 ω7 H7 ⟨d, eq, hl, h7⟩ S7 p7 f7 => ?_)
      subst eq
      obtain ⟨k1, k2, k3⟩ := keep (f26.trans f7)
      have m0 : Same (vw ω7 H7 0) (vw ω7 (upd H7 L (.lst (xs ++ [w]))) 0) := mut_same (by rw [k1]; decide)
      refine ⟨xs, k2, by rw [k3.length]; exact Nat.lt_of_lt_of_le hl (by decide), acc ++ [d], xs ++ [w], _, ω7, h7, ?_, ?_, k1, upd_same, (k3.mono m0).snoc (DR.mono m0 d p7)⟩
      · exact ((S7.unwipe q4).1).move m0 fun i g _ => mut_same (by rw [k1]; omega)
      · exact ⟨(f16.trans f7).1.trans m0, fun a o h => by
          have z := (f16.trans f7).2 a o h
          exact vw_mk (vw_c z) (by rw [upd_ne (ne_of_none (vw_H h) hL)]; exact vw_H z)⟩
  · have e : i = n := by omega
    subst e
    refine .inl ⟨(W i H' sA).2 (Nat.le_refl _), ?_⟩
    have pn : ∀ c, c ≠ 1 → Same (vw ω2 H' c) (vw (paint ω2 L 2) H' c) := fun c hc a o h => by
      refine vw_mk ?_ (vw_H h)
      unfold paint
      rw [if_neg]
      · exact vw_c h
      · intro e
        rw [e] at h
        exact hc ((vw_c h).symm.trans c2)
    refine f (.ref L) (own acc) Γ2 (paint ω2 L 2) H' (hd acc Γ2 p2) (S2.move (pn 0 (by decide)) fun i _ _ => pn _ (by omega)) ⟨L, xs, rfl, vw_mk (by unfold paint; rw [if_pos rfl]) e2, d2.mono (pn 0 (by decide))⟩ (f1.trans ⟨f2.1.trans (pn 0 (by decide)), fun a o h => ?_⟩)
    have z := f2.2 a o h
    refine vw_mk ?_ (vw_H z)
    unfold paint
    rw [if_neg (ne_of_none (vw_H h) hL)]
    exact vw_c z
theorem ws_forP {wi : TI} (h : WI wi Γ fun n it Γ1 => ∃ Pv : Nat → Ga → Prop, Pv 0 Γ1 ∧ (∀ Γ2, Pv n Γ2 → D.nx Γ2) ∧ ∀ i Γ2, i < n → Pv i Γ2 →
    WG P g (it i) Γ2 fun Γ3 => WS P tb Γ3 (D.lp (Pv (i + 1)))) : WS P (tFor wi g tb) Γ D := fun ω σ H S E m => h ω σ H S _ fun J n it Γ1 ω1 H1 ⟨Pv, h0, hd, hs⟩ S1 W f1 => by
  refine ⟨fun i μ σ' H' => μ = n - i ∧ i ≤ n ∧ ∃ Γ2 ω2, Pv i Γ2 ∧ Sta Γ2 ω2 σ' H' ∧ Fr ω1 ω2 H1 H' ∧ Pin P σ σ', ⟨n, by simp, Nat.zero_le _, Γ1, ω1, h0, S1, Fr.refl, Pin.refl⟩, ?_⟩
  rintro i μ σ' H' ⟨rfl, hi, Γ2, ω2, p2, S2, f2, q2⟩
  have sA : Same (vw ω1 H1 0) H' := fun a o e => vw_H (f2.1 a o e)
  by_cases hlt : i < n
  · refine .inr ⟨((W i H' sA).1 hlt).1, fun σ'' H'' => ∃ Γ2 ω2, Pv (i + 1) Γ2 ∧ Sta Γ2 ω2 σ'' H'' ∧ Fr ω1 ω2 H1 H'' ∧ Pin P σ σ'', fun σ'' H'' z => ⟨n - (i + 1), by omega, rfl, hlt, z⟩, fun x H'' y => ?_⟩
    obtain ⟨ω3, S3, f3, q3⟩ := yld_ok W rfl f2 S2 hlt y
    refine hs i Γ2 hlt p2 ω3 σ' H'' x S3 q3 _ fun Γ4 ω4 σ4 H4 h4 S4 f4 q4 => ?_
    have f14 : Fr ω1 ω4 H1 H4 := (f2.trans f3).trans f4
    refine h4 ω4 σ4 H4 S4 _ ⟨fun Γ' ω' σ5 H5 hk S5 f5 q5 => ⟨Γ', ω', hk, S5, f14.trans f5, (q2.trans q4).trans q5⟩,
      fun v gg Γ' ω' σ5 H5 hk S5 p5 f5 q5 => m.rt v gg Γ' ω' σ5 H5 hk S5 p5 (f1.trans (f14.trans f5)) ((q2.trans q4).trans q5),
      fun Γ' ω' σ5 H5 hk S5 f5 q5 => m.nx Γ' ω' σ5 H5 hk S5 (f1.trans (f14.trans f5)) ((q2.trans q4).trans q5),
      fun Γ' ω' σ5 H5 hk S5 f5 q5 => ⟨Γ', ω', hk, S5, f14.trans f5, (q2.trans q4).trans q5⟩⟩
  · have e : i = n := by omega
    subst e
    exact .inl ⟨(W i H' sA).2 (Nat.le_refl _), m.nx Γ2 ω2 σ' H' (hd Γ2 p2) S2 (f1.trans f2) q2⟩

/-- [e for x in xs if t], by a function; but for its own names the block leaves the slots -/
theorem we_lcF {α : Type} (enc : α → PyData) {β : Type} (enc' : β → PyData) (f : α → Option β) (h : WIL wi Γ fun ds Γ1 => ∃ xs : List α, ds = xs.map enc ∧ wipeG Γ1 vs = Γ1 ∧ xs.length ≤ 100000 ∧
      (∀ x, x ∈ xs → WG (fun i => !vs.contains i) g (dP (enc x)) Γ1 fun Γ3 => WT tt Γ3 fun b Γ4 => if b = true then WQ te Γ4 fun q Γ5 => ∃ y, f x = some y ∧ q = dP (enc' y) ∧ wipeG Γ5 vs = Γ1 else f x = none ∧ wipeG Γ4 vs = Γ1) ∧
      k (own ((xs.filterMap f).map enc')) Γ1) : WE (tLc wi g tt te vs) Γ k := by
  refine we_lcP fun ω σ H S R c => h ω σ H S R fun J n it Γ1 ω1 H1 ⟨ds, hn, hit, xs, e, hw, hl, hb, hk⟩ S1 W f1 => c J n it Γ1 ω1 H1 ?_ S1 W f1
  subst e
  have hlen : n = xs.length := by rw [hn, List.length_map]
  refine ⟨fun i acc Γ2 => Γ2 = Γ1 ∧ acc = ((xs.take i).filterMap f).map enc', ⟨rfl, by simp⟩, ?_, ?_⟩
  · rintro acc Γ2 ⟨rfl, rfl⟩
    rw [hlen, List.take_length]
    exact hk
  · rintro i acc Γ2 hi ⟨rfl, rfl⟩ -
    obtain ⟨x, hx⟩ : ∃ x, xs[i]? = some x := ⟨xs[i]'(by omega), List.getElem?_eq_getElem (by omega)⟩
    have e : it i = dP (enc x) := by
      rw [hit i hi, List.getD_eq_getElem?_getD, List.getElem?_map, hx]; rfl
    have et : xs.take (i + 1) = xs.take i ++ [x] := by rw [List.take_add_one, hx]; rfl
    rw [e, hw]
    refine fun ω2 σ2 H2 v S2 p R2 c2 => hb x (List.mem_of_getElem? hx) ω2 σ2 H2 v S2 p R2 fun Γ3 ω3 σ3 H3 h3 => c2 Γ3 ω3 σ3 H3 ?_
    refine fun ω4 σ4 H4 S4 R4 c4 => h3 ω4 σ4 H4 S4 R4 fun b Γ5 ω5 H5 h5 => c4 b Γ5 ω5 H5 ?_
    cases b with
    | true =>
      obtain h5 := (show WQ te Γ5 _ from h5)
      refine h5.imp fun q Γ6 ⟨y, e1, e2, e3⟩ => ⟨_, e2, ?_, e3, ?_⟩
      · rw [List.length_map]
        have := List.length_filterMap_le f (xs.take i)
        rw [List.length_take] at this
        omega
      · rw [et, List.filterMap_append, List.map_append]
        simp [e1]
    | false =>
      obtain ⟨e1, e2⟩ := (show f x = none ∧ wipeG Γ5 vs = Γ2 from h5)
      refine ⟨e2, ?_⟩
      rw [et, List.filterMap_append]
      simp [e1]
/-- [e for x in xs] -/
theorem we_lcM {α : Type} (enc : α → PyData) {β : Type} (enc' : β → PyData) (f : α → β) (h : WIL wi Γ fun ds Γ1 => ∃ xs : List α, ds = xs.map enc ∧ wipeG Γ1 vs = Γ1 ∧ xs.length ≤ 100000 ∧
      (∀ x, x ∈ xs → WG (fun i => !vs.contains i) g (dP (enc x)) Γ1 fun Γ3 => WQ te Γ3 fun q Γ5 => q = dP (enc' (f x)) ∧ wipeG Γ5 vs = Γ1) ∧
      k (own ((xs.map f).map enc')) Γ1) : WE (tLc wi g tYes te vs) Γ k := by
  refine we_lcF enc enc' (fun x => some (f x)) fun ω σ H S R c => h ω σ H S R fun J n it Γ1 ω1 H1 ⟨ds, hn, hit, xs, e, hw, hl, hb, hk⟩ => c J n it Γ1 ω1 H1 ⟨ds, hn, hit, xs, e, hw, hl, fun x hx => ?_, ?_⟩
  · refine fun ω2 σ2 H2 v S2 p R2 c2 => hb x hx ω2 σ2 H2 v S2 p R2 fun Γ3 ω3 σ3 H3 h3 => c2 Γ3 ω3 σ3 H3 ?_
    exact wt_yes (iteT (h3.imp fun q Γ5 ⟨a, b⟩ => ⟨_, rfl, a, b⟩))
  · have : xs.filterMap (fun x => some (f x)) = xs.map f := by
      rw [show (fun x => some (f x)) = some ∘ f from rfl, List.filterMap_eq_map]
    rw [this]
    exact hk
/-- a loop over xs: what holds of what has been walked -/
theorem ws_forF {α : Type} (enc : α → PyData) (Pv : List α → Ga → Prop) (h : WIL wi Γ fun ds Γ1 => ∃ xs : List α, ds = xs.map enc ∧ Pv [] Γ1 ∧ (∀ Γ2, Pv xs Γ2 → D.nx Γ2) ∧
      ∀ pre x post Γ2, xs = pre ++ x :: post → Pv pre Γ2 → WG P g (dP (enc x)) Γ2 fun Γ3 => WS P tb Γ3 (D.lp (Pv (pre ++ [x])))) : WS P (tFor wi g tb) Γ D := by
  refine ws_forP fun ω σ H S R c => h ω σ H S R fun J n it Γ1 ω1 H1 ⟨ds, hn, hit, xs, e, h0, hd, hs⟩ S1 W f1 => c J n it Γ1 ω1 H1 ?_ S1 W f1
  subst e
  have hlen : n = xs.length := by rw [hn, List.length_map]
  refine ⟨fun i Γ2 => Pv (xs.take i) Γ2, h0, fun Γ2 p => hd Γ2 (by rw [hlen, List.take_length] at p; exact p), fun i Γ2 hi p => ?_⟩
  have hi' : i < xs.length := by omega
  have e : it i = dP (enc xs[i]) := by
    rw [hit i hi, List.getD_eq_getElem?_getD, List.getElem?_map, List.getElem?_eq_getElem hi']; rfl
  rw [e]
  have q := hs (xs.take i) xs[i] (xs.drop (i + 1)) Γ2 (by rw [← List.drop_eq_getElem_cons hi', List.take_append_drop]) p
  rw [List.take_append_getElem hi'] at q
  exact q
end
end G

/-! ### any, abs, sum, max and min of a list of ints; typed data -/
namespace G
open PySem L2
abbrev rAnyA (K : PySem.W.Frag) : List V → Hp → VK → Prop := rAny K
abbrev rSumA (K : PySem.W.Frag) : List V → Hp → VK → Prop := rSum K
def rAbsI : List V → Hp → VK → Prop := fun xs H Q => ∃ i, xs = [.int i] ∧ Q (.int (if i < 0 then -i else i)) H
section
variable {X : Cx}
end
section
variable {K : PySem.W.Frag} {Γ : Ga} {k : Gp → Ga → Prop}
theorem any_map {α : Type} {p : α → Bool} {xs : List α} : (xs.map p).any id = xs.any p := by
  induction xs with
  | nil => rfl
  | cons x xs ih => simp [List.any_cons, ih]
theorem ck_any {bs : List Bool} (hk : k (dat (.bool (bs.any id))) Γ) : CbK (rAnyA K) [.list (bs.map .bool)] k Γ := ck_of (q := dP (.bool (bs.any id))) (fun A H vs s h Q f => by
  cases h with | cons x y =>
  cases y
  obtain ⟨a, xs, rfl, ha, hd⟩ := x.lst_inv
  rw [hd.bools] at ha
  exact ⟨a, bs, rfl, SqL.of (s _ _ ha), f _ (DR.bl _)⟩) hk
theorem ck_anyF {α : Type} {p : α → Bool} {xs : List α} (hk : k (dat (.bool (xs.any p))) Γ) : CbK (rAnyA K) [.list ((xs.map p).map .bool)] k Γ := ck_any (by rw [any_map]; exact hk)
theorem ck_allF {α : Type} {p : α → Bool} {xs : List α} (hk : k (dat (.bool (xs.all p))) Γ) : CbK (rAllA K) [.list ((xs.map p).map .bool)] k Γ := ck_all (by rw [all_map]; exact hk)
theorem ck_sumI {ns : List Int} (hk : k (dat (.int ns.sum)) Γ) : CbK (rSumA K) [.list (ns.map .int)] k Γ := ck_of (q := dP (.int ns.sum)) (fun A H vs s h Q f => by
  cases h with | cons x y =>
  cases y
  obtain ⟨a, xs, rfl, ha, hd⟩ := x.lst_inv
  rw [hd.ints] at ha
  exact ⟨a, ns, rfl, SqL.of (s _ _ ha), f _ (DR.int _)⟩) hk
theorem ck_abs {i : Int} (hk : k (dat (.int (if i < 0 then -i else i))) Γ) : CbK rAbsI [.int i] k Γ := ck_of (q := dP (.int (if i < 0 then -i else i))) (fun A H vs s h Q f => by
  cases h with | cons x y =>
  cases y
  cases x.int_inv
  exact ⟨i, rfl, f _ (DR.int _)⟩) hk
end
/-! ### data that is told apart by what it tells -/
structure EncOk {α : Type} [DecidableEq α] (n : Nat) (enc : α → PyData) : Prop where
  eqv : ∀ x y, PyData.eqv (enc x) (enc y) = decide (x = y)
  lay : ∀ x, Lay n (enc x)
section
variable {K : PySem.W.Frag} {Γ : Ga} {k : Gp → Ga → Prop} {α β : Type} [DecidableEq α] [DecidableEq β] {n m : Nat} {enc : α → PyData} {enc' : β → PyData}
theorem enc_int : EncOk 0 PyData.int := ⟨fun _ _ => eqv_int, fun _ => lay_int⟩
theorem EncOk.lst (h : EncOk n enc) : EncOk (n + 1) (fun xs : List α => PyData.list (xs.map enc)) := ⟨fun _ _ => eqv_list_inj h.eqv, fun xs => lay_list fun d hd => by
  obtain ⟨x, _, rfl⟩ := List.mem_map.mp hd
  exact h.lay x⟩
theorem enc_row : EncOk 1 rowI := enc_int.lst
/-- a pair of data told apart -/
def pairD {α β : Type} (e : α → PyData) (e' : β → PyData) (p : α × β) : PyData := .tuple [e p.1, e' p.2]
theorem EncOk.pair (h : EncOk n enc) (h' : EncOk m enc') : EncOk (max n m + 1) (pairD enc enc') := ⟨fun x y => by
  obtain ⟨a, b⟩ := x
  obtain ⟨c, d⟩ := y
  show PyData.eqv (.tuple [enc a, enc' b]) (.tuple [enc c, enc' d]) = _
  simp only [PyData.eqv, PyData.eqvAll, Bool.and_true, h.eqv, h'.eqv]
  by_cases h1 : a = c <;> by_cases h2 : b = d <;> simp [h1, h2], fun x => lay_tuple fun d hd => by
  rcases List.mem_cons.mp hd with e | e
  · rw [e]; exact (h.lay _).up (Nat.le_max_left _ _)
  · rw [List.mem_singleton.mp e]; exact (h'.lay _).up (Nat.le_max_right _ _)⟩
theorem dec_same {p : Prop} (i j : Decidable p) : @decide p i = @decide p j := decide_eq_decide.mpr Iff.rfl
theorem ok_neE (h : EncOk n enc) {x y : α} [i : Decidable (x = y)] (hk : k (dat (.bool (!decide (x = y)))) Γ) (hn : n ≤ 64 := by decide) : OpK (rNeD K) (enc x) (enc y) k Γ := ok_ne ((h.lay x).shaped hn) ((h.lay y).shaped hn) (by rw [h.eqv, dec_same _ i]; exact hk)
end
end G

namespace G
open PySem L2
def isNon : PyData → Bool
  | .none => true
  | _ => false
section
variable {K : PySem.W.Frag} {Γ : Ga} {k : Gp → Ga → Prop} {ta : TE} {tl : TA}
theorem DR.non_iff {A : Hp} {v : V} {d : PyData} (h : DR A v d) : decide (v = V.non) = isNon d := by cases h <;> simp [isNon]
/-- x is None, x is not None, of any data -/
theorem we_isNd (h : WQ ta Γ fun q Γ1 => ∃ d, q = dP d ∧ k (dat (.bool (isNon d))) Γ1) : WE (tOp rIsN0 ta (tC .non)) Γ k := fun ω σ H S Q f => h ω σ H S _ fun v q Γ1 ω1 H1 ⟨d, e, hk⟩ S1 p f1 => by
  subst e
  exact ⟨rfl, f _ _ Γ1 ω1 H1 hk S1 (by rw [DR.non_iff p]; exact DR.bl _) f1⟩
theorem we_notNd (h : WQ ta Γ fun q Γ1 => ∃ d, q = dP d ∧ k (dat (.bool (!isNon d))) Γ1) : WE (tOp rNotN0 ta (tC .non)) Γ k := fun ω σ H S Q f => h ω σ H S _ fun v q Γ1 ω1 H1 ⟨d, e, hk⟩ S1 p f1 => by
  subst e
  exact ⟨rfl, f _ _ Γ1 ω1 H1 hk S1 (by rw [DR.non_iff p]; exact DR.bl _) f1⟩
end
theorem ws_seqI {P : Nat → Bool} {c : TT} {t u r : TS} {Γ : Ga} {D : Pe} (h : WS P (tIfS c t u) Γ (D.to fun Γ' => WS P r Γ' D)) : WS P (tSeq (tIfS c t u) r) Γ D := ws_seq h
/-- an item at a place from 0 on -/
theorem atI_map {α : Type} {xs : List α} {f : α → PyData} {i : Int} {x : α} (h0 : 0 ≤ i) (h : xs[i.toNat]? = some x) : atI (xs.map f) i = some (f x) := atI_in h0 (by rw [List.getElem?_map, h]; rfl)
theorem atI_mem {ds : List PyData} {r : Int} (h0 : 0 ≤ r) (h1 : r < ds.length) : ∃ d, atI ds r = some d ∧ d ∈ ds :=
  ⟨ds[r.toNat]'(by omega), atI_in h0 (List.getElem?_eq_getElem (by omega)), List.getElem_mem _⟩
/-- some item of a list -/
theorem ok_ixMem {K : PySem.W.Frag} {Γ : Ga} {k : Gp → Ga → Prop} {ds : List PyData} {r : Int} (h0 : 0 ≤ r) (h1 : r < ds.length) (hk : ∀ d ∈ ds, k (dat d) Γ) : OpK (rIx K) (.list ds) (.int r) k Γ := by
  obtain ⟨d, h, hm⟩ := atI_mem h0 h1
  exact ok_ixL h (hk d hm)
end G

/-! ### lists of one's own lent for a call that answers a scalar -/
namespace G
open PySem L2
def scal : PyData → Bool
  | .none | .bool _ | .int _ | .str _ => true
  | _ => false
theorem DR.scal {A A' : Hp} {v : V} : ∀ {d : PyData}, G.scal d = true → DR A v d → DR A' v d
  | .none, _, h => by cases h; exact .non
  | .bool _, _, h => by cases h; exact .bl _
  | .int _, _, h => by cases h; exact .int _
  | .str _, _, h => by cases h; exact .str _
end G

namespace G
open PySem L2
theorem ws_par {P : Nat → Bool} {Γ : Ga} {D : Pe} {i j : Nat} {ta : TA} (hi : P i = false) (hj : P j = false) (h : WA ta Γ fun as Γ1 => ∃ q q' : Per, as = [.q q, .q q'] ∧ D.nx ((Γ1.set i (some (per q))).set j (some (per q')))) : WS P (tPar i j ta) Γ D := fun ω σ H S E m => h ω σ H S _ fun vs as Γ1 ω1 H1 ⟨q, q', e, hk⟩ S1 a f1 => by
  subst e
  cases a with | cons x a =>
  cases a with | cons y a =>
  cases a
  exact ⟨_, _, rfl, m.nx _ ω1 _ H1 hk ((S1.setq x).setq y) f1 ((pin_set hi).trans (pin_set hj))⟩
theorem ws_seqP {P : Nat → Bool} {Γ : Ga} {D : Pe} {i j : Nat} {ta : TA} {u : TS} (h : WS P (tPar i j ta) Γ (D.to fun Γ' => WS P u Γ' D)) : WS P (tSeq (tPar i j ta) u) Γ D := ws_seq h
end G

/-! ### sorted(set(xs)), xs a list of ints -/
namespace GSL
open PySem PySem.Spec PyProof.Rows L2
section
variable {P : Program} {w : World} {A : Around} {E : Value → Shared → Prop} {s : Shared}
end
end GSL
namespace G
open PySem PySem.Spec PyProof.Rows L2
end G

/-! ### {k: v} of two ints -/
namespace G
open PySem L2
end G

/-! ### a list of anything held against [] -/
namespace G
open PySem PySem.Spec PyProof.Rows L2
end G

/-! ### {e for a in as for b in bs}, of ints -/
namespace GS2
open PySem PySem.Spec PyProof.Rows L2
abbrev two (el ta ia tb ib : Expr) (sc : Scope) (ps : Pos) : Expr := .SetComp el [⟨ta, ia, [], 0⟩, ⟨tb, ib, [], 0⟩] sc ps
section
variable {prog : Program} {w : World} {A : Around} {R : Result → Shared → Prop} {s : Shared} {el ta ia tb ib : Expr} {sc : Scope} {ps : Pos} {it acc : Value} {env : Env}
theorem turnA : compTurn (two el ta ia tb ib sc ps) 0 it acc env = (standAt ia.pos >>= fun _ => pyNext it >>= fun got => match got with
    | .none => pure (.done .next)
    | .some u => letOwnedTupleGo ta it u >>= fun _ => assign ta env u >>= fun _ => eval ib env >>= fun xs => standAt ib.pos >>= fun _ => foldedSetIterable ib env xs >>= fun xs =>
      holding [xs] (pyIter xs) >>= fun i1 => runOwn (.compStart (two el ta ia tb ib sc ps) 1 i1 acc env) env >>= fun _ => again (.compLoop (two el ta ia tb ib sc ps) 0 it acc env)) := by rfl
theorem turnB : compTurn (two el ta ia tb ib sc ps) 1 it acc env = (standAt ib.pos >>= fun _ => pyNext it >>= fun got => match got with
    | .none => pure (.done .next)
    | .some u => letOwnedTupleGo tb it u >>= fun _ => assign tb env u >>= fun _ => (eval el env >>= fun xs => standAt el.pos >>= fun _ => call (.builtin "set.add") [acc, xs] >>= fun _ => pure ()) >>= fun _ =>
      again (.compLoop (two el ta ia tb ib sc ps) 1 it acc env)) := by rfl
/-- what is raised -/
abbrev Er (prog : Program) (w : World) (A : Around) (env : Env) (R : Result → Shared → Prop) : Value → Shared → Prop := notedBy (model prog w) A env fun e z => R (.error e) z
theorem loopA (hs : ∀ x, foldedSetIterable ib env x = pure x) (J : Nat → Shared → Prop)
    (go : ∀ k t, J k t → wpAny (model prog w) A (pyNext it) (fun got t1 => match got with
      | .none => R (.ok .next) t1
      | .some u => wpAny (model prog w) A (letOwnedTupleGo ta it u) (fun _ t2 => wpAny (model prog w) A (assign ta env u) (fun _ t3 => wpAny (model prog w) A (eval ib env) (fun xs t4 => wpAny (model prog w) A (pyIter xs) (fun i1 t5 =>
          codeAny (model prog w) A (.compStart (two el ta ia tb ib sc ps) 1 i1 acc env) (fun r t6 => match r with | .ok _ => ∃ m, m < k ∧ J m t6 | .error _ => False) t5) (Er prog w A env R) t4) (Er prog w A env R) t3) (Er prog w A env R) t2) (Er prog w A env R) t1) (Er prog w A env R) t)
    (k0 : Nat) (h0 : J k0 s) : codeAny (model prog w) A (.compLoop (two el ta ia tb ib sc ps) 0 it acc env) R s := by
  refine codeAny_loop rfl J (fun k t hJ => ?_) k0 h0
  show wpAny _ A ((compTurn (two el ta ia tb ib sc ps) 0 it acc env).onRaise (fun x => do noteFrame x env; theTreesLotGoes x)) _ _ t
  refine wpAny_noted ?_
  rw [turnA]
  refine wpAny_bind (wpAny_standAt (wpAny_bind (wpAny_mono (go k t hJ) (fun got t1 h1 => ?_) fun _ _ z => z)))
  cases got with
  | none => exact wpAny_pure h1
  | some u =>
    refine wpAny_bind (wpAny_mono h1 (fun _ t2 h2 => wpAny_bind (wpAny_mono h2 (fun _ t3 h3 => ?_) fun _ _ z => z)) fun _ _ z => z)
    refine wpAny_bind (wpAny_mono h3 (fun xs t4 h4 => ?_) fun _ _ z => z)
    refine wpAny_bind (wpAny_standAt (wpAny_bind (wpAny_of_eq (hs xs) (wpAny_bind (wpAny_holding (wpAny_mono h4 (fun i1 t5 h5 => ?_) fun _ _ z => z))))))
    refine wpAny_bind (wpAny_runOwn ?_)
    rw [Around.mark_none]
    refine codeAny_mono h5 fun r t6 h6 => ?_
    cases r with
    | ok f => exact wpAny_pure ⟨rfl, h6⟩
    | error e => exact h6.elim
theorem loopB (J : Nat → Shared → Prop)
    (go : ∀ k t, J k t → wpAny (model prog w) A (pyNext it) (fun got t1 => match got with
      | .none => R (.ok .next) t1
      | .some u => wpAny (model prog w) A (letOwnedTupleGo tb it u) (fun _ t2 => wpAny (model prog w) A (assign tb env u) (fun _ t3 => wpAny (model prog w) A (eval el env) (fun xs t4 =>
          wpAny (model prog w) A (call (.builtin "set.add") [acc, xs]) (fun _ t5 => ∃ m, m < k ∧ J m t5) (Er prog w A env R) t4) (Er prog w A env R) t3) (Er prog w A env R) t2) (Er prog w A env R) t1) (Er prog w A env R) t)
    (k0 : Nat) (h0 : J k0 s) : codeAny (model prog w) A (.compLoop (two el ta ia tb ib sc ps) 1 it acc env) R s := by
  refine codeAny_loop rfl J (fun k t hJ => ?_) k0 h0
  show wpAny _ A ((compTurn (two el ta ia tb ib sc ps) 1 it acc env).onRaise (fun x => do noteFrame x env; theTreesLotGoes x)) _ _ t
  refine wpAny_noted ?_
  rw [turnB]
  refine wpAny_bind (wpAny_standAt (wpAny_bind (wpAny_mono (go k t hJ) (fun got t1 h1 => ?_) fun _ _ z => z)))
  cases got with
  | none => exact wpAny_pure h1
  | some u =>
    refine wpAny_bind (wpAny_mono h1 (fun _ t2 h2 => wpAny_bind (wpAny_mono h2 (fun _ t3 h3 => ?_) fun _ _ z => z)) fun _ _ z => z)
    refine wpAny_bind (wpAny_bind (wpAny_mono h3 (fun xs t4 h4 => ?_) fun _ _ z => z))
    exact wpAny_bind (wpAny_standAt (wpAny_bind (wpAny_mono h4 (fun _ t5 h5 => wpAny_pure (wpAny_pure ⟨rfl, h5⟩)) fun _ _ z => z)))
theorem startB (h0 : codeAny (model prog w) A (.compLoop (two el ta ia tb ib sc ps) 1 it acc env) R s)
    (h1 : wpAny (model prog w) A (pyIter it) (fun i1 t => codeAny (model prog w) A (.compLoop (two el ta ia tb ib sc ps) 1 i1 acc env) R t) (Er prog w A env R) s) :
    codeAny (model prog w) A (.compStart (two el ta ia tb ib sc ps) 1 it acc env) R s := by
  refine codeAny_of_tree ?_
  show wpAny _ _ ((compStart (two el ta ia tb ib sc ps) 1 it acc env).onRaise (fun x => do noteFrame x env; standAt theWindowsPlace)) _ _ s
  refine wpAny_notedAt ?_
  unfold compStart
  show wpAny _ _ (ask >>= _) _ _ s
  refine wpAny_bind (wpAny_askSetting (wpAny_ite ?_))
  split
  · first | exact wpAny_bind (wpAny_pure (wpAny_pure ⟨rfl, h0⟩)) | exact wpAny_pure ⟨rfl, h0⟩
  · refine wpAny_bind (wpAny_rule ?_)
    show wpAny _ _ (standAt ib.pos >>= _) _ _ s
    exact wpAny_bind (wpAny_standAt (wpAny_bind (wpAny_mono h1 (fun i1 t z => wpAny_pure ⟨rfl, z⟩) fun _ _ z => z)))
end
section
variable {X : Cx}
/-- the set of an element for each pair; S: what has been put in -/
def tSet2 (w : World) (wa : TI) (ga : TG) (wb : TI) (gb : TG) (te : TE) (vs ws : List Nat) : TE := fun σ H Q => wa σ H fun J H1 => ∀ D, H1 D = none → ∃ U : Nat → Nat → Hp → Prop, (∃ m, U 0 m (upd H1 D (SetO w D (fun _ => false) 0))) ∧
  ∀ i m h, U i m h → (J.stop i h ∧ Q (.ref D) h) ∨ (J.go i h ∧ ∃ Z : Hp → Prop, (∀ h', Z h' → ∃ m', m' < m ∧ U (i + 1) m' h') ∧
    ∀ x h', J.yld i h x h' → ga x (wipe σ vs) h' fun σ2 h2 => wipe σ2 vs = wipe σ vs ∧ wb σ2 h2 fun L h3 => ∃ V : Nat → Nat → Hp → Prop, (∃ k, V 0 k h3) ∧
      ∀ j k h, V j k h → (L.stop j h ∧ Z h) ∨ (L.go j h ∧ ∃ Y : Hp → Prop, (∀ h', Y h' → ∃ k', k' < k ∧ V (j + 1) k' h') ∧
        ∀ y h', L.yld j h y h' → gb y (wipe σ2 ws) h' fun σ3 h5 => wipe σ3 ws = wipe σ2 ws ∧ te σ3 h5 fun z h6 => rSAdd w (.ref D) [z] h6 fun _ => Y))
theorem set2_at {ea eb ec fa fb : Expr} {scope : Scope} {own : List (Str × Nat)} {ws : List Nat} {pos : Pos} {wa wb : TI} {ga gb : TG} {te : TE} (calm : X.calm = true) (nd : X.N.Nodup) (ok : BlkOk X.N X.env.scope scope own) (sub : ∀ i ∈ ws, i ∈ own.map (·.2)) (ha : PI X fa ea wa)
    (in_ : ∀ (s : Shared) (H : Hp) (C : Addr) (cl : List (Str × Addr)) (fp : List Addr), PG (X.blk s H scope (compEnvC scope cl C X.env) fp) fa ga ∧ PI (X.blk s H scope (compEnvC scope cl C X.env) fp) fb eb wb ∧
      PG (X.blk s H scope (compEnvC scope cl C X.env) fp) fb gb ∧ PE (X.blk s H scope (compEnvC scope cl C X.env) fp) ec te)
    (sa : ∀ x, foldedSetIterable ea X.env x = pure x := by intro _; rfl) (sb : ∀ env x, foldedSetIterable eb env x = pure x := by intro _ _; rfl) : PE X (two ec fa ea fb eb scope pos) (tSet2 X.w wa ga wb gb te (own.map (·.2)) ws) := by
  refine ⟨fun pins s σ H Q I h => ?_⟩
  rw [PpSet.eval_SetComp]
  have free : ∀ y ∈ scope.names, y.2 = .free → ∃ c, X.env.cells.lookup y.1 = some c := fun y hy e => (ok.free y hy e).elim (fun z => I.ok.has _ (.inl z)) fun z => I.ok.has _ (.inr z)
  refine wpAny_comprehension_free rfl sa (closure_ok free) ok.kind (fun y hy e => by rw [ok.uniq y hy, e]) (thn (ha.run pins s σ H _ I h) fun v0 s1 h1 => thn h1 fun v1 s2 h2 => ?_)
  obtain ⟨p, fp, tn, J, H2, rfl, I2, T, b2, f2, q⟩ := h2
  refine PpSet.newSet_ok (newEnv_comp ?_)
  have D0 : H2 s2.heap.objs.size = none := I2.hok.fresh (Nat.le_refl _)
  obtain ⟨U, ⟨m0, u0⟩, turn⟩ := q _ D0
  clear q
  generalize hD : s2.heap.objs.size = D at D0 u0 turn ⊢
  generalize hO : (⟨.type "set", none, .set #[] 0 (.fresh 0 0 (!X.w.params.followText "set-order")), #[]⟩ : Obj) = O
  have at3 : ∀ b o, s2.heap.get? b = some o → (s2.heap.push O).get? b = some o := fun _ _ e => Heap.get?_push_of_some _ e
  have I3 : Inv X pins σ (upd H2 D (SetO X.w D (fun _ => false) 0)) { s2 with heap := s2.heap.push O } := by
    refine I2.laid (t' := s2.toks) at3 (Nat.le_of_eq hD) (setO_new ?_)
    have := setR_new_at (w := X.w) (h := s2.heap.push O) (a := D) (ns := []) (by rw [← hO, ← hD]; exact Heap.get?_push_size _ rfl)
    simpa using this
  generalize hs3 : ({ s2 with heap := s2.heap.push O } : Shared) = s3 at I3
  have e3 : s3.heap = s2.heap.push O := by rw [← hs3]
  have f3 : ∀ b ∈ fp, FpOk X pins (upd H2 D (SetO X.w D (fun _ => false) 0)) b ∧ b < s3.heap.objs.size := fun b hb => by
    obtain ⟨o, e, _⟩ := T.obj _ _ b2 b hb
    have lt := Heap.lt_size e
    exact ⟨⟨by rw [upd_ne (by rw [← hD]; exact Nat.ne_of_lt lt)]; exact (f2 b hb).1, (f2 b hb).2⟩, by rw [e3, Heap.size_push]; exact Nat.lt_succ_of_lt lt⟩
  have b3 : tn 0 s3.heap := T.keep _ _ _ b2 fun b _ o e => by rw [e3]; exact at3 b o e
  have I4 := block_start I3 ok nd f3
  obtain ⟨Pa, Pi, Pb, Pe⟩ := in_ s3 (upd H2 D (SetO X.w D (fun _ => false) 0)) s3.heap.objs.size (cellsFrom (s3.heap.objs.size + 1) scope.names (cloFrom X.env.cells scope.names [])) fp
  show codeAny _ _ (.compStart (two ec fa ea fb eb scope pos) 0 (.ref p) (.ref D) (compEnvC scope (cellsFrom (s3.heap.objs.size + 1) scope.names (cloFrom X.env.cells scope.names [])) s3.heap.objs.size X.env)) (compPost (model X.prog X.w) X.A X.xe none (EP X pins σ Q) (.ref D) s3.heap.objs.size) { s3 with heap := pushCells (s3.heap.push { cls := .type "dict", data := .dict #[] }) scope.names }
  have n3 : ∀ b ∈ fp, (upd H2 D (SetO X.w D (fun _ => false) 0)) b = none := fun b hb => (f3 b hb).1.1
  generalize hce : compEnvC scope (cellsFrom (s3.heap.objs.size + 1) scope.names (cloFrom X.env.cells scope.names [])) s3.heap.objs.size X.env = ce at *
  have cl : ce.locals = s3.heap.objs.size := by rw [← hce]; rfl
  generalize upd H2 D (SetO X.w D (fun _ => false) 0) = H3 at *
  generalize hs4 : ({ s3 with heap := pushCells (s3.heap.push { cls := .type "dict", data := .dict #[] }) scope.names } : Shared) = s4 at I4 ⊢
  have b4 : tn 0 s4.heap := T.keep _ _ _ b3 fun b _ o e => by rw [← hs4]; exact pushCells_keeps _ _ _ _ (Heap.get?_push_of_some _ e)
  have foot : ∀ {τ : L2.St} {h : Hp} {t : Shared}, Inv (X.blk s3 H3 scope ce fp) [] τ h t → (∀ b ∈ fp, h b = none) → ∀ b ∈ fp, FpOk (X.blk s3 H3 scope ce fp) [] h b := fun {τ h t} K0 z b hb =>
    ⟨z b hb, (K0.ok.exf b hb).1, K0.ok.exfs b hb, .inl hb, fun x c e => (K0.ok.exf b hb).2 x c e, fun r hr => absurd (show r ∈ ([] : List (Addr × Obj)) ++ [] from hr) (by simp)⟩
  generalize hvs : own.map (·.2) = vs at *
  have main : codeAny (model X.prog X.w) X.A (.compLoop (two ec fa ea fb eb scope pos) 0 (.ref p) (.ref D) ce) (compPost (model X.prog X.w) X.A X.xe none (EP X pins σ Q) (.ref D) s3.heap.objs.size) s4 := by
    refine loopA (sb ce) (fun k t => ∃ i h, Inv (X.blk s3 H3 scope ce fp) [] (wipe σ vs) h t ∧ tn i t.heap ∧ (∀ b ∈ fp, h b = none) ∧ U i k h) ?_ m0 ⟨0, H3, I4, b4, n3, u0⟩
    rintro k t5 ⟨i, h5, I5, b5, n5, u5⟩
    rcases turn i k h5 u5 with ⟨over, fin⟩ | ⟨more, Z, hZ, step⟩
    · -- the end: back in the def
      refine thnF (T.done (X.blk s3 H3 scope ce fp) rfl rfl rfl calm i [] t5 _ h5 (fun _ _ => False) I5 (foot I5 n5) b5 over) fun got t6 ⟨e, I6⟩ => ?_
      subst e
      have I7 : Inv X pins σ h5 t6 := I3.call' (ch := fp) I6.os I6.base I6.hok I6.bare fun b hb => by
        obtain ⟨⟨_, a1, a2, a3, a4, a5⟩, _⟩ := f3 b hb
        exact ⟨a3, a1, a4, a5⟩
      have nC : h5 ce.locals = none := I6.free
      obtain ⟨g, hg, _⟩ := I6.loc
      have hg : t6.heap.Ns ce.locals g := hg
      rw [cl] at nC hg
      refine ⟨g, hg, fun t7 same => ?_⟩
      obtain ⟨_, c1, c2, c3, c4, c5⟩ := I3.fpOk (Nat.le_refl _) nC
      exact ⟨.ref D, h5, I7.turned (t' := t6.toks) (fun b o hb e => (same.2 b hb).trans e) nC c1 c3 c4 c5, rfl, fin⟩
    · refine thnF (T.item (X.blk s3 H3 scope ce fp) rfl rfl rfl calm i [] t5 _ h5 (fun _ _ => False) I5 (foot I5 n5) b5 more) fun got t6 ⟨u, e, h6⟩ => ?_
      subst e
      refine thnF h6 fun _ t7 ⟨x, h7, I7, r7, y7, b7, n7⟩ => ?_
      refine thnF (Pa.run _ t7 _ h7 x u _ (I7.pinned (foot I7 n7) (T.obj _ _ b7)) r7 (step x h7 y7)) fun _ t8 ⟨σ8, h8, I8, w8, q8⟩ => ?_
      have len8 : (wipe σ vs).length = σ8.length := by rw [← w8, wipe_length]
      have sub8 : ∀ (j : Nat) v, (wipe σ vs)[j]? = some (some v) → (wipe σ8 ws)[j]? = some (some v) := fun j v e => by
        rw [← w8] at e
        obtain ⟨a1, a2⟩ := wipe_some e
        rw [wipe_out fun z => a2 (sub j z)]
        exact a1
      refine thnF (Pi.run _ t8 σ8 h8 _ I8 q8) fun v8 t9 h9 => thnF h9 fun v9 t10 h10 => ?_
      obtain ⟨p1, fp1, tn1, L, h11, rfl, I11, T1, b11, f11, V, ⟨k0, v0⟩, turn1⟩ := h10
      have foot1 : ∀ {h : Hp}, (∀ b ∈ fp1, h b = none) → ∀ b ∈ fp1, FpOk (X.blk s3 H3 scope ce fp) ([] ++ pinsAt fp t7.heap) h b := fun z b hb => ⟨z b hb, (f11 b hb).2⟩
      have inner : codeAny (model X.prog X.w) X.A (.compLoop (two ec fa ea fb eb scope pos) 1 (.ref p1) (.ref D) ce) (fun r t => match r with
          | .ok _ => ∃ m, m < k ∧ ∃ i h, Inv (X.blk s3 H3 scope ce fp) [] (wipe σ vs) h t ∧ tn i t.heap ∧ (∀ b ∈ fp, h b = none) ∧ U i m h
          | .error _ => False) t10 := by
        refine loopB (fun l t => ∃ j h, Inv (X.blk s3 H3 scope ce fp) ([] ++ pinsAt fp t7.heap) (wipe σ8 ws) h t ∧ tn1 j t.heap ∧ (∀ b ∈ fp1, h b = none) ∧ V j l h) ?_ k0 ⟨0, h11, I11.weak (wipe_length _ _) (fun j v e => (wipe_some e).1), b11, fun b hb => (f11 b hb).1, v0⟩
        rintro l t12 ⟨j, h12, I12, b12, n12, v12⟩
        rcases turn1 j l h12 v12 with ⟨over1, z1⟩ | ⟨more1, Y, hY, step1⟩
        · refine thnF (T1.done (X.blk s3 H3 scope ce fp) rfl rfl rfl calm j _ t12 (wipe σ8 ws) h12 (fun _ _ => False) I12 (foot1 n12) b12 over1) fun got t13 ⟨e, I13⟩ => ?_
          subst e
          obtain ⟨m', hm, u'⟩ := hZ h12 z1
          have kept : ∀ b ∈ fp, ∀ o, t7.heap.get? b = some o → t13.heap.get? b = some o ∧ h12 b = none := fun b hb o e =>
            ⟨(I13.pin (b, o) (List.mem_append_right _ (List.mem_append_right _ (mem_pinsAt hb e)))).1, (I13.pin (b, o) (List.mem_append_right _ (List.mem_append_right _ (mem_pinsAt hb e)))).2.1⟩
          refine ⟨m', hm, i + 1, h12, (I13.unpinned (pins := [])).weak (len8.trans (wipe_length σ8 ws).symm) sub8, T.keep _ _ _ b7 fun b hb o e => (kept b hb o e).1, fun b hb => ?_, u'⟩
          obtain ⟨o, e, _⟩ := T.obj _ _ b7 b hb
          exact (kept b hb o e).2
        · refine thnF (T1.item (X.blk s3 H3 scope ce fp) rfl rfl rfl calm j _ t12 (wipe σ8 ws) h12 (fun _ _ => False) I12 (foot1 n12) b12 more1) fun got t13 ⟨u1, e, h13⟩ => ?_
          subst e
          refine thnF h13 fun _ t14 ⟨x1, h14, I14, r14, y14, b14, n14⟩ => ?_
          refine thnF (Pb.run _ t14 (wipe σ8 ws) h14 x1 u1 _ (I14.pinned (foot1 n14) (T1.obj _ _ b14)) r14 (step1 x1 h14 y14)) fun _ t15 ⟨σ15, h15, I15, w15, q15⟩ => ?_
          refine thnF (Pe.run _ t15 σ15 h15 _ I15 q15) fun z t16 ⟨zv, h16, I16, r16, q16⟩ => ?_
          refine thnF (mt_sadd _ t16 σ15 h16 (.ref D) [zv] (.ref D) [z] _ I16 rfl (.cons r16 .nil) q16) fun _ t17 ⟨_, h17, I17, _, y17⟩ => ?_
          obtain ⟨l', hl, v'⟩ := hY h17 y17
          have kept : ∀ b ∈ fp1, ∀ o, t14.heap.get? b = some o → t17.heap.get? b = some o ∧ h17 b = none := fun b hb o e =>
            ⟨(I17.pin (b, o) (List.mem_append_right _ (List.mem_append_right _ (mem_pinsAt hb e)))).1, (I17.pin (b, o) (List.mem_append_right _ (List.mem_append_right _ (mem_pinsAt hb e)))).2.1⟩
          refine ⟨l', hl, j + 1, h17, I17.unpinned.weak (by rw [← w15, wipe_length]) (fun j v e => by rw [← w15] at e; exact (wipe_some e).1), T1.keep _ _ _ b14 fun b hb o e => (kept b hb o e).1, fun b hb => ?_, v'⟩
          obtain ⟨o, e, _⟩ := T1.obj _ _ b14 b hb
          exact (kept b hb o e).2
      exact startB inner (T1.self X.A 0 _ _ _ b11 inner)
  exact PpSet.codeAny_compStart_set main (T.self X.A 0 _ _ _ b4 main)
end
end GS2

/-! ### sorted({h for l in ls for h in l}) of lists of ints -/
namespace GS2
open PySem PySem.Spec PyProof.Rows L2
/-- sorted(s), s a set of ints, however many -/
theorem sortSet {P : Program} {w : World} {A : Around} {E : Value → Shared → Prop} {s : Shared} {a : Addr} {S : Int → Bool} {n : Nat} {Q : Value → Shared → Prop} (R : SetR w s.heap a S n) (quiet : A.handled = none) (few : n < 4096)
    (k : ∀ t p (zs : Array Value) (c : Nat) (ms : List Int), (∀ b o, s.heap.get? b = some o → t.heap.get? b = some o) → t.gens = s.gens → t.os = s.os → s.heap.objs.size ≤ p → t.heap.get? p = some (seqObj "list" zs c) → IntsAre zs.toList ms →
      ms.Pairwise (· < ·) → (∀ j, j ∈ ms ↔ S j = true) → ms.length = n → Q (.ref p) t) : wpAny (model P w) A (call (.builtin "sorted") [.ref a]) Q E s := by
  obtain ⟨o, es, ep, t, got, exact_, dat, keys, nd, mem, b1, f1, len, r1, l1⟩ := R
  refine Calls.call_function_entry kind_sorted plain_sorted entry_sorted (args_sorted1 _) ?_
  unfold Builtin.«sorted»
  refine wpAny_bind (m := checkCount "sorted" 1 1 _) (wpAny_pure (wpAny_bind (collect_set (A := A.in1) quiet ⟨o, got, exact_.1, dat⟩ f1 b1 r1 l1 fun t1 vs kept big g1 o1 perm => ?_)))
  have lv : vs.length = n := by rw [perm.length_eq, List.length_map, Array.length_toList]; exact len
  have isI : IntsAre vs (vs.map Builtin.Re.reRawOf) := ints_of vs fun v hv => by
    obtain ⟨e, he, z⟩ := List.mem_map.mp (perm.mem_iff.mp hv)
    obtain ⟨j, tj, h1, _⟩ := keys e he
    exact ⟨j, tj, z ▸ h1⟩
  have pk : (vs.map Builtin.Re.reRawOf).Perm (es.toList.map keyOf) := by
    have := perm.map Builtin.Re.reRawOf
    rwa [List.map_map] at this
  have small : vs.length ≤ sizeLine := by rw [lv, sizeLine_eq]; omega
  refine wpAny_bind (wpAny_newList ?_ small)
  have at_ : (t1.heap.push (seqObj "list" vs.toArray 0)).get? t1.heap.objs.size = some (seqObj "list" vs.toArray 0) := Heap.get?_push_size _ rfl
  refine wpAny_bind (wpAny_holding (wpAny_call_entry slot_list_sort ⟨_, at_, rfl⟩ entry_list_sort (SrtO.list_sort_ord SrtO.swo_int at_ small (fun h2 => SrtO.ints_sortable isI h2) fun zs h1 h2 => ⟨_, rfl, ?_⟩) (args_list_sort _)))
  obtain ⟨k1, k2, k3⟩ := SrtO.ints_out isI h1 h2
  obtain ⟨c, hc⟩ := sortedHeap_at (vs := vs) (out := zs.toArray) at_
  have pn := k2.trans pk
  refine wpAny_pure ⟨_, rfl, k _ t1.heap.objs.size zs.toArray c (zs.map SrtO.iv) (fun b u e => ?_) g1 o1 big hc k1 (lt_of_le_nodup _ k3 (pn.nodup_iff.mpr nd)) (fun j => by rw [pn.mem_iff, ← mem j]) ?_⟩
  · have e1 := kept b u e
    have lt := Heap.lt_size e1
    show (sortedHeap (t1.heap.push (seqObj "list" vs.toArray 0)) t1.heap.objs.size vs zs.toArray).get? b = some u
    rw [sortedHeap_old (Nat.ne_of_lt lt) (by rw [Heap.size_push]; exact Nat.lt_succ_of_lt lt)]
    exact Heap.get?_push_of_some _ e1
  · rw [pn.length_eq, List.length_map, Array.length_toList]; exact len
end GS2
namespace G
open PySem PySem.Spec PyProof.Rows L2 GS2
def tSrt (w : World) (ts : TE) : TE := fun σ H Q => ts σ H fun x H1 => ∃ (D : Addr) (S : Int → Bool) (n : Nat), x = .ref D ∧ H1 D = some (SetO w D S n) ∧ n < 4000 ∧ ∀ (ms : List Int) (p : Addr), ms.Pairwise (· < ·) → (∀ k : Int, k ∈ ms ↔ S k = true) → H1 p = none → Q (.ref p) (upd H1 p (.lst (ms.map V.int)))
theorem pe_srt {X : Cx} {e : Expr} {ts : TE} {p pos : Pos} (calm : X.calm = true) (hg : Gl X "sorted") (hm : X.mg "sorted" = none) (he : PE X e ts) (na : starEach [e] X.env = (false, eval e X.env) :: starEach [] X.env := by rfl) :
    PE X (.Call (.Name "sorted" p) [e] [] pos) (tSrt X.w ts) := by
  refine ⟨fun pins s σ H Q I h => Call_ (ld_blt I hg hm bt_sorted (callWith_builtin1 (args_cons (thn (he.run pins s σ H _ I h) fun v s1 ⟨x, H1, I1, r1, D, S, n, e, hq, hn, q1⟩ => args_nil ?_) na) na))⟩
  subst e
  cases r1
  refine sortSet (setO_get I1 hq) (I1.ok.hd calm) (by omega) fun s' p out c ns' k g o hp hg hi hs hm hl => ?_
  have hlen : (ns'.map V.int).length ≤ sizeLine := by rw [List.length_map, hl, sizeLine_eq]; omega
  have hnone : H1 p = none := I1.hok.fresh hp
  have J : Inv X pins σ (upd H1 p (.lst (ns'.map V.int))) { s1 with heap := s'.heap, gens := s'.gens, drawn := s'.drawn, toks := s'.toks } :=
    I1.call (ch := []) (Un.laid k hp hnone) (I1.hok.laid k hp ⟨hlen, out.toList, c, vals_of_ints hi, hg⟩) (by rw [g]; exact I1.bare) (fun _ z => nomatch z)
  have e : s' = { s1 with heap := s'.heap, gens := s'.gens, drawn := s'.drawn, toks := s'.toks } := by
    cases s'
    cases s1
    cases o
    rfl
  rw [e]
  exact ⟨.ref p, _, J, rfl, q1 ns' p hs hm hnone⟩
theorem wipe_set_in {σ : L2.St} {vs : List Nat} {i : Nat} {v : Option V} (h : i ∈ vs) : wipe ((wipe σ vs).set i v) vs = wipe σ vs := by
  refine List.ext_getElem? fun t => ?_
  rw [wipe_get, wipe_get, List.length_set, wipe_length]
  by_cases ht : t ∈ vs
  · rw [if_pos ht, if_pos ht]
  · rw [if_neg ht, if_neg ht, List.getElem?_set_ne (fun (e : i = t) => ht (e ▸ h)), wipe_get, if_neg ht]
theorem we_hues0 {K : PySem.W.Frag} {w : World} {Γ : Ga} {k : Gp → Ga → Prop} {ta : TE} {i j : Nat} (h : WQ ta Γ fun q Γ1 => ∃ ls : List (List Int), q = dP (.list (ls.map rowI)) ∧ (i < Γ1.length ∧ j < Γ1.length ∧ i ≠ j) ∧ (ls.map List.length).sum < 4000 ∧
      ∀ hs : List Int, hs.Pairwise (· < ·) → (∀ x, x ∈ hs ↔ ∃ l ∈ ls, x ∈ l) → k (own (hs.map .int)) Γ1) :
    WE (tSrt w (tSet2 w (iList K ta) (gName i) (iList K (tVar i)) (gName j) (tVar j) [i, j] [j])) Γ k := fun ω σ H S Q f => h ω σ H S _ fun v q Γ1 ω1 H1 ⟨ls, e, ⟨hi, hj, hij⟩, htot, hk⟩ S1 p f1 => by
  subst e
  obtain ⟨a, xs, rfl, ha, hd⟩ := DR.lst_inv p
  have hlen : xs.length = ls.length := by rw [hd.length, List.length_map]
  have hσ : σ.length = Γ1.length := S1.1
  refine ⟨a, rfl, ⟨xs, SqL.of (vw_H ha)⟩, fun D hD => ?_⟩
  have ne : ∀ {b : Addr} {o : HO}, H1 b = some o → b ≠ D := fun hb e => by rw [e, hD] at hb; cases hb
  have mono : ∀ t, ((ls.take t).map List.length).sum ≤ (ls.map List.length).sum := fun t => by
    conv => rhs; rw [← List.take_append_drop t ls]
    rw [List.map_append, List.sum_append]
    omega
  refine ⟨fun t m h => m = xs.length - t ∧ t ≤ xs.length ∧ ∃ (S : Int → Bool) (n : Nat), h = upd H1 D (SetO w D S n) ∧ (∀ k, S k = true ↔ ∃ l ∈ ls.take t, k ∈ l) ∧ n ≤ ((ls.take t).map List.length).sum, ⟨xs.length, rfl, Nat.zero_le _, fun _ => false, 0, rfl, fun k => by simp, Nat.zero_le _⟩, ?_⟩
  rintro t m h ⟨rfl, ht, T, n, rfl, hT, hn⟩
  have hsq : ∀ {T n}, SqL K (upd H1 D (SetO w D T n)) a xs := SqL.of (by rw [upd_ne (ne (vw_H ha))]; exact vw_H ha)
  by_cases hlt : t < xs.length
  · refine .inr ⟨⟨xs, xs[t], hsq, by simp [hlt]⟩, fun h' => t + 1 ≤ xs.length ∧ ∃ (S : Int → Bool) (n : Nat), h' = upd H1 D (SetO w D S n) ∧ (∀ k, S k = true ↔ ∃ l ∈ ls.take (t + 1), k ∈ l) ∧ n ≤ ((ls.take (t + 1)).map List.length).sum, fun h' z => ⟨xs.length - (t + 1), by omega, rfl, z⟩, fun x h' y => ?_⟩
    obtain ⟨rfl, y⟩ := y
    have hx := y xs hsq
    obtain ⟨l, hl⟩ := getD_of (xs := ls) (i := t) (by omega)
    obtain ⟨d, hd1, hdr⟩ := hd.get hx
    rw [List.getElem?_map, hl] at hd1
    cases hd1
    obtain ⟨b, ys, rfl, hb, hy⟩ := DR.lst_inv hdr
    rw [hy.ints] at hb
    have hbH := vw_H hb
    have hsb : ∀ {T n}, SqL K (upd H1 D (SetO w D T n)) b (l.map V.int) := SqL.of (by rw [upd_ne (ne hbH)]; exact hbH)
    have et : ls.take (t + 1) = ls.take t ++ [l] := by rw [List.take_add_one, hl]; rfl
    have hm := mono t
    have hm1 := mono (t + 1)
    rw [et, List.map_append, List.sum_append] at hm1
    have hm1 : ((ls.take t).map List.length).sum + l.length ≤ (ls.map List.length).sum := by simpa using hm1
    refine ⟨wipe_set_in (by simp), .ref b, by rw [List.getElem?_set_self (by rw [wipe_length]; omega)], b, rfl, ⟨_, hsb⟩, ?_⟩
    refine ⟨fun u m h => m = l.length - u ∧ u ≤ l.length ∧ ∃ (S : Int → Bool) (n : Nat), h = upd H1 D (SetO w D S n) ∧ (∀ k, S k = true ↔ (∃ l ∈ ls.take t, k ∈ l) ∨ k ∈ l.take u) ∧ n ≤ ((ls.take t).map List.length).sum + u, ⟨l.length, rfl, Nat.zero_le _, T, n, rfl, fun k => by rw [hT k]; simp, hn⟩, ?_⟩
    rintro u m h ⟨rfl, hu, T2, n2, rfl, hT2, hn2⟩
    by_cases hlu : u < l.length
    · refine .inr ⟨⟨_, .int l[u], hsb, by simp [hlu]⟩, fun h' => u + 1 ≤ l.length ∧ ∃ (S : Int → Bool) (n : Nat), h' = upd H1 D (SetO w D S n) ∧ (∀ k, S k = true ↔ (∃ l ∈ ls.take t, k ∈ l) ∨ k ∈ l.take (u + 1)) ∧ n ≤ ((ls.take t).map List.length).sum + (u + 1), fun h' z => ⟨l.length - (u + 1), by omega, rfl, z⟩, fun y h' yl => ?_⟩
      obtain ⟨rfl, yl⟩ := yl
      have hy2 := yl _ hsb
      rw [List.getElem?_map, List.getElem?_eq_getElem hlu] at hy2
      cases hy2
      refine ⟨wipe_set_in (by simp), .int l[u], by rw [List.getElem?_set_self (by rw [wipe_length, List.length_set, wipe_length]; omega)], D, l[u], T2, n2, rfl, rfl, upd_same, by show _ < 4096; omega, hlu, _, _, upd_upd, fun k => ?_, ?_⟩
      · rw [List.take_add_one, List.getElem?_eq_getElem hlu, Bool.or_eq_true, hT2 k, decide_eq_true_eq, List.mem_append]
        simp only [Option.toList, List.mem_singleton]
        rw [or_assoc]
      · split <;> omega
    · have e : u = l.length := by omega
      subst e
      refine .inl ⟨⟨_, hsb, by rw [List.length_map]; exact Nat.le_refl _⟩, hlt, T2, n2, rfl, fun k => ?_, ?_⟩
      · rw [hT2 k, et, List.take_length]
        simp only [List.mem_append, List.mem_singleton]
        constructor
        · rintro (⟨z, h1, h2⟩ | h)
          · exact ⟨z, .inl h1, h2⟩
          · exact ⟨l, .inr rfl, h⟩
        · rintro ⟨z, h1 | h1, h2⟩
          · exact .inl ⟨z, h1, h2⟩
          · exact .inr (h1 ▸ h2)
      · rw [et, List.map_append, List.sum_append]
        simpa using hn2
  · have e : t = xs.length := by omega
    subst e
    rw [hlen, List.take_length] at hT hn
    refine .inl ⟨⟨xs, hsq, Nat.le_refl _⟩, D, T, n, rfl, upd_same, by omega, fun ms p hp hm hnone => ?_⟩
    exact f _ (own (ms.map .int)) Γ1 (paint (paint ω1 D 1) p 2) _ (hk ms hp fun x => by rw [hm, hT]) ((S1.new 1 hD).new 2 hnone) ⟨p, _, rfl, paint_at, DRs.of_ints⟩ ((f1.trans (paint_fr hD)).trans (paint_fr hnone))
def tHues (K : PySem.W.Frag) (i j : Nat) (ta : TE) : TE := fun σ H Q => ∀ w, tSrt w (tSet2 w (iList K ta) (gName i) (iList K (tVar i)) (gName j) (tVar j) [i, j] [j]) σ H Q
theorem pe_hues {X : Cx} {e : Expr} {ta : TE} {i j : Nat} (he : PE X e (tSrt X.w (tSet2 X.w (iList X.K ta) (gName i) (iList X.K (tVar i)) (gName j) (tVar j) [i, j] [j]))) :
    PE X e (tHues X.K i j ta) := ⟨fun pins s σ H Q I h => he.run pins s σ H Q I (h X.w)⟩
theorem we_hues {K : PySem.W.Frag} {Γ : Ga} {k : Gp → Ga → Prop} {ta : TE} {i j : Nat} (h : WQ ta Γ fun q Γ1 => ∃ ls : List (List Int), q = dP (.list (ls.map rowI)) ∧ (i < Γ1.length ∧ j < Γ1.length ∧ i ≠ j) ∧ (ls.map List.length).sum < 4000 ∧
      ∀ hs : List Int, hs.Pairwise (· < ·) → (∀ x, x ∈ hs ↔ ∃ l ∈ ls, x ∈ l) → k (own (hs.map .int)) Γ1) : WE (tHues K i j ta) Γ k := fun ω σ H S Q f w => we_hues0 h ω σ H S Q f
end G

/-! ### dict(zip(ks, vs)) of ints, and d[k] -/
namespace G
open PySem PySem.Spec PyProof.Rows L2
def tDictZip (K : PySem.W.Frag) (ta : TA) : TE := fun σ H Q => ta σ H fun vs H1 => ∃ (a b : Addr) (ps : List (Int × Int)), vs = [.ref a, .ref b] ∧ SqL K H1 a (ps.map fun p => V.int p.1) ∧ SqL K H1 b (ps.map fun p => V.int p.2) ∧ (ps.map Prod.fst).Nodup ∧ ps.length ≤ 1000 ∧
  ∀ p, H1 p = none → Q (.ref p) (upd H1 p (.dK (ps.map fun p => (Sum.inl p.1, V.int p.2))))
theorem merged_nd {kvs : List (Key × Value)} : ∀ {acc : List (Key × Value)}, ((acc ++ kvs).map (·.1)).Nodup → merged acc kvs = acc ++ kvs := by
  induction kvs with
  | nil => intro acc _; rw [List.append_nil]; rfl
  | cons x kvs ih =>
    intro acc h
    have h1 : stored acc x.1 x.2 = acc ++ [x] := by
      have hn : ∀ y ∈ acc, y.1 ≠ x.1 := fun y hy e => by
        rw [List.map_append, List.map_cons] at h
        exact (List.nodup_append.mp h).2.2 y.1 (List.mem_map.mpr ⟨y, hy, rfl⟩) x.1 (by simp) e
      unfold stored
      rw [if_neg]
      intro z
      obtain ⟨y, hy, e⟩ := List.any_eq_true.mp z
      exact hn y hy (of_decide_eq_true e)
    show merged (stored acc x.1 x.2) kvs = _
    rw [h1, ih (by rw [List.append_assoc]; exact h), List.append_assoc]
    rfl
theorem kv_of : ∀ {ps : List (Int × Int)} {us : List Value}, Vals (ps.map fun p => V.int p.2) us → ∃ kvs : List (Key × Value), KV (ps.map fun p => ((Sum.inl p.1 : Key), V.int p.2)) kvs ∧ kvs.map (·.1) = ps.map (fun p => (Sum.inl p.1 : Key)) ∧ kvs.map (·.2) = us
  | [], us, h => by cases h; exact ⟨[], .nil, rfl, rfl⟩
  | p :: ps, us, h => by
    rw [List.map_cons] at h
    cases h with
    | cons r t =>
      obtain ⟨kvs, h1, h2, h3⟩ := kv_of t
      exact ⟨(Sum.inl p.1, _) :: kvs, .cons ⟨rfl, r⟩ h1, by rw [List.map_cons, List.map_cons, h2], by rw [List.map_cons, h3]⟩
theorem vals_at : ∀ {xs : List V} {us : List Value} {i : Nat} {x : V}, Vals xs us → xs[i]? = some x → ∃ u, us[i]? = some u ∧ RelV x u
  | _, _, i, x, .nil, h => by simp at h
  | _, _, 0, x, .cons r t, h => by cases h; exact ⟨_, rfl, r⟩
  | _, _, i + 1, x, .cons r t, h => vals_at (i := i) t (by simpa using h)
theorem pe_dictZip {X : Cx} {e e2 : Expr} {ta : TA} {p p2 q pos : Pos} (calm : X.calm = true) (hg : Gl X "dict") (hm : X.mg "dict" = none) (hg2 : Gl X "zip") (hm2 : X.mg "zip" = none) (ha : PA X [e, e2] ta)
    (na : starEach [.Call (.Name "zip" p2) [e, e2] [] q] X.env = (false, eval (.Call (.Name "zip" p2) [e, e2] [] q) X.env) :: starEach [] X.env := by rfl)
    (hs : starEach [e, e2] X.env = (false, eval e X.env) :: starEach [e2] X.env := by rfl) (hpl : (backTo q (starEach [e2] X.env)).any (·.1) = false := by rfl) : PE X (.Call (.Name "dict" p) [.Call (.Name "zip" p2) [e, e2] [] q] [] pos) (tDictZip X.K ta) := by
  refine ⟨fun pins s σ H Q I h => Call_ (ld_blt I hg hm boot_dict (callWith_type1 (args_cons (Call_ (ld_blt I hg2 hm2 boot_zip (callWith_type1 (thn (ha.run q pins s σ H _ I h) fun us s1 ⟨vs, H1, I1, r1, a, b, ps, ex, hqx, hqy, hnd, hlen, qq⟩ => ?_) hs hpl))) na) na rfl))⟩
  subst ex
  cases r1 with
  | cons r rr =>
  cases rr with
  | cons r' rr =>
  cases rr
  cases r
  cases r'
  obtain ⟨its, rv, p1, _⟩ := I1.list hqx
  obtain ⟨its2, rv2, p2, _⟩ := I1.list hqy
  obtain ⟨kvs, k1, k2, k3⟩ := kv_of rv2
  have l1 : its.length = ps.length := by rw [← rv.length, List.length_map]
  have l2 : its2.length = ps.length := by rw [← rv2.length, List.length_map]
  have l3 : kvs.length = ps.length := by rw [← l2, ← k3, List.length_map]
  refine call_zip_2 p1.isList p2.isList fun h' hz hTI hTO h1 h2 hsz hk => args_nil ?_
  have P := PairArg.zip (prog := X.prog) (w := X.w) _ _ _ _ _ a b (PySem.W.ktu_apart s1.heap.objs.size a b p1.lt p2.lt) its.toArray its2.toArray
  refine call_dict_pairs (knd := mixKind X.prog X.w) (kvs := kvs) P (I1.ok.hd calm) ⟨hz, hTI, ⟨_, _, hTO⟩, h1, h2, p1.isList.at fun o e => hk _ o e, p2.isList.at fun o e => hk _ o e⟩ ⟨by simp [l1, l2, l3], fun i key v ⟨e1, e2⟩ => ?_⟩ (by simp [l1, l2]; rw [sizeLine_eq]; omega) fun h2 tk hd keep => ?_
  · have e1 : its[i]? = some key := by simpa using e1
    have e2 : its2[i]? = some v := by simpa using e2
    have hi : i < ps.length := by rw [← l1]; exact (List.getElem?_eq_some_iff.mp e1).1
    obtain ⟨u, hu, ru⟩ := vals_at rv (i := i) (x := V.int ps[i].1) (by simp [hi])
    rw [e1] at hu
    cases hu
    have q1 : (kvs.map (·.1))[i]? = some (Sum.inl ps[i].1) := by rw [k2]; simp [hi]
    have q2 : (kvs.map (·.2))[i]? = some v := by rw [k3]; exact e2
    rw [List.getElem?_map] at q1 q2
    cases hkv : kvs[i]? with
    | none => rw [hkv] at q1; cases q1
    | some x =>
      rw [hkv] at q1 q2
      obtain ⟨x1, x2⟩ := x
      cases q1
      cases q2
      exact ⟨_, rfl, kV_is (k := Sum.inl ps[i].1) ru⟩
  · rw [merged_nd (by rw [List.nil_append, k2]; exact List.pairwise_map.mpr ((List.pairwise_map.mp hnd).imp fun h e => h (Sum.inl.inj e))), List.nil_append] at hd
    have big : s1.heap.objs.size ≤ h'.objs.size := by rw [hsz]; exact Nat.le_add_right _ _
    have hm : (h'.objs.size == sysModules) = false := beq_eq_false_iff_ne.mpr (Nat.ne_of_gt (Nat.lt_of_lt_of_le I1.big big))
    have kept : ∀ c o, s1.heap.get? c = some o → h2.get? c = some o := fun c o e => by
      have lt := Heap.lt_size e
      refine keep c o (fun hc => ?_) (hk c o e)
      have hc : c = s1.heap.objs.size + 4 ∨ c = s1.heap.objs.size + 3 ∨ c = s1.heap.objs.size ∨ c = s1.heap.objs.size + 1 := by simpa using hc
      have no : ∀ j, c = s1.heap.objs.size + j → False := fun j e => Nat.not_lt.mpr (Nat.le_add_right s1.heap.objs.size j) (e ▸ lt)
      rcases hc with e | e | e | e
      · exact no 4 e
      · exact no 3 e
      · exact no 0 e
      · exact no 1 e
    have hn := I1.hok.fresh big
    exact ⟨.ref h'.objs.size, _, I1.laid (t' := tk) kept big (o := .dK (ps.map fun p => (Sum.inl p.1, V.int p.2))) (show ObjOk X.prog X.w _ _ _ (.dK _) from ⟨by rw [List.length_map, sizeLine_eq]; omega, hm, kvs, k1, hd⟩), rfl, qq _ hn⟩
/-- what a dict says of a key -/
def valZ (ps : List (Int × Int)) (i : Int) : Option Int := (ps.find? fun p => decide (p.1 = i)).map (·.2)
theorem valV_ints {ps : List (Int × Int)} {i : Int} : valV (ps.map fun p => ((Sum.inl p.1 : Key), V.int p.2)) (Sum.inl i) = (valZ ps i).map V.int := by
  unfold valV valZ
  induction ps with
  | nil => rfl
  | cons p ps ih =>
    rw [List.map_cons, List.find?_cons, List.find?_cons]
    by_cases h : p.1 = i
    · subst h
      simp
    · have h1 : ¬ ((Sum.inl p.1 : Key) = Sum.inl i) := fun e => h (Sum.inl.inj e)
      simp only [h1, h, decide_false]
      exact ih
theorem dic_inj : ∀ {ps us : List (Int × Int)}, ps.map (fun p => (PyData.int p.1, PyData.int p.2)) = us.map (fun p => (PyData.int p.1, PyData.int p.2)) → ps = us
  | [], [], _ => rfl
  | p :: ps, u :: us, h => by
    rw [List.map_cons, List.map_cons] at h
    injection h with h1 h2
    injection h1 with a b
    injection a with a
    injection b with b
    rw [dic_inj h2, show p = u from Prod.ext a b]
theorem DR.dic_inv {A : Hp} {v : V} {ps : List (Int × Int)} (h : DR A v (.dict (ps.map fun p => (.int p.1, .int p.2)))) : ∃ a, v = .ref a ∧ A a = some (.dK (ps.map fun p => (Sum.inl p.1, V.int p.2))) := by
  generalize e : PyData.dict (ps.map fun p => (.int p.1, .int p.2)) = d at h
  cases h with
  | dic z =>
    injection e with e
    rw [dic_inj e]
    exact ⟨_, rfl, z⟩
  | _ => cases e
def dictD (ps : List (Int × Int)) : PyData := .dict (ps.map fun p => (.int p.1, .int p.2))
theorem we_dget {Γ : Ga} {k : Gp → Ga → Prop} {ta tb : TE} (h : WQ ta Γ fun q Γ1 => ∃ ps, q = dP (dictD ps) ∧ WQ tb Γ1 fun q' Γ2 => ∃ i v, q' = dP (.int i) ∧ valZ ps i = some v ∧ k (dat (.int v)) Γ2) : WE (tDGet ta tb) Γ k := fun ω σ H S Q f => h ω σ H S _ fun x q Γ1 ω1 H1 ⟨ps, e1, h1⟩ S1 p1 f1 => h1 ω1 σ H1 S1 _ fun y q' Γ2 ω2 H2 ⟨i, v, e2, hv, hk⟩ S2 p2 f2 => by
  subst e1 e2
  cases p2.int_inv
  obtain ⟨a, rfl, ha⟩ := DR.dic_inv (DR.mono f2.1 _ p1)
  refine ⟨a, .int v, rfl, .inl ⟨_, Sum.inl i, .inl (vw_H ha), rfl, ?_⟩, f _ (dat (.int v)) Γ2 ω2 H2 hk S2 (DR.int _) (f1.trans f2)⟩
  rw [valV_ints, hv]
  rfl
theorem we_dictZip {K : PySem.W.Frag} {Γ : Ga} {k : Gp → Ga → Prop} {ta : TA} (h : WA ta Γ fun as Γ1 => ∃ ps : List (Int × Int), ArgD as [.list (ps.map fun p => .int p.1), .list (ps.map fun p => .int p.2)] ∧ (ps.map Prod.fst).Nodup ∧ ps.length ≤ 1000 ∧ k (dat (dictD ps)) Γ1) : WE (tDictZip K ta) Γ k := fun ω σ H S Q f => by
  refine h ω σ H S _ fun vs as Γ1 ω1 H1 ⟨ps, e, hnd, hl, hk⟩ S1 p f1 => ?_
  have hd := e.drs p
  cases hd with | cons px hd =>
  cases hd with | cons py hd =>
  cases hd
  obtain ⟨a, xs, rfl, ha, hx⟩ := DR.lst_inv px
  obtain ⟨b, ys, rfl, hb, hy⟩ := DR.lst_inv py
  have ex : xs = ps.map fun p => V.int p.1 := by
    have := DRs.ints (ns := ps.map Prod.fst) (by rw [List.map_map]; exact hx)
    rw [this, List.map_map]
    rfl
  have ey : ys = ps.map fun p => V.int p.2 := by
    have := DRs.ints (ns := ps.map Prod.snd) (by rw [List.map_map]; exact hy)
    rw [this, List.map_map]
    rfl
  subst ex ey
  refine ⟨a, b, ps, rfl, SqL.of (vw_H ha), SqL.of (vw_H hb), hnd, hl, fun q hq => ?_⟩
  exact f _ (dat (dictD ps)) Γ1 (paint ω1 q 0) _ hk (S1.new 0 hq) (DR.dic paint_at) (f1.trans (paint_fr hq))
end G
theorem L2.un1 {n : Nat} (h : n + 64 < PySem.cLine) : n + 1 < PySem.cLine := by omega

namespace G
open PySem L2
local macro_rules | `(tactic| walk_at "g1") => `(tactic| first
  | (with_reducible show WE _ _ _; with_reducible first | refine we_var (by with_unfolding_all exact rfl) ?_ | (show WE (tOp _ _ _) _ _; first | refine we_ixS (by with_unfolding_all exact rfl) ?_ | refine we_ixScr (by with_unfolding_all exact rfl) ?_ | refine we_inS (by with_unfolding_all exact rfl) ?_ | refine we_notInS (by with_unfolding_all exact rfl) ?_ | refine we_eqS (by with_unfolding_all exact rfl) ?_ | refine we_neS (by with_unfolding_all exact rfl) ?_ | refine we_opK ?_) | (show WE (tCB _ _) _ _; first | refine we_lenS' (by with_unfolding_all exact rfl) ?_ | refine we_lenScr (by with_unfolding_all exact rfl) ?_ | refine we_cbK ?_) | refine we_int ?_ | refine we_bl ?_ | refine we_non ?_ | refine we_str ?_ | refine we_neg ?_ | refine we_not ?_ | refine we_and ?_ | refine we_or ?_ | refine we_if ?_ | refine we_tup ?_ | refine we_lst ?_ | refine we_call ?_ | refine we_mt (by with_unfolding_all exact rfl) ?_)
  | (with_reducible show WS _ _ _ _; with_reducible first | refine ws_seqA ?_ | refine ws_seqD ?_ | refine ws_asg (by with_unfolding_all exact rfl) ?_ | refine ws_asgG ?_ | refine ws_if ?_ | refine ws_ret ?_ | refine ws_drop ?_ | refine ws_next ?_ | refine ws_retN ?_)
  | (with_reducible show WT _ _ _; with_reducible first | refine wt_test ?_ | refine wt_B ?_ | refine wt_not ?_ | refine wt_and ?_ | refine wt_or ?_ | refine wt_yes ?_)
  | (with_reducible show WA _ _ _; with_reducible first | refine wa_nil ?_ | refine wa_cons (wq_of (we_var (by with_unfolding_all exact rfl) ?_)) | refine wa_slotU (by with_unfolding_all exact rfl) ?_ | refine wa_cons ?_)
  | (with_reducible show OpK _ _ _ _ _; with_reducible first | refine ok_plusI ?_ | refine ok_sub ?_ | refine ok_lt ?_ | refine ok_le ?_ | refine ok_gt ?_ | refine ok_ge ?_ | refine ok_eqI ?_ | refine ok_neI ?_ | refine ok_mod (by first | assumption | decide | omega) ?_ | refine ok_ixL (by with_unfolding_all exact rfl) ?_)
  | (with_reducible show CbK _ _ _ _; with_reducible first | refine ck_lenL ?_ | refine ck_lenT ?_ | refine ck_int ?_ | refine ck_intB ?_ | refine ck_max ?_ | refine ck_min ?_ | refine ck_list ?_)
  | with_reducible refine wq_of ?_
  | (with_reducible show WG _ _ _ _ _; with_reducible first | refine wg_name (by with_unfolding_all exact rfl) ?_ | refine wg_tup (by with_unfolding_all exact rfl) ?_ | refine wg_set (by with_unfolding_all exact rfl) ?_)
  | (with_reducible show WGs _ _ _ _ _; with_reducible first | refine wgs_cons ?_ | refine wgs_nil ?_)
  | with_reducible refine iteT ?_
  | with_reducible refine iteF ?_
  | with_reducible refine ⟨_, frz_per, ?_⟩
  | with_reducible refine ⟨_, frz_own, ?_⟩
  | refine ⟨_, rfl, ?_⟩
  | refine ⟨_, argD1, ?_⟩
  | refine ⟨_, argD2, ?_⟩
  | refine ⟨_, argD0, ?_⟩
  | refine ⟨_, argD3, ?_⟩
  | refine ⟨_, argD4, ?_⟩
  | refine ⟨_, _, rfl, rfl, rfl, ?_⟩
  | refine ⟨_, _, _, rfl, rfl, rfl, ?_⟩
  | refine ⟨(by simp only [List.length_cons, List.length_nil]; decide), ?_⟩
  | refine ⟨rfl, nd1, ?_⟩
  | refine ⟨rfl, nd0, ?_⟩)
local macro_rules | `(tactic| walk_at "go") => `(tactic| repeat walk_at "g1")
local macro_rules | `(tactic| walk_at "g2") => `(tactic| first
  | (with_reducible show WE _ _ _; with_reducible first | refine we_var (by with_unfolding_all exact rfl) ?_ | (show WE (tOp _ _ _) _ _; first | refine we_notN ?_ | refine we_ixS (by with_unfolding_all exact rfl) ?_ | refine we_ixScr (by with_unfolding_all exact rfl) ?_ | refine we_inS (by with_unfolding_all exact rfl) ?_ | refine we_notInS (by with_unfolding_all exact rfl) ?_ | refine we_eqS (by with_unfolding_all exact rfl) ?_ | refine we_neS (by with_unfolding_all exact rfl) ?_ | refine we_opK ?_) | (show WE (tCB _ _) _ _; first | refine we_isInt ?_ | refine we_isBl ?_ | refine we_isLst ?_ | refine we_isTup ?_ | refine we_lenO (by with_unfolding_all exact rfl) ?_ | refine we_lenS' (by with_unfolding_all exact rfl) ?_ | refine we_lenScr (by with_unfolding_all exact rfl) ?_ | refine we_cbK ?_) | refine we_chain ?_ | refine we_slice ?_ | refine we_int ?_ | refine we_bl ?_ | refine we_non ?_ | refine we_str ?_ | refine we_neg ?_ | refine we_not ?_ | refine we_and ?_ | refine we_or ?_ | refine we_if ?_ | refine we_tup ?_ | refine we_lst ?_ | refine we_call ?_ | refine we_mt (by with_unfolding_all exact rfl) ?_)
  | (with_reducible show WS _ _ _ _; with_reducible first | refine ws_seqA ?_ | refine ws_seqD ?_ | refine ws_asg (by with_unfolding_all exact rfl) ?_ | refine ws_asgG ?_ | refine ws_if ?_ | refine ws_ret ?_ | refine ws_drop ?_ | refine ws_next ?_ | refine ws_retN ?_)
  | (with_reducible show WT _ _ _; with_reducible first | refine wt_test ?_ | refine wt_B ?_ | refine wt_not ?_ | refine wt_and ?_ | refine wt_or ?_ | refine wt_yes ?_)
  | (with_reducible show WA _ _ _; with_reducible first | refine wa_nil ?_ | refine wa_cons (wq_of (we_var (by with_unfolding_all exact rfl) ?_)) | refine wa_slotU (by with_unfolding_all exact rfl) ?_ | refine wa_cons ?_)
  | (with_reducible show OpK _ _ _ _ _; with_reducible first | refine ok_isB ?_ | refine ok_notB ?_ | refine ok_plusI ?_ | refine ok_sub ?_ | refine ok_lt ?_ | refine ok_le ?_ | refine ok_gt ?_ | refine ok_ge ?_ | refine ok_eqI ?_ | refine ok_neI ?_ | refine ok_mod (by first | assumption | decide | omega) ?_ | refine ok_ixL (by with_unfolding_all exact rfl) ?_)
  | (with_reducible show CbK _ _ _ _; with_reducible first | refine ck_lenL ?_ | refine ck_lenT ?_ | refine ck_int ?_ | refine ck_intB ?_ | refine ck_max ?_ | refine ck_min ?_ | refine ck_list ?_)
  | with_reducible refine wq_of ?_
  | (with_reducible show WG _ _ _ _ _; with_reducible first | refine wg_name (by with_unfolding_all exact rfl) ?_ | refine wg_tup (by with_unfolding_all exact rfl) ?_ | refine wg_set (by with_unfolding_all exact rfl) ?_)
  | (with_reducible show WGs _ _ _ _ _; with_reducible first | refine wgs_cons ?_ | refine wgs_nil ?_)
  | (with_reducible show WO _ _ _; with_reducible first | refine wo_some ?_ | refine wo_none ?_)
  | refine ⟨_, argD5, ?_⟩
  | refine ⟨_, argD6, ?_⟩
  | refine ⟨_, argD7, ?_⟩
  | refine ⟨_, argD9, ?_⟩
  | with_reducible refine iteT ?_
  | with_reducible refine iteF ?_
  | with_reducible refine ⟨_, frz_per, ?_⟩
  | with_reducible refine ⟨_, frz_own, ?_⟩
  | refine ⟨_, rfl, ?_⟩
  | refine ⟨_, argD1, ?_⟩
  | refine ⟨_, argD2, ?_⟩
  | refine ⟨_, argD0, ?_⟩
  | refine ⟨_, argD3, ?_⟩
  | refine ⟨_, argD4, ?_⟩
  | refine ⟨_, _, rfl, rfl, rfl, ?_⟩
  | refine ⟨_, _, _, rfl, rfl, rfl, ?_⟩
  | refine ⟨(by simp only [List.length_cons, List.length_nil]; decide), ?_⟩
  | refine ⟨rfl, nd1, ?_⟩
  | refine ⟨rfl, nd0, ?_⟩)
local macro_rules | `(tactic| walk_at "w") => `(tactic| first
  | (with_reducible show WE _ _ _; with_reducible first | refine we_var (by with_unfolding_all exact rfl) ?_ | refine we_varF (by with_unfolding_all exact rfl) frz_own ?_ | (show WE (tOp _ _ _) _ _; first | refine we_isNd ?_ | refine we_notNd ?_ | refine we_notN ?_ | refine we_ixS (by with_unfolding_all exact rfl) ?_ | refine we_ixScr (by with_unfolding_all exact rfl) ?_ | refine we_inS (by with_unfolding_all exact rfl) ?_ | refine we_notInS (by with_unfolding_all exact rfl) ?_ | refine we_eqS (by with_unfolding_all exact rfl) ?_ | refine we_neS (by with_unfolding_all exact rfl) ?_ | refine we_opK ?_) | (show WE (tCB _ _) _ _; first | refine we_repr ?_ | refine we_isInt ?_ | refine we_isBl ?_ | refine we_isLst ?_ | refine we_isTup ?_ | refine we_lenO (by with_unfolding_all exact rfl) ?_ | refine we_lenS' (by with_unfolding_all exact rfl) ?_ | refine we_lenScr (by with_unfolding_all exact rfl) ?_ | refine we_cbK ?_) | refine we_dnew ?_ | refine we_lenSetI ?_ | refine we_revL ?_ | refine we_chain ?_ | refine we_slice ?_ | refine we_int ?_ | refine we_bl ?_ | refine we_non ?_ | refine we_str ?_ | refine we_neg ?_ | refine we_not ?_ | refine we_and ?_ | refine we_or ?_ | refine we_if ?_ | refine we_tup ?_ | refine we_lst ?_ | refine we_call ?_ | refine we_mt (by with_unfolding_all exact rfl) ?_)
  | (with_reducible show WS _ _ _ _; with_reducible first | refine ws_seqI ?_ | refine ws_seqA ?_ | refine ws_seqD ?_ | refine ws_asg (by with_unfolding_all exact rfl) ?_ | refine ws_asgG ?_ | refine ws_if ?_ | refine ws_ret ?_ | refine ws_drop ?_ | refine ws_next ?_ | refine ws_retN ?_)
  | (with_reducible show WT _ _ _; with_reducible first | refine wt_truL ?_ | refine wt_test ?_ | refine wt_B ?_ | refine wt_not ?_ | refine wt_and ?_ | refine wt_or ?_ | refine wt_yes ?_)
  | (with_reducible show WA _ _ _; with_reducible first | refine wa_nil ?_ | refine wa_cons (wq_of (we_var (by with_unfolding_all exact rfl) ?_)) | refine wa_slotU (by with_unfolding_all exact rfl) ?_ | refine wa_cons ?_)
  | (with_reducible show OpK _ _ _ _ _; with_reducible first | refine ok_neR ?_ | refine ok_eqR ?_ | refine ok_isB ?_ | refine ok_notB ?_ | refine ok_plusI ?_ | refine ok_sub ?_ | refine ok_lt ?_ | refine ok_le ?_ | refine ok_gt ?_ | refine ok_ge ?_ | refine ok_eqI ?_ | refine ok_neI ?_ | refine ok_mod (by first | assumption | decide | omega) ?_ | refine ok_ixL (by with_unfolding_all exact rfl) ?_)
  | (with_reducible show CbK _ _ _ _; with_reducible first | refine ck_tuple ?_ | refine ck_allF ?_ | refine ck_anyF ?_ | refine ck_abs ?_ | refine ck_sumI ?_ | refine ck_lenL ?_ | refine ck_lenT ?_ | refine ck_int ?_ | refine ck_intB ?_ | refine ck_max ?_ | refine ck_min ?_ | refine ck_list ?_)
  | with_reducible refine wq_of ?_
  | (with_reducible show WG _ _ _ _ _; with_reducible first | refine wg_name (by with_unfolding_all exact rfl) ?_ | refine wg_tup (by with_unfolding_all exact rfl) ?_ | refine wg_set (by with_unfolding_all exact rfl) ?_)
  | (with_reducible show WGs _ _ _ _ _; with_reducible first | refine wgs_cons ?_ | refine wgs_nil ?_)
  | (with_reducible show WO _ _ _; with_reducible first | refine wo_some ?_ | refine wo_none ?_)
  | refine ⟨_, argD5, ?_⟩
  | refine ⟨_, argD6, ?_⟩
  | refine ⟨_, argD7, ?_⟩
  | refine ⟨_, argD9, ?_⟩
  | with_reducible refine iteT ?_
  | with_reducible refine iteF ?_
  | with_reducible refine ⟨_, frz_per, ?_⟩
  | with_reducible refine ⟨_, frz_own, ?_⟩
  | refine ⟨_, rfl, ?_⟩
  | refine ⟨_, argD1, ?_⟩
  | refine ⟨_, argD2, ?_⟩
  | refine ⟨_, argD0, ?_⟩
  | refine ⟨_, argD3, ?_⟩
  | refine ⟨_, argD4, ?_⟩
  | refine ⟨_, _, rfl, rfl, rfl, ?_⟩
  | refine ⟨_, _, _, rfl, rfl, rfl, ?_⟩
  | refine ⟨(by simp only [List.length_cons, List.length_nil]; decide), ?_⟩
  | refine ⟨rfl, nd1, ?_⟩
  | refine ⟨rfl, nd0, ?_⟩
  | refine ⟨_, argD8, ?_⟩
  | refine ⟨_, argD10, ?_⟩)
/-! ### the hues of lists, and lists renamed -/
structure IsHues (ls : List (List Int)) (hs : List Int) : Prop where
  asc : hs.Pairwise (· < ·)
  mem : ∀ x, x ∈ hs ↔ ∃ l ∈ ls, x ∈ l
theorem IsHues.nd {ls : List (List Int)} {hs : List Int} (h : IsHues ls hs) : hs.Nodup := h.asc.imp fun h => by omega
theorem asc_uniq {xs ys : List Int} (h1 : xs.Pairwise (· < ·)) (h2 : ys.Pairwise (· < ·)) (h : ∀ x, x ∈ xs ↔ x ∈ ys) : xs = ys := by
  have n1 : xs.Nodup := h1.imp fun h => by omega
  have n2 : ys.Nodup := h2.imp fun h => by omega
  exact ((List.perm_ext_iff_of_nodup n1 n2).mpr h).eq_of_pairwise (le := (· ≤ ·)) (fun a b _ _ h1 h2 => Int.le_antisymm h1 h2) (h1.imp fun h => by omega) (h2.imp fun h => by omega)
theorem IsHues.uniq {ls : List (List Int)} {hs gs : List Int} (h : IsHues ls hs) (g : IsHues ls gs) : hs = gs := asc_uniq h.asc g.asc fun x => by rw [h.mem, g.mem]
theorem sum_map_len {ls : List (List Int)} {n m : Nat} (h1 : ls.length ≤ n) (h2 : ∀ l ∈ ls, l.length ≤ m) : (ls.map List.length).sum ≤ n * m := by
  have : (ls.map List.length).sum ≤ ls.length * m := by
    clear h1
    induction ls with
    | nil => simp
    | cons l ls ih =>
      have a := h2 l (by simp)
      have b := ih fun l hl => h2 l (by simp [hl])
      rw [List.map_cons, List.sum_cons, List.length_cons, Nat.succ_mul]
      omega
  exact Nat.le_trans this (Nat.mul_le_mul_right m h1)
theorem hues_len {ls : List (List Int)} {hs : List Int} (h : IsHues ls hs) : hs.length ≤ (ls.map List.length).sum := by
  have : hs.length ≤ (ls.flatten).length := int_nd_len hs ls.flatten h.nd fun x hx => by
    obtain ⟨l, h1, h2⟩ := (h.mem x).mp hx
    exact List.mem_flatten.mpr ⟨l, h1, h2⟩
  rwa [List.length_flatten] at this
theorem len_le_sum {l : List Int} : ∀ {ls : List (List Int)}, l ∈ ls → l.length ≤ (ls.map List.length).sum
  | m :: ls, h => by
    rw [List.map_cons, List.sum_cons]
    rcases List.mem_cons.mp h with e | h
    · rw [e]; omega
    · have := len_le_sum h
      omega
def t_hues_of (K : PySem.W.Frag) : TS :=
  (tRet (tHues K 1 2 (tVar 0)))
abbrev N_hues_of : List Str := ["lists", "hues", "hue"]
abbrev F_hues_of : Fw := fun gs kk xx => ∃ (ls : List (List Int)), gs = [dat (.list (ls.map rowI))] ∧ (ls.map List.length).sum < 4000 ∧ ∀ hs, IsHues ls hs → kk (own (hs.map .int)) [none]
abbrev sp_hues_of (K : PySem.W.Frag) : Sp := SpG 1 F_hues_of
theorem pure_hues_of {K : PySem.W.Frag} {vs : List V} {H : Hp} {Q : VK} {E : XK} (h : sp_hues_of K vs H Q E) : t_hues_of K { nx := fun _ H' => Q .non H', rt := Q } (start N_hues_of vs) H := by
  refine body_ok (fun _ => false) ?_ h
  rintro gs kk xx ⟨ls, rfl, hs, hk⟩ -
  unfold t_hues_of
  show WS _ _ [some (dat (.list (ls.map rowI))), none, none] _
  refine ws_ret (we_hues ?_)
  repeat walk_at "w"
  exact ⟨hs, fun hs h1 h2 => ⟨_, _, Ent.refl, les_none les_nil, hk hs ⟨h1, h2⟩⟩⟩
/-- the new name of a hue -/
def nm (hs ns : List Int) (x : Int) : Int := (valZ (hs.zip ns) x).getD 0
theorem valZ_zip : ∀ {hs ns : List Int} {x : Int}, x ∈ hs → hs.length = ns.length → valZ (hs.zip ns) x = some (nm hs ns x)
  | h :: hs, n :: ns, x, hx, hl => by
    unfold nm valZ
    rw [List.zip_cons_cons, List.find?_cons]
    by_cases e : h = x
    · simp [e]
    · simp only [e, decide_false]
      exact valZ_zip (hs := hs) (ns := ns) (by rcases List.mem_cons.mp hx with h | h; exact absurd h.symm e; exact h) (by simpa using hl)
  | [], _, _, hx, _ => by simp at hx
  | _ :: _, [], _, _, hl => by simp at hl
def sortZ (xs : List Int) : List Int := xs.mergeSort fun a b => decide (a ≤ b)
theorem sortZ_perm {xs : List Int} : (sortZ xs).Perm xs := List.mergeSort_perm _ _
theorem sortZ_asc {xs : List Int} : (sortZ xs).Pairwise (· ≤ ·) := by
  have := List.pairwise_mergeSort (le := fun a b : Int => decide (a ≤ b)) (fun a b c h1 h2 => decide_eq_true (by have := of_decide_eq_true h1; have := of_decide_eq_true h2; omega)) (fun a b => by
    by_cases h : a ≤ b
    · simp [h]
    · have : b ≤ a := by omega
      simp [this]) xs
  exact this.imp fun h => of_decide_eq_true h
theorem sortZ_uniq {r xs : List Int} (hp : r.Perm xs) (hs : r.Pairwise (· ≤ ·)) : r = sortZ xs :=
  (hp.trans sortZ_perm.symm).eq_of_pairwise (le := (· ≤ ·)) (fun a b _ _ h1 h2 => Int.le_antisymm h1 h2) hs sortZ_asc
/-- lists renamed -/
def reL (hs ns : List Int) (ls : List (List Int)) : List (List Int) := ls.map fun l => sortZ (l.map (nm hs ns))
def okD (m : Nat) : PyData → Bool
  | .list ds => diffD (.list ds) && decide (ds.length = m)
  | _ => false
end G

/-! ### own things looked at as they stand; lists of fresh lists; each list grown by one -/
namespace G
open PySem L2
/-- the slots of Γ as they stand: what may be looked at -/
def Still (Γ Γ0 : Ga) : Prop := Γ0.length = Γ.length ∧ ∀ (i : Nat) (g0 : Gp), Γ0[i]? = some (some g0) → ∃ g q, Γ[i]? = some (some g) ∧ Frz g q ∧ g0 = per q
theorem we_still {Γ Γ0 : Ga} {k : Gp → Ga → Prop} {te : TE} (s : Still Γ Γ0) (h : WE te Γ0 fun g _ => ∃ d, g = dat d ∧ scal d = true ∧ k (dat d) Γ) : WE te Γ k := fun ω σ H S Q f => by
  classical
  let ω0 : Col := fun a => if ω a = 1 then 1 else 0
  have c0 : ∀ c, c ≠ 1 → Same (vw ω H c) (vw ω0 H 0) := fun c hc a o z => vw_mk (by
    show (if ω a = 1 then 1 else 0) = 0
    rw [if_neg (by rw [vw_c z]; exact hc)]) (vw_H z)
  have S0 : Sta Γ0 ω0 σ H := ⟨by rw [s.1]; exact S.1, fun i g0 hi => by
    obtain ⟨g, q, hg, fz, rfl⟩ := s.2 i g0 hi
    obtain ⟨v, e, p⟩ := S.2 i g hg
    exact ⟨v, e, fz _ _ _ _ (c0 0 (by decide)) (c0 _ (by omega)) p⟩⟩
  refine h ω0 σ H S0 _ fun v g Γ' ω' H' ⟨d, eg, hd, hk⟩ S' p fr => ?_
  subst eg
  let ω2 : Col := fun a => if (H a).isSome then ω a else 1
  have keep : ∀ c, Same (vw ω H c) (vw ω2 H' c) := fun c a o z => by
    have hH := vw_H z
    have hc := vw_c z
    refine vw_mk (by show (if (H a).isSome then ω a else 1) = c; rw [hH]; exact hc) ?_
    by_cases h1 : ω a = 1
    · exact vw_H (fr.2 a o (vw_mk (by show (if ω a = 1 then 1 else 0) = 1; rw [if_pos h1]) hH))
    · exact vw_H (fr.1 a o (vw_mk (by show (if ω a = 1 then 1 else 0) = 0; rw [if_neg h1]) hH))
  exact f v (dat d) Γ ω2 H' hk (S.move (keep 0) fun i _ _ => keep _) (DR.scal hd p) ⟨keep 0, keep 1⟩
section
variable {K : PySem.W.Frag} {P : Nat → Bool} {Γ : Ga} {D : Pe} {k : Gp → Ga → Prop} {te : TE} {g : TG}
/-- [e for .. in ..], each e a fresh list -/
theorem we_lcO {wi : TI} {vs : List Nat} (Pv : Nat → List (List PyData) → Ga → Prop) (h : WI wi Γ fun n it Γ1 => n < 100000 ∧ Pv 0 [] Γ1 ∧ (∀ dss Γ2, Pv n dss Γ2 → k (own2 dss) Γ2) ∧ ∀ i dss Γ2, i < n → Pv i dss Γ2 → Γ2.length = Γ.length →
    WG (fun i => !vs.contains i) g (it i) (wipeG Γ2 vs) fun Γ3 => WE te Γ3 fun g Γ4 => ∃ ds, g = own ds ∧ Pv (i + 1) (dss ++ [ds]) (wipeG Γ4 vs)) :
    WE (tLc wi g tYes te vs) Γ k := fun ω σ H S Q f => h ω σ H S _ fun J n it Γ1 ω1 H1 ⟨hn, h0, hd, hs⟩ S1 W f1 => by
  intro L hL
  have hlen : ∀ {Γ2 : Ga} {ω2 : Col} {σ2 : L2.St} {H2 : Hp}, Sta Γ2 ω2 σ2 H2 → σ2.length = σ.length → Γ2.length = Γ.length := fun {Γ2 ω2 σ2 H2} S2 e => by rw [← S2.1, e, S.1]
  refine ⟨fun i μ H' => μ = n - i ∧ i ≤ n ∧ ∃ bs dss Γ2 ω2, Pv i dss Γ2 ∧ Sta Γ2 ω2 σ H' ∧ Fr ω1 ω2 H1 H' ∧ (ω2 L = 1 ∧ H' L = some (.lst (bs.map V.ref))) ∧ bs.length = i ∧ (L :: bs).Nodup ∧ In2 (vw ω2 H' 0) (vw ω2 H' 1) bs dss ∧ ∀ a o, vw ω1 H1 1 a = some o → a ∉ L :: bs,
    ⟨n, by simp, Nat.zero_le _, [], [], Γ1, paint ω1 L 1, h0, S1.new 1 hL, paint_fr hL, ⟨by unfold paint; rw [if_pos rfl], upd_same⟩, rfl, by simp, ⟨rfl, fun i b ds e _ => by simp at e⟩, fun a o z => by simpa using ne_of_none (vw_H z) hL⟩, ?_⟩
  rintro i μ H' ⟨rfl, hi, bs, dss, Γ2, ω2, p2, S2, f2, ⟨c2, e2⟩, l2, n2, b2, a2⟩
  have sA : Same (vw ω1 H1 0) H' := fun a o e => vw_H (f2.1 a o e)
  by_cases hlt : i < n
  · refine .inr ⟨((W i H' sA).1 hlt).1, fun H'' => ∃ bs dss Γ2 ω2, Pv (i + 1) dss Γ2 ∧ Sta Γ2 ω2 σ H'' ∧ Fr ω1 ω2 H1 H'' ∧ (ω2 L = 1 ∧ H'' L = some (.lst (bs.map V.ref))) ∧ bs.length = i + 1 ∧ (L :: bs).Nodup ∧ In2 (vw ω2 H'' 0) (vw ω2 H'' 1) bs dss ∧ ∀ a o, vw ω1 H1 1 a = some o → a ∉ L :: bs,
      fun H'' z => ⟨n - (i + 1), by omega, rfl, hlt, z⟩, fun x H'' y => ?_⟩
    obtain ⟨ω3, S3, f3, q3⟩ := yld_ok W rfl f2 S2 hlt y
    refine hs i dss Γ2 hlt p2 (hlen S2 rfl) ω3 _ H'' x (S3.wipe vs) q3 _ fun Γ4 ω4 σ4 H4 h4 S4 f4 q4 => ?_
    obtain ⟨_, ew⟩ := S4.unwipe q4
    refine ⟨ew, ?_⟩
    unfold tYes
    refine iteT ?_
    refine h4 ω4 σ4 H4 S4 _ fun v g5 Γ5 ω5 H5 ⟨ds, eg, hP⟩ S5 p5 f5 => ?_
    subst eg
    obtain ⟨b, ys, rfl, hb, hds⟩ := p5
    obtain ⟨S6, _⟩ := S5.unwipe q4
    have f25 : Fr ω2 ω5 H' H5 := (f3.trans f4).trans f5
    have zL := f25.2 L _ (vw_mk c2 e2)
    have z2 := b2.mono f25.1 f25.2
    have cb := vw_c hb
    have nL : L ≠ b := fun e => by rw [← e, vw_c zL] at cb; cases cb
    have nb : ∀ b' ∈ bs, b' ≠ b := fun b' hb' e => by
      obtain ⟨t, ht⟩ := List.getElem?_of_mem hb'
      obtain ⟨d', hd'⟩ : ∃ d', dss[t]? = some d' := ⟨dss[t]'(by rw [← z2.1]; exact (List.getElem?_eq_some_iff.mp ht).1), by simp⟩
      obtain ⟨ys', h1, _⟩ := z2.2 t b' d' ht hd'
      rw [← e, vw_c h1] at cb
      cases cb
    have f15 : Fr ω1 ω5 H1 H5 := f2.trans f25
    let ω6 : Col := paint ω5 b 1
    have pn : ∀ c, c ≠ 2 → Same (vw ω5 H5 c) (vw ω6 H5 c) := fun c hc a o z => by
      have : a ≠ b := fun e => hc (by rw [← vw_c z, e, cb])
      exact vw_mk (by show paint ω5 b 1 a = c; unfold paint; rw [if_neg this]; exact vw_c z) (vw_H z)
    have cL : ω6 L = 1 := by show paint ω5 b 1 L = 1; unfold paint; rw [if_neg nL]; exact vw_c zL
    have m0 : ∀ c, c ≠ 1 → Same (vw ω6 H5 c) (vw ω6 (upd H5 L (.lst (bs.map V.ref ++ [.ref b]))) c) := fun c hc => mut_same (by rw [cL]; exact Ne.symm hc)
    refine ⟨bs.map V.ref, vw_H zL, by rw [List.length_map, l2]; exact Nat.lt_of_lt_of_le (by omega : i < 100000) (by decide), bs ++ [b], dss ++ [ds], _, ω6, hP, ?_, ?_, ⟨cL, ?_⟩, by simp [l2], ?_, ?_, ?_⟩
    · exact S6.move ((pn 0 (by decide)).trans (m0 0 (by decide))) fun j _ _ => (pn _ (by omega)).trans (m0 _ (by omega))
    · refine ⟨(f15.1.trans (pn 0 (by decide))).trans (m0 0 (by decide)), fun a o z => ?_⟩
      have z' := (pn 1 (by decide)) a o (f15.2 a o z)
      have h2 : a ≠ L := fun e => a2 a o z (by simp [e])
      exact vw_mk (vw_c z') (by rw [upd_ne h2]; exact vw_H z')
    · rw [upd_same]
      simp
    · rw [List.nodup_cons] at n2 ⊢
      refine ⟨by simp [n2.1, nL], List.nodup_append.mpr ⟨n2.2, by simp, fun a ha b' hb' => ?_⟩⟩
      rw [List.mem_singleton.mp hb']
      exact nb a ha
    · refine ⟨by simp [z2.1], fun t b' d' e1 e3 => ?_⟩
      have s0 := (pn 0 (by decide)).trans (m0 0 (by decide))
      by_cases ht : t < bs.length
      · rw [List.getElem?_append_left ht] at e1
        rw [List.getElem?_append_left (by rw [← z2.1]; exact ht)] at e3
        obtain ⟨ys', h1, h3⟩ := z2.2 t b' d' e1 e3
        have hne : b' ≠ L := fun e => (List.nodup_cons.mp n2).1 (e ▸ List.mem_of_getElem? e1)
        have h1' := (pn 1 (by decide)) _ _ h1
        exact ⟨ys', vw_mk (vw_c h1') (by rw [upd_ne hne]; exact vw_H h1'), h3.mono s0⟩
      · have et : t = bs.length := by
          have := (List.getElem?_eq_some_iff.mp e1).1
          rw [List.length_append] at this
          have : t < bs.length + 1 := this
          omega
        subst et
        rw [List.getElem?_append_right (Nat.le_refl _), Nat.sub_self] at e1
        rw [z2.1, List.getElem?_append_right (Nat.le_refl _), Nat.sub_self] at e3
        cases e1
        cases e3
        exact ⟨ys, vw_mk (by show paint ω5 b 1 b = 1; unfold paint; rw [if_pos rfl]) (by rw [upd_ne (Ne.symm nL)]; exact vw_H hb), hds.mono s0⟩
    · intro a o z hm
      rcases List.mem_cons.mp hm with e | hm
      · exact a2 a o z (by simp [e])
      · rcases List.mem_append.mp hm with hm | hm
        · exact a2 a o z (by simp [hm])
        · rw [List.mem_singleton.mp hm] at z
          have := vw_c (f15.2 _ _ z)
          rw [cb] at this
          cases this
  · have e : i = n := by omega
    subst e
    refine .inl ⟨(W i H' sA).2 (Nat.le_refl _), ?_⟩
    let ω3 : Col := fun b => if b ∈ L :: bs then 2 else ω2 b
    have c1 : ∀ b ∈ L :: bs, ω2 b = 1 := fun b hb => by
      rcases List.mem_cons.mp hb with e | hb
      · rw [e]; exact c2
      · obtain ⟨t, ht⟩ := List.getElem?_of_mem hb
        obtain ⟨d', hd'⟩ : ∃ d', dss[t]? = some d' := ⟨dss[t]'(by rw [← b2.1]; exact (List.getElem?_eq_some_iff.mp ht).1), by simp⟩
        obtain ⟨ys', h1, _⟩ := b2.2 t b d' ht hd'
        exact vw_c h1
    have pn : ∀ c, c ≠ 1 → Same (vw ω2 H' c) (vw ω3 H' c) := fun c hc a o z => by
      refine vw_mk ?_ (vw_H z)
      show (if _ then _ else _) = c
      rw [if_neg]
      · exact vw_c z
      · intro e
        exact hc ((vw_c z).symm.trans (c1 a e))
    refine f (.ref L) (own2 dss) Γ2 ω3 H' (hd dss Γ2 p2) (S2.move (pn 0 (by decide)) fun i _ _ => pn _ (by omega)) ⟨L, bs, rfl, vw_mk (by show (if _ then _ else _) = _; rw [if_pos (by simp)]) e2, n2, b2.1, fun j b ds e1 e3 => ?_⟩ (f1.trans ⟨f2.1.trans (pn 0 (by decide)), fun a o z => ?_⟩)
    · obtain ⟨ys, h1, h3⟩ := b2.2 j b ds e1 e3
      exact ⟨ys, vw_mk (by show (if _ then _ else _) = _; rw [if_pos (by simp [List.mem_of_getElem? e1])]) (vw_H h1), h3.mono (pn 0 (by decide))⟩
    · have z' := f2.2 a o z
      refine vw_mk ?_ (vw_H z')
      show (if _ then _ else _) = _
      rw [if_neg (a2 a o z)]
      exact vw_c z'
/-- for r in xs: r.append(y), xs a list of lists of one's own -/
theorem ws_forApp {i p r : Nat} {dss : List (List PyData)} {d : PyData} (hi : Γ[i]? = some (some (own2 dss))) (hp : Γ[p]? = some (some (dat d))) (hr : r < Γ.length) (ir : i ≠ r) (pr : p ≠ r) (ip : i ≠ p) (Pr : P r = false)
    (hl : ∀ ds ∈ dss, ds.length < 90000) (hk : D.nx ((Γ.set i (some (own2 (dss.map (· ++ [d]))))).set r none)) :
    WS P (tFor (iList K (tVar i)) (gName r) (tDrop (tBM K "list" rAppend (tVar r) (tCons (tVar p) tNil)))) Γ D := fun ω σ H S E m => by
  obtain ⟨v, ev, a, bs, rfl, ha, nd, hb⟩ := S.2 i _ hi
  obtain ⟨y, ey, hy⟩ := S.2 p _ hp
  have hla := hb.1
  have lr : r < σ.length := by rw [S.1]; exact hr
  obtain ⟨nd1, nd2⟩ := List.nodup_cons.mp nd
  have old : ∀ (t : Nat) (b : Addr), bs[t]? = some b → ∃ ds, dss[t]? = some ds ∧ ds ∈ dss ∧ ω b = i + 3 := fun t b e => by
    have ht : t < dss.length := by rw [← hla]; exact (List.getElem?_eq_some_iff.mp e).1
    obtain ⟨ys, h1, _⟩ := hb.2 t b dss[t] e (List.getElem?_eq_getElem ht)
    exact ⟨dss[t], List.getElem?_eq_getElem ht, List.getElem_mem ht, vw_c h1⟩
  refine ⟨_, ev, a, rfl, ⟨_, SqL.of (vw_H ha)⟩, ?_⟩
  refine ⟨fun j μ σ' H' => μ = bs.length - j ∧ j ≤ bs.length ∧ σ'.length = σ.length ∧ (∀ t : Nat, t ≠ r → σ'[t]? = σ[t]?) ∧ (∀ c, c ≠ i + 3 → Same (vw ω H c) (vw ω H' c)) ∧ H' a = some (.lst (bs.map V.ref)) ∧
      ∀ (t : Nat) (b : Addr) (ds : List PyData), bs[t]? = some b → dss[t]? = some ds → ∃ ys, H' b = some (.lst ys) ∧ DRs (vw ω H' 0) ys (if t < j then ds ++ [d] else ds),
    ⟨bs.length, by simp, Nat.zero_le _, rfl, fun _ _ => rfl, fun _ _ => Same.refl _, vw_H ha, fun t b ds e1 e2 => by
      obtain ⟨ys, h1, h2⟩ := hb.2 t b ds e1 e2
      exact ⟨ys, vw_H h1, by rw [if_neg (by omega)]; exact h2⟩⟩, ?_⟩
  rintro j μ σ' H' ⟨rfl, hj, q1, q2, q3, q4, q5⟩
  by_cases hlt : j < bs.length
  · refine .inr ⟨⟨_, .ref bs[j], SqL.of q4, by simp [hlt]⟩, fun σ'' H'' => j + 1 ≤ bs.length ∧ σ''.length = σ.length ∧ (∀ t : Nat, t ≠ r → σ''[t]? = σ[t]?) ∧ (∀ c, c ≠ i + 3 → Same (vw ω H c) (vw ω H'' c)) ∧ H'' a = some (.lst (bs.map V.ref)) ∧
      ∀ (t : Nat) (b : Addr) (ds : List PyData), bs[t]? = some b → dss[t]? = some ds → ∃ ys, H'' b = some (.lst ys) ∧ DRs (vw ω H'' 0) ys (if t < j + 1 then ds ++ [d] else ds), fun σ'' H'' z => ⟨bs.length - (j + 1), by omega, rfl, z⟩, fun x H'' yl => ?_⟩
    obtain ⟨rfl, yl⟩ := yl
    have hx := yl _ (SqL.of q4)
    have hbj : bs[j]? = some bs[j] := List.getElem?_eq_getElem hlt
    rw [List.getElem?_map, hbj] at hx
    cases hx
    obtain ⟨ds, hds, hdm, cb⟩ := old j _ hbj
    obtain ⟨ys, hys, hd⟩ := q5 j _ ds hbj hds
    rw [if_neg (by omega)] at hd
    have hab : a ≠ bs[j] := fun e => nd1 (e ▸ List.getElem_mem hlt)
    have y2 : (σ'.set r (some (.ref bs[j])))[p]? = some (some y) := by rw [List.getElem?_set_ne (Ne.symm pr), q2 p pr]; exact ey
    have m0 : ∀ c, c ≠ i + 3 → Same (vw ω H'' c) (vw ω (upd H'' bs[j] (.lst (ys ++ [y]))) c) := fun c hc => mut_same (by rw [cb]; exact Ne.symm hc)
    refine ⟨.ref bs[j], by rw [List.getElem?_set_self (by rw [q1]; exact lr)], .inl ⟨rfl, ys, SqL.of hys⟩, y, y2, bs[j], ys, y, rfl, rfl, hys, by rw [hd.length]; exact Nat.lt_of_lt_of_le (hl ds hdm) (by decide), hlt, by rw [List.length_set]; exact q1, fun t ht => by rw [List.getElem?_set_ne (Ne.symm ht)]; exact q2 t ht, fun c hc => (q3 c hc).trans (m0 c hc), by rw [upd_ne hab]; exact q4, fun t b ds' e1 e2 => ?_⟩
    by_cases htj : t = j
    · subst htj
      rw [hbj] at e1
      cases e1
      rw [hds] at e2
      cases e2
      refine ⟨_, upd_same, ?_⟩
      rw [if_pos (by omega)]
      exact (hd.mono (m0 0 (by omega))).snoc (DR.mono ((q3 0 (by omega)).trans (m0 0 (by omega))) d hy)
    · obtain ⟨zs, h1, h2⟩ := q5 t b ds' e1 e2
      have hne : b ≠ bs[j] := fun e => by
        have ht := (List.getElem?_eq_some_iff.mp e1).1
        exact htj ((List.getElem?_inj (i := t) (j := j) ht nd2).mp (e1.trans (e ▸ hbj.symm)))
      refine ⟨zs, by rw [upd_ne hne]; exact h1, ?_⟩
      have : (if t < j + 1 then ds' ++ [d] else ds') = if t < j then ds' ++ [d] else ds' := by
        by_cases h : t < j
        · rw [if_pos h, if_pos (by omega)]
        · rw [if_neg h, if_neg (by omega)]
      rw [this]
      exact h2.mono (m0 0 (by omega))
  · have e : j = bs.length := by omega
    subst e
    refine .inl ⟨⟨_, SqL.of q4, by rw [List.length_map]; exact Nat.le_refl _⟩, ?_⟩
    refine m.nx _ ω σ' H' hk ⟨by rw [List.length_set, List.length_set, q1]; exact S.1, fun t g ht => ?_⟩ ⟨q3 0 (by omega), q3 1 (by omega)⟩ ⟨q1, fun t ht => ?_⟩
    · rw [List.getElem?_set] at ht
      by_cases htr : r = t
      · subst htr
        rw [if_pos rfl] at ht
        split at ht <;> cases ht
      · rw [if_neg htr, List.getElem?_set] at ht
        by_cases hti : i = t
        · subst hti
          rw [if_pos rfl] at ht
          split at ht
          · cases ht
            refine ⟨.ref a, by rw [q2 _ ir]; exact ev, a, bs, rfl, vw_mk (vw_c ha) q4, nd, by rw [List.length_map]; exact hla, fun u b ds e1 e2 => ?_⟩
            rw [List.getElem?_map] at e2
            obtain ⟨ds0, h0, _, cb⟩ := old u b e1
            rw [h0] at e2
            cases e2
            obtain ⟨ys, h1, h2⟩ := q5 u b ds0 e1 h0
            rw [if_pos (List.getElem?_eq_some_iff.mp e1).1] at h2
            exact ⟨ys, vw_mk cb h1, h2⟩
          · cases ht
        · rw [if_neg hti] at ht
          obtain ⟨w, e1, e2⟩ := S.2 t g ht
          exact ⟨w, by rw [q2 t (Ne.symm htr)]; exact e1, g.mono (q3 0 (by omega)) (q3 _ (by omega)) e2⟩
    · exact q2 t fun e => by rw [e, Pr] at ht; cases ht
end
inductive StillL : Ga → Ga → Prop
  | nil : StillL [] []
  | non {o : Option Gp} {Γ Γ0 : Ga} : StillL Γ Γ0 → StillL (o :: Γ) (none :: Γ0)
  | per {q : Per} {Γ Γ0 : Ga} : StillL Γ Γ0 → StillL (some (per q) :: Γ) (some (per q) :: Γ0)
  | frz {g : Gp} {q : Per} {Γ Γ0 : Ga} : Frz g q → StillL Γ Γ0 → StillL (some g :: Γ) (some (per q) :: Γ0)
theorem StillL.still : ∀ {Γ Γ0 : Ga}, StillL Γ Γ0 → Still Γ Γ0
  | _, _, .nil => ⟨rfl, fun i g0 h => by simp at h⟩
  | _, _, .non t => ⟨by simp [t.still.1], fun i g0 h => by
    match i, h with
    | 0, h => cases h
    | i + 1, h => exact t.still.2 i g0 (by simpa using h)⟩
  | _, _, .per t => ⟨by simp [t.still.1], fun i g0 h => by
    match i, h with
    | 0, h => cases h; exact ⟨_, _, rfl, frz_per, rfl⟩
    | i + 1, h => exact t.still.2 i g0 (by simpa using h)⟩
  | _, _, .frz z t => ⟨by simp [t.still.1], fun i g0 h => by
    match i, h with
    | 0, h => cases h; exact ⟨_, _, rfl, z, rfl⟩
    | i + 1, h => exact t.still.2 i g0 (by simpa using h)⟩
end G

namespace G
open PySem L2
local macro_rules | `(tactic| walk_at "g1") => `(tactic| first
  | (with_reducible show WE _ _ _; with_reducible first | refine we_var (by with_unfolding_all exact rfl) ?_ | (show WE (tOp _ _ _) _ _; first | refine we_ixS (by with_unfolding_all exact rfl) ?_ | refine we_ixScr (by with_unfolding_all exact rfl) ?_ | refine we_inS (by with_unfolding_all exact rfl) ?_ | refine we_notInS (by with_unfolding_all exact rfl) ?_ | refine we_eqS (by with_unfolding_all exact rfl) ?_ | refine we_neS (by with_unfolding_all exact rfl) ?_ | refine we_opK ?_) | (show WE (tCB _ _) _ _; first | refine we_lenS' (by with_unfolding_all exact rfl) ?_ | refine we_lenScr (by with_unfolding_all exact rfl) ?_ | refine we_cbK ?_) | refine we_int ?_ | refine we_bl ?_ | refine we_non ?_ | refine we_str ?_ | refine we_neg ?_ | refine we_not ?_ | refine we_and ?_ | refine we_or ?_ | refine we_if ?_ | refine we_tup ?_ | refine we_lst ?_ | refine we_call ?_ | refine we_mt (by with_unfolding_all exact rfl) ?_)
  | (with_reducible show WS _ _ _ _; with_reducible first | refine ws_seqA ?_ | refine ws_seqD ?_ | refine ws_asg (by with_unfolding_all exact rfl) ?_ | refine ws_asgG ?_ | refine ws_if ?_ | refine ws_ret ?_ | refine ws_drop ?_ | refine ws_next ?_ | refine ws_retN ?_)
  | (with_reducible show WT _ _ _; with_reducible first | refine wt_test ?_ | refine wt_B ?_ | refine wt_not ?_ | refine wt_and ?_ | refine wt_or ?_ | refine wt_yes ?_)
  | (with_reducible show WA _ _ _; with_reducible first | refine wa_nil ?_ | refine wa_cons (wq_of (we_var (by with_unfolding_all exact rfl) ?_)) | refine wa_slotU (by with_unfolding_all exact rfl) ?_ | refine wa_cons ?_)
  | (with_reducible show OpK _ _ _ _ _; with_reducible first | refine ok_plusI ?_ | refine ok_sub ?_ | refine ok_lt ?_ | refine ok_le ?_ | refine ok_gt ?_ | refine ok_ge ?_ | refine ok_eqI ?_ | refine ok_neI ?_ | refine ok_mod (by first | assumption | decide | omega) ?_ | refine ok_ixL (by with_unfolding_all exact rfl) ?_)
  | (with_reducible show CbK _ _ _ _; with_reducible first | refine ck_lenL ?_ | refine ck_lenT ?_ | refine ck_int ?_ | refine ck_intB ?_ | refine ck_max ?_ | refine ck_min ?_ | refine ck_list ?_)
  | with_reducible refine wq_of ?_
  | (with_reducible show WG _ _ _ _ _; with_reducible first | refine wg_name (by with_unfolding_all exact rfl) ?_ | refine wg_tup (by with_unfolding_all exact rfl) ?_ | refine wg_set (by with_unfolding_all exact rfl) ?_)
  | (with_reducible show WGs _ _ _ _ _; with_reducible first | refine wgs_cons ?_ | refine wgs_nil ?_)
  | with_reducible refine iteT ?_
  | with_reducible refine iteF ?_
  | with_reducible refine ⟨_, frz_per, ?_⟩
  | with_reducible refine ⟨_, frz_own, ?_⟩
  | refine ⟨_, rfl, ?_⟩
  | refine ⟨_, argD1, ?_⟩
  | refine ⟨_, argD2, ?_⟩
  | refine ⟨_, argD0, ?_⟩
  | refine ⟨_, argD3, ?_⟩
  | refine ⟨_, argD4, ?_⟩
  | refine ⟨_, _, rfl, rfl, rfl, ?_⟩
  | refine ⟨_, _, _, rfl, rfl, rfl, ?_⟩
  | refine ⟨(by simp only [List.length_cons, List.length_nil]; decide), ?_⟩
  | refine ⟨rfl, nd1, ?_⟩
  | refine ⟨rfl, nd0, ?_⟩)
local macro_rules | `(tactic| walk_at "go") => `(tactic| repeat walk_at "g1")
local macro_rules | `(tactic| walk_at "g2") => `(tactic| first
  | (with_reducible show WE _ _ _; with_reducible first | refine we_var (by with_unfolding_all exact rfl) ?_ | (show WE (tOp _ _ _) _ _; first | refine we_notN ?_ | refine we_ixS (by with_unfolding_all exact rfl) ?_ | refine we_ixScr (by with_unfolding_all exact rfl) ?_ | refine we_inS (by with_unfolding_all exact rfl) ?_ | refine we_notInS (by with_unfolding_all exact rfl) ?_ | refine we_eqS (by with_unfolding_all exact rfl) ?_ | refine we_neS (by with_unfolding_all exact rfl) ?_ | refine we_opK ?_) | (show WE (tCB _ _) _ _; first | refine we_isInt ?_ | refine we_isBl ?_ | refine we_isLst ?_ | refine we_isTup ?_ | refine we_lenO (by with_unfolding_all exact rfl) ?_ | refine we_lenS' (by with_unfolding_all exact rfl) ?_ | refine we_lenScr (by with_unfolding_all exact rfl) ?_ | refine we_cbK ?_) | refine we_chain ?_ | refine we_slice ?_ | refine we_int ?_ | refine we_bl ?_ | refine we_non ?_ | refine we_str ?_ | refine we_neg ?_ | refine we_not ?_ | refine we_and ?_ | refine we_or ?_ | refine we_if ?_ | refine we_tup ?_ | refine we_lst ?_ | refine we_call ?_ | refine we_mt (by with_unfolding_all exact rfl) ?_)
  | (with_reducible show WS _ _ _ _; with_reducible first | refine ws_seqA ?_ | refine ws_seqD ?_ | refine ws_asg (by with_unfolding_all exact rfl) ?_ | refine ws_asgG ?_ | refine ws_if ?_ | refine ws_ret ?_ | refine ws_drop ?_ | refine ws_next ?_ | refine ws_retN ?_)
  | (with_reducible show WT _ _ _; with_reducible first | refine wt_test ?_ | refine wt_B ?_ | refine wt_not ?_ | refine wt_and ?_ | refine wt_or ?_ | refine wt_yes ?_)
  | (with_reducible show WA _ _ _; with_reducible first | refine wa_nil ?_ | refine wa_cons (wq_of (we_var (by with_unfolding_all exact rfl) ?_)) | refine wa_slotU (by with_unfolding_all exact rfl) ?_ | refine wa_cons ?_)
  | (with_reducible show OpK _ _ _ _ _; with_reducible first | refine ok_isB ?_ | refine ok_notB ?_ | refine ok_plusI ?_ | refine ok_sub ?_ | refine ok_lt ?_ | refine ok_le ?_ | refine ok_gt ?_ | refine ok_ge ?_ | refine ok_eqI ?_ | refine ok_neI ?_ | refine ok_mod (by first | assumption | decide | omega) ?_ | refine ok_ixL (by with_unfolding_all exact rfl) ?_)
  | (with_reducible show CbK _ _ _ _; with_reducible first | refine ck_lenL ?_ | refine ck_lenT ?_ | refine ck_int ?_ | refine ck_intB ?_ | refine ck_max ?_ | refine ck_min ?_ | refine ck_list ?_)
  | with_reducible refine wq_of ?_
  | (with_reducible show WG _ _ _ _ _; with_reducible first | refine wg_name (by with_unfolding_all exact rfl) ?_ | refine wg_tup (by with_unfolding_all exact rfl) ?_ | refine wg_set (by with_unfolding_all exact rfl) ?_)
  | (with_reducible show WGs _ _ _ _ _; with_reducible first | refine wgs_cons ?_ | refine wgs_nil ?_)
  | (with_reducible show WO _ _ _; with_reducible first | refine wo_some ?_ | refine wo_none ?_)
  | refine ⟨_, argD5, ?_⟩
  | refine ⟨_, argD6, ?_⟩
  | refine ⟨_, argD7, ?_⟩
  | refine ⟨_, argD9, ?_⟩
  | with_reducible refine iteT ?_
  | with_reducible refine iteF ?_
  | with_reducible refine ⟨_, frz_per, ?_⟩
  | with_reducible refine ⟨_, frz_own, ?_⟩
  | refine ⟨_, rfl, ?_⟩
  | refine ⟨_, argD1, ?_⟩
  | refine ⟨_, argD2, ?_⟩
  | refine ⟨_, argD0, ?_⟩
  | refine ⟨_, argD3, ?_⟩
  | refine ⟨_, argD4, ?_⟩
  | refine ⟨_, _, rfl, rfl, rfl, ?_⟩
  | refine ⟨_, _, _, rfl, rfl, rfl, ?_⟩
  | refine ⟨(by simp only [List.length_cons, List.length_nil]; decide), ?_⟩
  | refine ⟨rfl, nd1, ?_⟩
  | refine ⟨rfl, nd0, ?_⟩)
local macro_rules | `(tactic| walk_at "w") => `(tactic| first
  | (with_reducible show WE _ _ _; with_reducible first | refine we_var (by with_unfolding_all exact rfl) ?_ | refine we_varF (by with_unfolding_all exact rfl) frz_own ?_ | (show WE (tOp _ _ _) _ _; first | refine we_isNd ?_ | refine we_notNd ?_ | refine we_notN ?_ | refine we_ixS (by with_unfolding_all exact rfl) ?_ | refine we_ixScr (by with_unfolding_all exact rfl) ?_ | refine we_inS (by with_unfolding_all exact rfl) ?_ | refine we_notInS (by with_unfolding_all exact rfl) ?_ | refine we_eqS (by with_unfolding_all exact rfl) ?_ | refine we_neS (by with_unfolding_all exact rfl) ?_ | refine we_opK ?_) | (show WE (tCB _ _) _ _; first | refine we_repr ?_ | refine we_isInt ?_ | refine we_isBl ?_ | refine we_isLst ?_ | refine we_isTup ?_ | refine we_lenO (by with_unfolding_all exact rfl) ?_ | refine we_lenS' (by with_unfolding_all exact rfl) ?_ | refine we_lenScr (by with_unfolding_all exact rfl) ?_ | refine we_cbK ?_) | refine we_dnew ?_ | refine we_lenSetI ?_ | refine we_revL ?_ | refine we_chain ?_ | refine we_slice ?_ | refine we_int ?_ | refine we_bl ?_ | refine we_non ?_ | refine we_str ?_ | refine we_neg ?_ | refine we_not ?_ | refine we_and ?_ | refine we_or ?_ | refine we_if ?_ | refine we_tup ?_ | refine we_lst ?_ | refine we_call ?_ | refine we_mt (by with_unfolding_all exact rfl) ?_)
  | (with_reducible show WS _ _ _ _; with_reducible first | refine ws_seqI ?_ | refine ws_seqA ?_ | refine ws_seqD ?_ | refine ws_asg (by with_unfolding_all exact rfl) ?_ | refine ws_asgG ?_ | refine ws_if ?_ | refine ws_ret ?_ | refine ws_drop ?_ | refine ws_next ?_ | refine ws_retN ?_)
  | (with_reducible show WT _ _ _; with_reducible first | refine wt_truL ?_ | refine wt_test ?_ | refine wt_B ?_ | refine wt_not ?_ | refine wt_and ?_ | refine wt_or ?_ | refine wt_yes ?_)
  | (with_reducible show WA _ _ _; with_reducible first | refine wa_nil ?_ | refine wa_cons (wq_of (we_var (by with_unfolding_all exact rfl) ?_)) | refine wa_slotU (by with_unfolding_all exact rfl) ?_ | refine wa_cons ?_)
  | (with_reducible show OpK _ _ _ _ _; with_reducible first | refine ok_neR ?_ | refine ok_eqR ?_ | refine ok_isB ?_ | refine ok_notB ?_ | refine ok_plusI ?_ | refine ok_sub ?_ | refine ok_lt ?_ | refine ok_le ?_ | refine ok_gt ?_ | refine ok_ge ?_ | refine ok_eqI ?_ | refine ok_neI ?_ | refine ok_mod (by first | assumption | decide | omega) ?_ | refine ok_ixL (by with_unfolding_all exact rfl) ?_)
  | (with_reducible show CbK _ _ _ _; with_reducible first | refine ck_tuple ?_ | refine ck_allF ?_ | refine ck_anyF ?_ | refine ck_abs ?_ | refine ck_sumI ?_ | refine ck_lenL ?_ | refine ck_lenT ?_ | refine ck_int ?_ | refine ck_intB ?_ | refine ck_max ?_ | refine ck_min ?_ | refine ck_list ?_)
  | with_reducible refine wq_of ?_
  | (with_reducible show WG _ _ _ _ _; with_reducible first | refine wg_name (by with_unfolding_all exact rfl) ?_ | refine wg_tup (by with_unfolding_all exact rfl) ?_ | refine wg_set (by with_unfolding_all exact rfl) ?_)
  | (with_reducible show WGs _ _ _ _ _; with_reducible first | refine wgs_cons ?_ | refine wgs_nil ?_)
  | (with_reducible show WO _ _ _; with_reducible first | refine wo_some ?_ | refine wo_none ?_)
  | refine ⟨_, argD5, ?_⟩
  | refine ⟨_, argD6, ?_⟩
  | refine ⟨_, argD7, ?_⟩
  | refine ⟨_, argD9, ?_⟩
  | with_reducible refine iteT ?_
  | with_reducible refine iteF ?_
  | with_reducible refine ⟨_, frz_per, ?_⟩
  | with_reducible refine ⟨_, frz_own, ?_⟩
  | refine ⟨_, rfl, ?_⟩
  | refine ⟨_, argD1, ?_⟩
  | refine ⟨_, argD2, ?_⟩
  | refine ⟨_, argD0, ?_⟩
  | refine ⟨_, argD3, ?_⟩
  | refine ⟨_, argD4, ?_⟩
  | refine ⟨_, _, rfl, rfl, rfl, ?_⟩
  | refine ⟨_, _, _, rfl, rfl, rfl, ?_⟩
  | refine ⟨(by simp only [List.length_cons, List.length_nil]; decide), ?_⟩
  | refine ⟨rfl, nd1, ?_⟩
  | refine ⟨rfl, nd0, ?_⟩
  | refine ⟨_, argD8, ?_⟩
  | refine ⟨_, argD10, ?_⟩)
abbrev t_renamed_0 (K : PySem.W.Frag) (a : Ad) (E : XK) : TS :=
  (tRet (tLc (iList K (tVar 0)) (gName 4) tYes (tCB (rSortA K) (tCons (tLc (iList K (tVar 4)) (gName 5) tYes (tDGet (tVar 3) (tVar 5)) [5]) tNil)) [4]))
abbrev t_renamed_1 (K : PySem.W.Frag) (a : Ad) (E : XK) : TS :=
  (tSeq (tIfS (tOr (tNot (tB (tCall (sp_are_different_counts K) [] E0 (tCons (tVar 1) tNil)))) (tTest (tOp (rNeD K) (tCB (rLenA K) (tCons (tVar 1) tNil)) (tCB (rLenA K) (tCons (tVar 2) tNil))))) (tRaise E (.ref a.C_InvalidLists)) tNext)
    (tSeq (tAsg (tDictZip K (tCons (tVar 2) (tCons (tVar 1) tNil))) (gName 3))
    (t_renamed_0 K a E)))
def t_renamed (K : PySem.W.Frag) (a : Ad) (E : XK) : TS :=
  (tSeq (tAsg (tCall (sp_hues_of K) [] E0 (tCons (tVar 0) tNil)) (gName 2))
    (t_renamed_1 K a E))
abbrev N_renamed : List Str := ["lists", "hues", "old", "exchange", "own", "hue"]
abbrev F_renamed (a : Ad) : Fw := fun gs kk xx => ∃ (ls : List (List Int)) (d : PyData), gs = [dat (.list (ls.map rowI)), dat d] ∧ (ls.map List.length).sum < 1000 ∧ ls.length < 4000 ∧ (∀ ds, d = .list ds → ds.length < 4000) ∧ ∀ hs, IsHues ls hs →
  (∀ ns : List Int, d = .list (ns.map .int) → ns.Nodup → (∀ n ∈ ns, 0 ≤ n) → ns.length = hs.length → kk (own2 ((reL hs ns ls).map fun r => r.map .int)) [none, none]) ∧ (okD hs.length d = false → xx (.ref a.C_InvalidLists) [none, none])
abbrev sp_renamed (K : PySem.W.Frag) (a : Ad) : Sp := SpG 2 (F_renamed a)
theorem pure_renamed {K : PySem.W.Frag} {a : Ad} {vs : List V} {H : Hp} {Q : VK} {E : XK} (h : sp_renamed K a vs H Q E) : t_renamed K a E { nx := fun _ H' => Q .non H', rt := Q } (start N_renamed vs) H := by
  refine body_okX (fun _ => false) ?_ h
  rintro gs kk xx ⟨ls, d, rfl, hs, hll, hz, hk⟩ -
  unfold t_renamed
  show WSX _ _ _ [some (dat (.list (ls.map rowI))), some (dat d), none, none, none, none] _ _
  refine wsx_seq (wsx_of ?_)
  repeat walk_at "w"
  refine ⟨by omega, fun hs2 hH => ?_⟩
  obtain ⟨hk, hx⟩ := hk hs2 hH
  have hl := hues_len hH
  show WSX _ _ _ [some (dat (.list (ls.map rowI))), some (dat d), some (own (hs2.map .int)), none, none, none] _ _
  refine wsx_seq (wsx_if ?_)
  repeat walk_at "w"
  refine ⟨hz, _, frz_per, _, rfl, ?_⟩
  cases hc : diffD d with
  | false =>
    refine iteT (iteT (wsx_raise ⟨[none, none], les_none (les_none les_nil), hx ?_⟩))
    cases d <;> first | rfl | exact (by show (diffD _ && _) = false; rw [hc]; rfl)
  | true =>
    obtain ⟨ds, rfl⟩ : ∃ ds, d = .list ds := by
      cases d <;> first | exact ⟨_, rfl⟩ | exact Bool.noConfusion hc
    have hp := hc
    simp only [diffD, Bool.and_eq_true, decide_eq_true_eq] at hp
    have e0 := cnts_ints hp.1
    have hn : ∀ n ∈ ds.map intOf, 0 ≤ n := fun x hx => by
      obtain ⟨d, hd, rfl⟩ := List.mem_map.mp hx
      have h1 := List.all_eq_true.mp hp.1 d hd
      cases d <;> first | exact Bool.noConfusion h1 | exact of_decide_eq_true h1
    have hl2 := hz ds rfl
    have hnd := hp.2
    clear hp hz
    have hok : okD hs2.length (.list ds) = decide (ds.length = hs2.length) := by
      show (diffD _ && _) = _
      rw [hc, Bool.true_and]
    clear hc
    have hlw : (ds.map intOf).length = ds.length := List.length_map ..
    generalize ds.map intOf = ws at *
    subst e0
    rw [List.length_map] at hl2 hok
    refine iteF ?_
    repeat walk_at "w"
    rw [List.length_map, List.length_map]
    refine ite_ndec (fun h => ?_) fun h => ?_
    · refine wsx_raise ⟨[none, none], les_none (les_none les_nil), hx ?_⟩
      rw [hok, decide_eq_false fun e => h (by rw [e])]
    · have hle : ws.length = hs2.length := by omega
      have hk := hk ws rfl hnd hn hle
      clear hx hok
      refine wsx_of (ws_next (wsx_of ?_))
      refine ws_seqA (ws_asg rfl (we_dictZip ?_))
      repeat walk_at "w"
      have e1 : hs2.map PyData.int = (hs2.zip ws).map fun p => .int p.1 := by
        conv => lhs; rw [← List.map_fst_zip (l₁ := hs2) (l₂ := ws) (by omega), List.map_map]
        rfl
      have e2 : ws.map PyData.int = (hs2.zip ws).map fun p => .int p.2 := by
        conv => lhs; rw [← List.map_snd_zip (l₁ := hs2) (l₂ := ws) (by omega), List.map_map]
        rfl
      have e3 : (hs2.zip ws).map Prod.fst = hs2 := List.map_fst_zip (by omega)
      have hval : ∀ x ∈ hs2, valZ (hs2.zip ws) x = some (nm hs2 ws x) := fun x hx => valZ_zip hx (by omega)
      have hzl : (hs2.zip ws).length ≤ 1000 := by rw [List.length_zip]; omega
      rw [e1, e2]
      refine ⟨hs2.zip ws, argD2, by rw [e3]; exact hH.nd, hzl, ?_⟩
      rw [← e1, ← e2]
      clear e1 e2 e3
      have hmem : ∀ l ∈ ls, ∀ x ∈ l, x ∈ hs2 := fun l hl x hx => (hH.mem x).mpr ⟨l, hl, hx⟩
      have hlen : ∀ l ∈ ls, l.length ≤ 1000 := fun l hl => by
        have := len_le_sum hl
        omega
      show WS _ _ [some (dat (.list (ls.map rowI))), some (dat (.list (ws.map .int))), some (dat (.list (hs2.map .int))), some (dat (dictD (hs2.zip ws))), none, none] _
      repeat walk_at "w"
      refine we_lcO (fun i dss Γ => dss = ((reL hs2 ws ls).take i).map (fun r => r.map .int) ∧ Γ = [some (dat (.list (ls.map rowI))), some (dat (.list (ws.map .int))), some (dat (.list (hs2.map .int))), some (dat (dictD (hs2.zip ws))), none, none]) ?_
      refine wi_list ?_
      repeat walk_at "w"
      refine ⟨by rw [List.length_map]; omega, ⟨rfl, rfl⟩, ?_, ?_⟩
      · rintro dss Γ2 ⟨rfl, rfl⟩
        rw [List.length_map, show ls.length = (reL hs2 ws ls).length from (List.length_map ..).symm, List.take_length]
        exact ⟨_, [none, none], Ent.refl, les_none (les_none les_nil), hk⟩
      · rintro i dss Γ2 hi ⟨rfl, rfl⟩ -
        rw [List.length_map] at hi
        obtain ⟨l, hlx⟩ := getD_of (xs := ls) hi
        have hl := List.mem_of_getElem? hlx
        have e : (ls.map rowI).getD i .none = .list (l.map .int) := getD_at (by rw [List.getElem?_map, hlx]; rfl)
        have er : (reL hs2 ws ls)[i]? = some (sortZ (l.map (nm hs2 ws))) := by
          unfold reL
          rw [List.getElem?_map, hlx]
          rfl
        dsimp only
        rw [e]
        refine wg_name rfl ?_
        repeat walk_at "w"
        refine we_lcM .int .int (nm hs2 ws) (wil_list ?_)
        repeat walk_at "w"
        refine ⟨rfl, by have := hlen l hl; omega, fun x hx => ?_, ?_⟩
        · refine wg_name rfl (wq_of (we_dget ?_))
          repeat walk_at "w"
          exact ⟨x, _, rfl, hval x (hmem l hl x hx), _, frz_per, rfl, rfl⟩
        repeat walk_at "w"
        refine ck_sortI fun r hp hs => ?_
        rw [sortZ_uniq hp hs]
        refine ⟨_, rfl, ?_, rfl⟩
        rw [List.take_add_one, er, List.map_append]
        rfl
end G

namespace G
open PySem L2
local macro_rules | `(tactic| walk_at "g1") => `(tactic| first
  | (with_reducible show WE _ _ _; with_reducible first | refine we_var (by with_unfolding_all exact rfl) ?_ | (show WE (tOp _ _ _) _ _; first | refine we_ixS (by with_unfolding_all exact rfl) ?_ | refine we_ixScr (by with_unfolding_all exact rfl) ?_ | refine we_inS (by with_unfolding_all exact rfl) ?_ | refine we_notInS (by with_unfolding_all exact rfl) ?_ | refine we_eqS (by with_unfolding_all exact rfl) ?_ | refine we_neS (by with_unfolding_all exact rfl) ?_ | refine we_opK ?_) | (show WE (tCB _ _) _ _; first | refine we_lenS' (by with_unfolding_all exact rfl) ?_ | refine we_lenScr (by with_unfolding_all exact rfl) ?_ | refine we_cbK ?_) | refine we_int ?_ | refine we_bl ?_ | refine we_non ?_ | refine we_str ?_ | refine we_neg ?_ | refine we_not ?_ | refine we_and ?_ | refine we_or ?_ | refine we_if ?_ | refine we_tup ?_ | refine we_lst ?_ | refine we_call ?_ | refine we_mt (by with_unfolding_all exact rfl) ?_)
  | (with_reducible show WS _ _ _ _; with_reducible first | refine ws_seqA ?_ | refine ws_seqD ?_ | refine ws_asg (by with_unfolding_all exact rfl) ?_ | refine ws_asgG ?_ | refine ws_if ?_ | refine ws_ret ?_ | refine ws_drop ?_ | refine ws_next ?_ | refine ws_retN ?_)
  | (with_reducible show WT _ _ _; with_reducible first | refine wt_test ?_ | refine wt_B ?_ | refine wt_not ?_ | refine wt_and ?_ | refine wt_or ?_ | refine wt_yes ?_)
  | (with_reducible show WA _ _ _; with_reducible first | refine wa_nil ?_ | refine wa_cons (wq_of (we_var (by with_unfolding_all exact rfl) ?_)) | refine wa_slotU (by with_unfolding_all exact rfl) ?_ | refine wa_cons ?_)
  | (with_reducible show OpK _ _ _ _ _; with_reducible first | refine ok_plusI ?_ | refine ok_sub ?_ | refine ok_lt ?_ | refine ok_le ?_ | refine ok_gt ?_ | refine ok_ge ?_ | refine ok_eqI ?_ | refine ok_neI ?_ | refine ok_mod (by first | assumption | decide | omega) ?_ | refine ok_ixL (by with_unfolding_all exact rfl) ?_)
  | (with_reducible show CbK _ _ _ _; with_reducible first | refine ck_lenL ?_ | refine ck_lenT ?_ | refine ck_int ?_ | refine ck_intB ?_ | refine ck_max ?_ | refine ck_min ?_ | refine ck_list ?_)
  | with_reducible refine wq_of ?_
  | (with_reducible show WG _ _ _ _ _; with_reducible first | refine wg_name (by with_unfolding_all exact rfl) ?_ | refine wg_tup (by with_unfolding_all exact rfl) ?_ | refine wg_set (by with_unfolding_all exact rfl) ?_)
  | (with_reducible show WGs _ _ _ _ _; with_reducible first | refine wgs_cons ?_ | refine wgs_nil ?_)
  | with_reducible refine iteT ?_
  | with_reducible refine iteF ?_
  | with_reducible refine ⟨_, frz_per, ?_⟩
  | with_reducible refine ⟨_, frz_own, ?_⟩
  | refine ⟨_, rfl, ?_⟩
  | refine ⟨_, argD1, ?_⟩
  | refine ⟨_, argD2, ?_⟩
  | refine ⟨_, argD0, ?_⟩
  | refine ⟨_, argD3, ?_⟩
  | refine ⟨_, argD4, ?_⟩
  | refine ⟨_, _, rfl, rfl, rfl, ?_⟩
  | refine ⟨_, _, _, rfl, rfl, rfl, ?_⟩
  | refine ⟨(by simp only [List.length_cons, List.length_nil]; decide), ?_⟩
  | refine ⟨rfl, nd1, ?_⟩
  | refine ⟨rfl, nd0, ?_⟩)
local macro_rules | `(tactic| walk_at "go") => `(tactic| repeat walk_at "g1")
local macro_rules | `(tactic| walk_at "g2") => `(tactic| first
  | (with_reducible show WE _ _ _; with_reducible first | refine we_var (by with_unfolding_all exact rfl) ?_ | (show WE (tOp _ _ _) _ _; first | refine we_notN ?_ | refine we_ixS (by with_unfolding_all exact rfl) ?_ | refine we_ixScr (by with_unfolding_all exact rfl) ?_ | refine we_inS (by with_unfolding_all exact rfl) ?_ | refine we_notInS (by with_unfolding_all exact rfl) ?_ | refine we_eqS (by with_unfolding_all exact rfl) ?_ | refine we_neS (by with_unfolding_all exact rfl) ?_ | refine we_opK ?_) | (show WE (tCB _ _) _ _; first | refine we_isInt ?_ | refine we_isBl ?_ | refine we_isLst ?_ | refine we_isTup ?_ | refine we_lenO (by with_unfolding_all exact rfl) ?_ | refine we_lenS' (by with_unfolding_all exact rfl) ?_ | refine we_lenScr (by with_unfolding_all exact rfl) ?_ | refine we_cbK ?_) | refine we_chain ?_ | refine we_slice ?_ | refine we_int ?_ | refine we_bl ?_ | refine we_non ?_ | refine we_str ?_ | refine we_neg ?_ | refine we_not ?_ | refine we_and ?_ | refine we_or ?_ | refine we_if ?_ | refine we_tup ?_ | refine we_lst ?_ | refine we_call ?_ | refine we_mt (by with_unfolding_all exact rfl) ?_)
  | (with_reducible show WS _ _ _ _; with_reducible first | refine ws_seqA ?_ | refine ws_seqD ?_ | refine ws_asg (by with_unfolding_all exact rfl) ?_ | refine ws_asgG ?_ | refine ws_if ?_ | refine ws_ret ?_ | refine ws_drop ?_ | refine ws_next ?_ | refine ws_retN ?_)
  | (with_reducible show WT _ _ _; with_reducible first | refine wt_test ?_ | refine wt_B ?_ | refine wt_not ?_ | refine wt_and ?_ | refine wt_or ?_ | refine wt_yes ?_)
  | (with_reducible show WA _ _ _; with_reducible first | refine wa_nil ?_ | refine wa_cons (wq_of (we_var (by with_unfolding_all exact rfl) ?_)) | refine wa_slotU (by with_unfolding_all exact rfl) ?_ | refine wa_cons ?_)
  | (with_reducible show OpK _ _ _ _ _; with_reducible first | refine ok_isB ?_ | refine ok_notB ?_ | refine ok_plusI ?_ | refine ok_sub ?_ | refine ok_lt ?_ | refine ok_le ?_ | refine ok_gt ?_ | refine ok_ge ?_ | refine ok_eqI ?_ | refine ok_neI ?_ | refine ok_mod (by first | assumption | decide | omega) ?_ | refine ok_ixL (by with_unfolding_all exact rfl) ?_)
  | (with_reducible show CbK _ _ _ _; with_reducible first | refine ck_lenL ?_ | refine ck_lenT ?_ | refine ck_int ?_ | refine ck_intB ?_ | refine ck_max ?_ | refine ck_min ?_ | refine ck_list ?_)
  | with_reducible refine wq_of ?_
  | (with_reducible show WG _ _ _ _ _; with_reducible first | refine wg_name (by with_unfolding_all exact rfl) ?_ | refine wg_tup (by with_unfolding_all exact rfl) ?_ | refine wg_set (by with_unfolding_all exact rfl) ?_)
  | (with_reducible show WGs _ _ _ _ _; with_reducible first | refine wgs_cons ?_ | refine wgs_nil ?_)
  | (with_reducible show WO _ _ _; with_reducible first | refine wo_some ?_ | refine wo_none ?_)
  | refine ⟨_, argD5, ?_⟩
  | refine ⟨_, argD6, ?_⟩
  | refine ⟨_, argD7, ?_⟩
  | refine ⟨_, argD9, ?_⟩
  | with_reducible refine iteT ?_
  | with_reducible refine iteF ?_
  | with_reducible refine ⟨_, frz_per, ?_⟩
  | with_reducible refine ⟨_, frz_own, ?_⟩
  | refine ⟨_, rfl, ?_⟩
  | refine ⟨_, argD1, ?_⟩
  | refine ⟨_, argD2, ?_⟩
  | refine ⟨_, argD0, ?_⟩
  | refine ⟨_, argD3, ?_⟩
  | refine ⟨_, argD4, ?_⟩
  | refine ⟨_, _, rfl, rfl, rfl, ?_⟩
  | refine ⟨_, _, _, rfl, rfl, rfl, ?_⟩
  | refine ⟨(by simp only [List.length_cons, List.length_nil]; decide), ?_⟩
  | refine ⟨rfl, nd1, ?_⟩
  | refine ⟨rfl, nd0, ?_⟩)
local macro_rules | `(tactic| walk_at "g3") => `(tactic| first | with_reducible refine we_dnew ?_ | with_reducible refine ck_tuple ?_ | with_reducible refine we_repr ?_ | with_reducible refine we_lenSetI ?_ | with_reducible refine we_revL ?_ | with_reducible refine wt_truL ?_ | walk_at "g2")
def placeB (n : Nat) : PyData → Bool
  | .int i => decide (0 ≤ i) && decide (i < n)
  | _ => false
abbrev F_Web_neighbours (a : Ad) : Fw := fun gs kk xx => ∃ (n : Nat) (ts : List (Int × Int)) (d : PyData), gs = [per (objP a.C_Web (webF n ts)), dat d] ∧ n < 100000 ∧ Valid n ts ∧
  (∀ w : Nat, d = .int w → w < n → kk (own ((nb ts w).map .int)) [none, none]) ∧ (placeB n d = false → xx (.ref a.C_InvalidPlace) [none, none])
abbrev sp_Web_neighbours (K : PySem.W.Frag) (a : Ad) : Sp := SpG 2 (F_Web_neighbours a)
end G

namespace G
open PySem L2
local macro_rules | `(tactic| walk_at "g1") => `(tactic| first
  | (with_reducible show WE _ _ _; with_reducible first | refine we_var (by with_unfolding_all exact rfl) ?_ | (show WE (tOp _ _ _) _ _; first | refine we_ixS (by with_unfolding_all exact rfl) ?_ | refine we_ixScr (by with_unfolding_all exact rfl) ?_ | refine we_inS (by with_unfolding_all exact rfl) ?_ | refine we_notInS (by with_unfolding_all exact rfl) ?_ | refine we_eqS (by with_unfolding_all exact rfl) ?_ | refine we_neS (by with_unfolding_all exact rfl) ?_ | refine we_opK ?_) | (show WE (tCB _ _) _ _; first | refine we_lenS' (by with_unfolding_all exact rfl) ?_ | refine we_lenScr (by with_unfolding_all exact rfl) ?_ | refine we_cbK ?_) | refine we_int ?_ | refine we_bl ?_ | refine we_non ?_ | refine we_str ?_ | refine we_neg ?_ | refine we_not ?_ | refine we_and ?_ | refine we_or ?_ | refine we_if ?_ | refine we_tup ?_ | refine we_lst ?_ | refine we_call ?_ | refine we_mt (by with_unfolding_all exact rfl) ?_)
  | (with_reducible show WS _ _ _ _; with_reducible first | refine ws_seqA ?_ | refine ws_seqD ?_ | refine ws_asg (by with_unfolding_all exact rfl) ?_ | refine ws_asgG ?_ | refine ws_if ?_ | refine ws_ret ?_ | refine ws_drop ?_ | refine ws_next ?_ | refine ws_retN ?_)
  | (with_reducible show WT _ _ _; with_reducible first | refine wt_test ?_ | refine wt_B ?_ | refine wt_not ?_ | refine wt_and ?_ | refine wt_or ?_ | refine wt_yes ?_)
  | (with_reducible show WA _ _ _; with_reducible first | refine wa_nil ?_ | refine wa_cons (wq_of (we_var (by with_unfolding_all exact rfl) ?_)) | refine wa_slotU (by with_unfolding_all exact rfl) ?_ | refine wa_cons ?_)
  | (with_reducible show OpK _ _ _ _ _; with_reducible first | refine ok_plusI ?_ | refine ok_sub ?_ | refine ok_lt ?_ | refine ok_le ?_ | refine ok_gt ?_ | refine ok_ge ?_ | refine ok_eqI ?_ | refine ok_neI ?_ | refine ok_mod (by first | assumption | decide | omega) ?_ | refine ok_ixL (by with_unfolding_all exact rfl) ?_)
  | (with_reducible show CbK _ _ _ _; with_reducible first | refine ck_lenL ?_ | refine ck_lenT ?_ | refine ck_int ?_ | refine ck_intB ?_ | refine ck_max ?_ | refine ck_min ?_ | refine ck_list ?_)
  | with_reducible refine wq_of ?_
  | (with_reducible show WG _ _ _ _ _; with_reducible first | refine wg_name (by with_unfolding_all exact rfl) ?_ | refine wg_tup (by with_unfolding_all exact rfl) ?_ | refine wg_set (by with_unfolding_all exact rfl) ?_)
  | (with_reducible show WGs _ _ _ _ _; with_reducible first | refine wgs_cons ?_ | refine wgs_nil ?_)
  | with_reducible refine iteT ?_
  | with_reducible refine iteF ?_
  | with_reducible refine ⟨_, frz_per, ?_⟩
  | with_reducible refine ⟨_, frz_own, ?_⟩
  | refine ⟨_, rfl, ?_⟩
  | refine ⟨_, argD1, ?_⟩
  | refine ⟨_, argD2, ?_⟩
  | refine ⟨_, argD0, ?_⟩
  | refine ⟨_, argD3, ?_⟩
  | refine ⟨_, argD4, ?_⟩
  | refine ⟨_, _, rfl, rfl, rfl, ?_⟩
  | refine ⟨_, _, _, rfl, rfl, rfl, ?_⟩
  | refine ⟨(by simp only [List.length_cons, List.length_nil]; decide), ?_⟩
  | refine ⟨rfl, nd1, ?_⟩
  | refine ⟨rfl, nd0, ?_⟩)
local macro_rules | `(tactic| walk_at "go") => `(tactic| repeat walk_at "g1")
local macro_rules | `(tactic| walk_at "g2") => `(tactic| first
  | (with_reducible show WE _ _ _; with_reducible first | refine we_var (by with_unfolding_all exact rfl) ?_ | (show WE (tOp _ _ _) _ _; first | refine we_notN ?_ | refine we_ixS (by with_unfolding_all exact rfl) ?_ | refine we_ixScr (by with_unfolding_all exact rfl) ?_ | refine we_inS (by with_unfolding_all exact rfl) ?_ | refine we_notInS (by with_unfolding_all exact rfl) ?_ | refine we_eqS (by with_unfolding_all exact rfl) ?_ | refine we_neS (by with_unfolding_all exact rfl) ?_ | refine we_opK ?_) | (show WE (tCB _ _) _ _; first | refine we_isInt ?_ | refine we_isBl ?_ | refine we_isLst ?_ | refine we_isTup ?_ | refine we_lenO (by with_unfolding_all exact rfl) ?_ | refine we_lenS' (by with_unfolding_all exact rfl) ?_ | refine we_lenScr (by with_unfolding_all exact rfl) ?_ | refine we_cbK ?_) | refine we_chain ?_ | refine we_slice ?_ | refine we_int ?_ | refine we_bl ?_ | refine we_non ?_ | refine we_str ?_ | refine we_neg ?_ | refine we_not ?_ | refine we_and ?_ | refine we_or ?_ | refine we_if ?_ | refine we_tup ?_ | refine we_lst ?_ | refine we_call ?_ | refine we_mt (by with_unfolding_all exact rfl) ?_)
  | (with_reducible show WS _ _ _ _; with_reducible first | refine ws_seqA ?_ | refine ws_seqD ?_ | refine ws_asg (by with_unfolding_all exact rfl) ?_ | refine ws_asgG ?_ | refine ws_if ?_ | refine ws_ret ?_ | refine ws_drop ?_ | refine ws_next ?_ | refine ws_retN ?_)
  | (with_reducible show WT _ _ _; with_reducible first | refine wt_test ?_ | refine wt_B ?_ | refine wt_not ?_ | refine wt_and ?_ | refine wt_or ?_ | refine wt_yes ?_)
  | (with_reducible show WA _ _ _; with_reducible first | refine wa_nil ?_ | refine wa_cons (wq_of (we_var (by with_unfolding_all exact rfl) ?_)) | refine wa_slotU (by with_unfolding_all exact rfl) ?_ | refine wa_cons ?_)
  | (with_reducible show OpK _ _ _ _ _; with_reducible first | refine ok_isB ?_ | refine ok_notB ?_ | refine ok_plusI ?_ | refine ok_sub ?_ | refine ok_lt ?_ | refine ok_le ?_ | refine ok_gt ?_ | refine ok_ge ?_ | refine ok_eqI ?_ | refine ok_neI ?_ | refine ok_mod (by first | assumption | decide | omega) ?_ | refine ok_ixL (by with_unfolding_all exact rfl) ?_)
  | (with_reducible show CbK _ _ _ _; with_reducible first | refine ck_lenL ?_ | refine ck_lenT ?_ | refine ck_int ?_ | refine ck_intB ?_ | refine ck_max ?_ | refine ck_min ?_ | refine ck_list ?_)
  | with_reducible refine wq_of ?_
  | (with_reducible show WG _ _ _ _ _; with_reducible first | refine wg_name (by with_unfolding_all exact rfl) ?_ | refine wg_tup (by with_unfolding_all exact rfl) ?_ | refine wg_set (by with_unfolding_all exact rfl) ?_)
  | (with_reducible show WGs _ _ _ _ _; with_reducible first | refine wgs_cons ?_ | refine wgs_nil ?_)
  | (with_reducible show WO _ _ _; with_reducible first | refine wo_some ?_ | refine wo_none ?_)
  | refine ⟨_, argD5, ?_⟩
  | refine ⟨_, argD6, ?_⟩
  | refine ⟨_, argD7, ?_⟩
  | refine ⟨_, argD9, ?_⟩
  | with_reducible refine iteT ?_
  | with_reducible refine iteF ?_
  | with_reducible refine ⟨_, frz_per, ?_⟩
  | with_reducible refine ⟨_, frz_own, ?_⟩
  | refine ⟨_, rfl, ?_⟩
  | refine ⟨_, argD1, ?_⟩
  | refine ⟨_, argD2, ?_⟩
  | refine ⟨_, argD0, ?_⟩
  | refine ⟨_, argD3, ?_⟩
  | refine ⟨_, argD4, ?_⟩
  | refine ⟨_, _, rfl, rfl, rfl, ?_⟩
  | refine ⟨_, _, _, rfl, rfl, rfl, ?_⟩
  | refine ⟨(by simp only [List.length_cons, List.length_nil]; decide), ?_⟩
  | refine ⟨rfl, nd1, ?_⟩
  | refine ⟨rfl, nd0, ?_⟩)
local macro_rules | `(tactic| walk_at "w") => `(tactic| first
  | (with_reducible show WE _ _ _; with_reducible first | refine we_var (by with_unfolding_all exact rfl) ?_ | refine we_varF (by with_unfolding_all exact rfl) frz_own ?_ | (show WE (tOp _ _ _) _ _; first | refine we_isNd ?_ | refine we_notNd ?_ | refine we_notN ?_ | refine we_ixS (by with_unfolding_all exact rfl) ?_ | refine we_ixScr (by with_unfolding_all exact rfl) ?_ | refine we_inS (by with_unfolding_all exact rfl) ?_ | refine we_notInS (by with_unfolding_all exact rfl) ?_ | refine we_eqS (by with_unfolding_all exact rfl) ?_ | refine we_neS (by with_unfolding_all exact rfl) ?_ | refine we_opK ?_) | (show WE (tCB _ _) _ _; first | refine we_repr ?_ | refine we_isInt ?_ | refine we_isBl ?_ | refine we_isLst ?_ | refine we_isTup ?_ | refine we_lenO (by with_unfolding_all exact rfl) ?_ | refine we_lenS' (by with_unfolding_all exact rfl) ?_ | refine we_lenScr (by with_unfolding_all exact rfl) ?_ | refine we_cbK ?_) | refine we_dnew ?_ | refine we_lenSetI ?_ | refine we_revL ?_ | refine we_chain ?_ | refine we_slice ?_ | refine we_int ?_ | refine we_bl ?_ | refine we_non ?_ | refine we_str ?_ | refine we_neg ?_ | refine we_not ?_ | refine we_and ?_ | refine we_or ?_ | refine we_if ?_ | refine we_tup ?_ | refine we_lst ?_ | refine we_call ?_ | refine we_mt (by with_unfolding_all exact rfl) ?_)
  | (with_reducible show WS _ _ _ _; with_reducible first | refine ws_seqI ?_ | refine ws_seqA ?_ | refine ws_seqD ?_ | refine ws_asg (by with_unfolding_all exact rfl) ?_ | refine ws_asgG ?_ | refine ws_if ?_ | refine ws_ret ?_ | refine ws_drop ?_ | refine ws_next ?_ | refine ws_retN ?_)
  | (with_reducible show WT _ _ _; with_reducible first | refine wt_truL ?_ | refine wt_test ?_ | refine wt_B ?_ | refine wt_not ?_ | refine wt_and ?_ | refine wt_or ?_ | refine wt_yes ?_)
  | (with_reducible show WA _ _ _; with_reducible first | refine wa_nil ?_ | refine wa_cons (wq_of (we_var (by with_unfolding_all exact rfl) ?_)) | refine wa_slotU (by with_unfolding_all exact rfl) ?_ | refine wa_cons ?_)
  | (with_reducible show OpK _ _ _ _ _; with_reducible first | refine ok_neR ?_ | refine ok_eqR ?_ | refine ok_isB ?_ | refine ok_notB ?_ | refine ok_plusI ?_ | refine ok_sub ?_ | refine ok_lt ?_ | refine ok_le ?_ | refine ok_gt ?_ | refine ok_ge ?_ | refine ok_eqI ?_ | refine ok_neI ?_ | refine ok_mod (by first | assumption | decide | omega) ?_ | refine ok_ixL (by with_unfolding_all exact rfl) ?_)
  | (with_reducible show CbK _ _ _ _; with_reducible first | refine ck_tuple ?_ | refine ck_allF ?_ | refine ck_anyF ?_ | refine ck_abs ?_ | refine ck_sumI ?_ | refine ck_lenL ?_ | refine ck_lenT ?_ | refine ck_int ?_ | refine ck_intB ?_ | refine ck_max ?_ | refine ck_min ?_ | refine ck_list ?_)
  | with_reducible refine wq_of ?_
  | (with_reducible show WG _ _ _ _ _; with_reducible first | refine wg_name (by with_unfolding_all exact rfl) ?_ | refine wg_tup (by with_unfolding_all exact rfl) ?_ | refine wg_set (by with_unfolding_all exact rfl) ?_)
  | (with_reducible show WGs _ _ _ _ _; with_reducible first | refine wgs_cons ?_ | refine wgs_nil ?_)
  | (with_reducible show WO _ _ _; with_reducible first | refine wo_some ?_ | refine wo_none ?_)
  | refine ⟨_, argD5, ?_⟩
  | refine ⟨_, argD6, ?_⟩
  | refine ⟨_, argD7, ?_⟩
  | refine ⟨_, argD9, ?_⟩
  | with_reducible refine iteT ?_
  | with_reducible refine iteF ?_
  | with_reducible refine ⟨_, frz_per, ?_⟩
  | with_reducible refine ⟨_, frz_own, ?_⟩
  | refine ⟨_, rfl, ?_⟩
  | refine ⟨_, argD1, ?_⟩
  | refine ⟨_, argD2, ?_⟩
  | refine ⟨_, argD0, ?_⟩
  | refine ⟨_, argD3, ?_⟩
  | refine ⟨_, argD4, ?_⟩
  | refine ⟨_, _, rfl, rfl, rfl, ?_⟩
  | refine ⟨_, _, _, rfl, rfl, rfl, ?_⟩
  | refine ⟨(by simp only [List.length_cons, List.length_nil]; decide), ?_⟩
  | refine ⟨rfl, nd1, ?_⟩
  | refine ⟨rfl, nd0, ?_⟩
  | refine ⟨_, argD8, ?_⟩
  | refine ⟨_, argD10, ?_⟩)
/-! ### what is asked of a web, as rules -/
section
variable {K : PySem.W.Frag} {a : Ad} {Γ : Ga} {k : Gp → Ga → Prop} {tr : TA} {E : XK} {n : Nat} {ts : List (Int × Int)}
theorem we_lenWeb {i : Nat} (h : Γ[i]? = some (some (per (objP a.C_Web (webF n ts))))) (hn : n < 100000) (hk : k (dat (.int n)) Γ) : WE (tCB (rLenOwn a.C_Web (sp_Web_len_ K a) E) (tCons (tVar i) tNil)) Γ k := by
  have hnl : ((nearL n ts).map PyData.list).length = n := by rw [List.length_map, nearL_len]
  refine we_lenO h ⟨webF n ts, _, rfl, webF_near, _, rfl, by omega, by rw [hnl]; omega, ?_⟩
  rw [hnl]
  exact hk
theorem we_nbWeb {i : Nat} (h : Γ[i]? = some (some (per (objP a.C_Web (webF n ts))))) (hn : n < 100000) (hv : Valid n ts) (ha : WA tr Γ fun as Γ1 => ∃ w : Int, as = [.q (dP (.int w))] ∧ Γ1[i]? = some (some (per (objP a.C_Web (webF n ts)))) ∧ (0 ≤ w ∧ w < n) ∧ k (own ((nb ts w).map .int)) Γ1) :
    WE (tMeth a.C_Web "neighbours" (sp_Web_neighbours K a) [] E (tVar i) tr) Γ k := by
  refine we_meth h (webF_no (by decide +kernel) (by decide +kernel)) (ha.imp fun as Γ1 ⟨w, e, hi, ⟨h0, h1⟩, hk⟩ => ?_)
  subst e
  refine ⟨hi, rfl, rfl, n, ts, .int w, rfl, hn, hv, fun w' e hw => ?_, fun hb => ?_⟩
  · cases e
    exact hk
  · have : (decide (0 ≤ w) && decide (w < (n : Int))) = false := hb
    rw [decide_eq_true h0, decide_eq_true h1] at this
    cases this
theorem we_tiesWeb {i : Nat} (h : Γ[i]? = some (some (per (objP a.C_Web (webF n ts))))) (hk : k (own (ts.map tieD)) Γ) : WE (tProp a.C_Web (sp_Web_ties K a) [] E (tVar i)) Γ k :=
  we_prop h ⟨_, _, rfl, webF_ties, hk⟩
end
end G

namespace G
open PySem L2
local macro_rules | `(tactic| walk_at "g1") => `(tactic| first
  | (with_reducible show WE _ _ _; with_reducible first | refine we_var (by with_unfolding_all exact rfl) ?_ | (show WE (tOp _ _ _) _ _; first | refine we_ixS (by with_unfolding_all exact rfl) ?_ | refine we_ixScr (by with_unfolding_all exact rfl) ?_ | refine we_inS (by with_unfolding_all exact rfl) ?_ | refine we_notInS (by with_unfolding_all exact rfl) ?_ | refine we_eqS (by with_unfolding_all exact rfl) ?_ | refine we_neS (by with_unfolding_all exact rfl) ?_ | refine we_opK ?_) | (show WE (tCB _ _) _ _; first | refine we_lenS' (by with_unfolding_all exact rfl) ?_ | refine we_lenScr (by with_unfolding_all exact rfl) ?_ | refine we_cbK ?_) | refine we_int ?_ | refine we_bl ?_ | refine we_non ?_ | refine we_str ?_ | refine we_neg ?_ | refine we_not ?_ | refine we_and ?_ | refine we_or ?_ | refine we_if ?_ | refine we_tup ?_ | refine we_lst ?_ | refine we_call ?_ | refine we_mt (by with_unfolding_all exact rfl) ?_)
  | (with_reducible show WS _ _ _ _; with_reducible first | refine ws_seqA ?_ | refine ws_seqD ?_ | refine ws_asg (by with_unfolding_all exact rfl) ?_ | refine ws_asgG ?_ | refine ws_if ?_ | refine ws_ret ?_ | refine ws_drop ?_ | refine ws_next ?_ | refine ws_retN ?_)
  | (with_reducible show WT _ _ _; with_reducible first | refine wt_test ?_ | refine wt_B ?_ | refine wt_not ?_ | refine wt_and ?_ | refine wt_or ?_ | refine wt_yes ?_)
  | (with_reducible show WA _ _ _; with_reducible first | refine wa_nil ?_ | refine wa_cons (wq_of (we_var (by with_unfolding_all exact rfl) ?_)) | refine wa_slotU (by with_unfolding_all exact rfl) ?_ | refine wa_cons ?_)
  | (with_reducible show OpK _ _ _ _ _; with_reducible first | refine ok_plusI ?_ | refine ok_sub ?_ | refine ok_lt ?_ | refine ok_le ?_ | refine ok_gt ?_ | refine ok_ge ?_ | refine ok_eqI ?_ | refine ok_neI ?_ | refine ok_mod (by first | assumption | decide | omega) ?_ | refine ok_ixL (by with_unfolding_all exact rfl) ?_)
  | (with_reducible show CbK _ _ _ _; with_reducible first | refine ck_lenL ?_ | refine ck_lenT ?_ | refine ck_int ?_ | refine ck_intB ?_ | refine ck_max ?_ | refine ck_min ?_ | refine ck_list ?_)
  | with_reducible refine wq_of ?_
  | (with_reducible show WG _ _ _ _ _; with_reducible first | refine wg_name (by with_unfolding_all exact rfl) ?_ | refine wg_tup (by with_unfolding_all exact rfl) ?_ | refine wg_set (by with_unfolding_all exact rfl) ?_)
  | (with_reducible show WGs _ _ _ _ _; with_reducible first | refine wgs_cons ?_ | refine wgs_nil ?_)
  | with_reducible refine iteT ?_
  | with_reducible refine iteF ?_
  | with_reducible refine ⟨_, frz_per, ?_⟩
  | with_reducible refine ⟨_, frz_own, ?_⟩
  | refine ⟨_, rfl, ?_⟩
  | refine ⟨_, argD1, ?_⟩
  | refine ⟨_, argD2, ?_⟩
  | refine ⟨_, argD0, ?_⟩
  | refine ⟨_, argD3, ?_⟩
  | refine ⟨_, argD4, ?_⟩
  | refine ⟨_, _, rfl, rfl, rfl, ?_⟩
  | refine ⟨_, _, _, rfl, rfl, rfl, ?_⟩
  | refine ⟨(by simp only [List.length_cons, List.length_nil]; decide), ?_⟩
  | refine ⟨rfl, nd1, ?_⟩
  | refine ⟨rfl, nd0, ?_⟩)
local macro_rules | `(tactic| walk_at "go") => `(tactic| repeat walk_at "g1")
local macro_rules | `(tactic| walk_at "g2") => `(tactic| first
  | (with_reducible show WE _ _ _; with_reducible first | refine we_var (by with_unfolding_all exact rfl) ?_ | (show WE (tOp _ _ _) _ _; first | refine we_notN ?_ | refine we_ixS (by with_unfolding_all exact rfl) ?_ | refine we_ixScr (by with_unfolding_all exact rfl) ?_ | refine we_inS (by with_unfolding_all exact rfl) ?_ | refine we_notInS (by with_unfolding_all exact rfl) ?_ | refine we_eqS (by with_unfolding_all exact rfl) ?_ | refine we_neS (by with_unfolding_all exact rfl) ?_ | refine we_opK ?_) | (show WE (tCB _ _) _ _; first | refine we_isInt ?_ | refine we_isBl ?_ | refine we_isLst ?_ | refine we_isTup ?_ | refine we_lenO (by with_unfolding_all exact rfl) ?_ | refine we_lenS' (by with_unfolding_all exact rfl) ?_ | refine we_lenScr (by with_unfolding_all exact rfl) ?_ | refine we_cbK ?_) | refine we_chain ?_ | refine we_slice ?_ | refine we_int ?_ | refine we_bl ?_ | refine we_non ?_ | refine we_str ?_ | refine we_neg ?_ | refine we_not ?_ | refine we_and ?_ | refine we_or ?_ | refine we_if ?_ | refine we_tup ?_ | refine we_lst ?_ | refine we_call ?_ | refine we_mt (by with_unfolding_all exact rfl) ?_)
  | (with_reducible show WS _ _ _ _; with_reducible first | refine ws_seqA ?_ | refine ws_seqD ?_ | refine ws_asg (by with_unfolding_all exact rfl) ?_ | refine ws_asgG ?_ | refine ws_if ?_ | refine ws_ret ?_ | refine ws_drop ?_ | refine ws_next ?_ | refine ws_retN ?_)
  | (with_reducible show WT _ _ _; with_reducible first | refine wt_test ?_ | refine wt_B ?_ | refine wt_not ?_ | refine wt_and ?_ | refine wt_or ?_ | refine wt_yes ?_)
  | (with_reducible show WA _ _ _; with_reducible first | refine wa_nil ?_ | refine wa_cons (wq_of (we_var (by with_unfolding_all exact rfl) ?_)) | refine wa_slotU (by with_unfolding_all exact rfl) ?_ | refine wa_cons ?_)
  | (with_reducible show OpK _ _ _ _ _; with_reducible first | refine ok_isB ?_ | refine ok_notB ?_ | refine ok_plusI ?_ | refine ok_sub ?_ | refine ok_lt ?_ | refine ok_le ?_ | refine ok_gt ?_ | refine ok_ge ?_ | refine ok_eqI ?_ | refine ok_neI ?_ | refine ok_mod (by first | assumption | decide | omega) ?_ | refine ok_ixL (by with_unfolding_all exact rfl) ?_)
  | (with_reducible show CbK _ _ _ _; with_reducible first | refine ck_lenL ?_ | refine ck_lenT ?_ | refine ck_int ?_ | refine ck_intB ?_ | refine ck_max ?_ | refine ck_min ?_ | refine ck_list ?_)
  | with_reducible refine wq_of ?_
  | (with_reducible show WG _ _ _ _ _; with_reducible first | refine wg_name (by with_unfolding_all exact rfl) ?_ | refine wg_tup (by with_unfolding_all exact rfl) ?_ | refine wg_set (by with_unfolding_all exact rfl) ?_)
  | (with_reducible show WGs _ _ _ _ _; with_reducible first | refine wgs_cons ?_ | refine wgs_nil ?_)
  | (with_reducible show WO _ _ _; with_reducible first | refine wo_some ?_ | refine wo_none ?_)
  | refine ⟨_, argD5, ?_⟩
  | refine ⟨_, argD6, ?_⟩
  | refine ⟨_, argD7, ?_⟩
  | refine ⟨_, argD9, ?_⟩
  | with_reducible refine iteT ?_
  | with_reducible refine iteF ?_
  | with_reducible refine ⟨_, frz_per, ?_⟩
  | with_reducible refine ⟨_, frz_own, ?_⟩
  | refine ⟨_, rfl, ?_⟩
  | refine ⟨_, argD1, ?_⟩
  | refine ⟨_, argD2, ?_⟩
  | refine ⟨_, argD0, ?_⟩
  | refine ⟨_, argD3, ?_⟩
  | refine ⟨_, argD4, ?_⟩
  | refine ⟨_, _, rfl, rfl, rfl, ?_⟩
  | refine ⟨_, _, _, rfl, rfl, rfl, ?_⟩
  | refine ⟨(by simp only [List.length_cons, List.length_nil]; decide), ?_⟩
  | refine ⟨rfl, nd1, ?_⟩
  | refine ⟨rfl, nd0, ?_⟩)
local macro_rules | `(tactic| walk_at "w") => `(tactic| first
  | (with_reducible show WE _ _ _; with_reducible first | refine we_var (by with_unfolding_all exact rfl) ?_ | refine we_varF (by with_unfolding_all exact rfl) frz_own ?_ | (show WE (tOp _ _ _) _ _; first | refine we_isNd ?_ | refine we_notNd ?_ | refine we_notN ?_ | refine we_ixS (by with_unfolding_all exact rfl) ?_ | refine we_ixScr (by with_unfolding_all exact rfl) ?_ | refine we_inS (by with_unfolding_all exact rfl) ?_ | refine we_notInS (by with_unfolding_all exact rfl) ?_ | refine we_eqS (by with_unfolding_all exact rfl) ?_ | refine we_neS (by with_unfolding_all exact rfl) ?_ | refine we_opK ?_) | (show WE (tCB _ _) _ _; first | refine we_repr ?_ | refine we_isInt ?_ | refine we_isBl ?_ | refine we_isLst ?_ | refine we_isTup ?_ | refine we_lenO (by with_unfolding_all exact rfl) ?_ | refine we_lenS' (by with_unfolding_all exact rfl) ?_ | refine we_lenScr (by with_unfolding_all exact rfl) ?_ | refine we_cbK ?_) | refine we_dnew ?_ | refine we_lenSetI ?_ | refine we_revL ?_ | refine we_chain ?_ | refine we_slice ?_ | refine we_int ?_ | refine we_bl ?_ | refine we_non ?_ | refine we_str ?_ | refine we_neg ?_ | refine we_not ?_ | refine we_and ?_ | refine we_or ?_ | refine we_if ?_ | refine we_tup ?_ | refine we_lst ?_ | refine we_call ?_ | refine we_mt (by with_unfolding_all exact rfl) ?_)
  | (with_reducible show WS _ _ _ _; with_reducible first | refine ws_seqI ?_ | refine ws_seqA ?_ | refine ws_seqD ?_ | refine ws_asg (by with_unfolding_all exact rfl) ?_ | refine ws_asgG ?_ | refine ws_if ?_ | refine ws_ret ?_ | refine ws_drop ?_ | refine ws_next ?_ | refine ws_retN ?_)
  | (with_reducible show WT _ _ _; with_reducible first | refine wt_truL ?_ | refine wt_test ?_ | refine wt_B ?_ | refine wt_not ?_ | refine wt_and ?_ | refine wt_or ?_ | refine wt_yes ?_)
  | (with_reducible show WA _ _ _; with_reducible first | refine wa_nil ?_ | refine wa_cons (wq_of (we_var (by with_unfolding_all exact rfl) ?_)) | refine wa_slotU (by with_unfolding_all exact rfl) ?_ | refine wa_cons ?_)
  | (with_reducible show OpK _ _ _ _ _; with_reducible first | refine ok_neR ?_ | refine ok_eqR ?_ | refine ok_isB ?_ | refine ok_notB ?_ | refine ok_plusI ?_ | refine ok_sub ?_ | refine ok_lt ?_ | refine ok_le ?_ | refine ok_gt ?_ | refine ok_ge ?_ | refine ok_eqI ?_ | refine ok_neI ?_ | refine ok_mod (by first | assumption | decide | omega) ?_ | refine ok_ixL (by with_unfolding_all exact rfl) ?_)
  | (with_reducible show CbK _ _ _ _; with_reducible first | refine ck_tuple ?_ | refine ck_allF ?_ | refine ck_anyF ?_ | refine ck_abs ?_ | refine ck_sumI ?_ | refine ck_lenL ?_ | refine ck_lenT ?_ | refine ck_int ?_ | refine ck_intB ?_ | refine ck_max ?_ | refine ck_min ?_ | refine ck_list ?_)
  | with_reducible refine wq_of ?_
  | (with_reducible show WG _ _ _ _ _; with_reducible first | refine wg_name (by with_unfolding_all exact rfl) ?_ | refine wg_tup (by with_unfolding_all exact rfl) ?_ | refine wg_set (by with_unfolding_all exact rfl) ?_)
  | (with_reducible show WGs _ _ _ _ _; with_reducible first | refine wgs_cons ?_ | refine wgs_nil ?_)
  | (with_reducible show WO _ _ _; with_reducible first | refine wo_some ?_ | refine wo_none ?_)
  | refine ⟨_, argD5, ?_⟩
  | refine ⟨_, argD6, ?_⟩
  | refine ⟨_, argD7, ?_⟩
  | refine ⟨_, argD9, ?_⟩
  | with_reducible refine iteT ?_
  | with_reducible refine iteF ?_
  | with_reducible refine ⟨_, frz_per, ?_⟩
  | with_reducible refine ⟨_, frz_own, ?_⟩
  | refine ⟨_, rfl, ?_⟩
  | refine ⟨_, argD1, ?_⟩
  | refine ⟨_, argD2, ?_⟩
  | refine ⟨_, argD0, ?_⟩
  | refine ⟨_, argD3, ?_⟩
  | refine ⟨_, argD4, ?_⟩
  | refine ⟨_, _, rfl, rfl, rfl, ?_⟩
  | refine ⟨_, _, _, rfl, rfl, rfl, ?_⟩
  | refine ⟨(by simp only [List.length_cons, List.length_nil]; decide), ?_⟩
  | refine ⟨rfl, nd1, ?_⟩
  | refine ⟨rfl, nd0, ?_⟩
  | refine ⟨_, argD8, ?_⟩
  | refine ⟨_, argD10, ?_⟩)
local macro_rules | `(tactic| walk_at "v") => `(tactic| first
  | (with_reducible show WE _ _ _; with_reducible first | refine we_var (by with_unfolding_all exact rfl) ?_ | refine we_varF (by with_unfolding_all exact rfl) frz_own ?_ | (show WE (tOp _ _ _) _ _; first | refine we_isNd ?_ | refine we_notNd ?_ | refine we_notN ?_ | refine we_ixS (by with_unfolding_all exact rfl) ?_ | refine we_ixScr (by with_unfolding_all exact rfl) ?_ | refine we_inS (by with_unfolding_all exact rfl) ?_ | refine we_notInS (by with_unfolding_all exact rfl) ?_ | refine we_eqS (by with_unfolding_all exact rfl) ?_ | refine we_neS (by with_unfolding_all exact rfl) ?_ | refine we_opK ?_) | (show WE (tCB _ _) _ _; first | refine we_repr ?_ | refine we_lenWeb (by with_unfolding_all exact rfl) (by assumption) ?_ | refine we_isInt ?_ | refine we_isBl ?_ | refine we_isLst ?_ | refine we_isTup ?_ | refine we_lenO (by with_unfolding_all exact rfl) ?_ | refine we_lenS' (by with_unfolding_all exact rfl) ?_ | refine we_lenScr (by with_unfolding_all exact rfl) ?_ | refine we_cbK ?_) | refine we_dnew ?_ | refine we_lenSetI ?_ | refine we_revL ?_ | refine we_nbWeb (by with_unfolding_all exact rfl) (by assumption) (by assumption) ?_ | refine we_tiesWeb (by with_unfolding_all exact rfl) ?_ | refine we_chain ?_ | refine we_slice ?_ | refine we_int ?_ | refine we_bl ?_ | refine we_non ?_ | refine we_str ?_ | refine we_neg ?_ | refine we_not ?_ | refine we_and ?_ | refine we_or ?_ | refine we_if ?_ | refine we_tup ?_ | refine we_lst ?_ | refine we_call ?_ | refine we_mt (by with_unfolding_all exact rfl) ?_)
  | (with_reducible show WS _ _ _ _; with_reducible first | refine ws_seqI ?_ | refine ws_seqA ?_ | refine ws_seqD ?_ | refine ws_asg (by with_unfolding_all exact rfl) ?_ | refine ws_asgG ?_ | refine ws_if ?_ | refine ws_ret ?_ | refine ws_drop ?_ | refine ws_next ?_ | refine ws_retN ?_)
  | (with_reducible show WT _ _ _; with_reducible first | refine wt_truL ?_ | refine wt_test ?_ | refine wt_B ?_ | refine wt_not ?_ | refine wt_and ?_ | refine wt_or ?_ | refine wt_yes ?_)
  | (with_reducible show WA _ _ _; with_reducible first | refine wa_nil ?_ | refine wa_cons (wq_of (we_var (by with_unfolding_all exact rfl) ?_)) | refine wa_slotU (by with_unfolding_all exact rfl) ?_ | refine wa_cons ?_)
  | (with_reducible show OpK _ _ _ _ _; with_reducible first | refine ok_neR ?_ | refine ok_eqR ?_ | refine ok_isB ?_ | refine ok_notB ?_ | refine ok_plusI ?_ | refine ok_sub ?_ | refine ok_lt ?_ | refine ok_le ?_ | refine ok_gt ?_ | refine ok_ge ?_ | refine ok_eqI ?_ | refine ok_neI ?_ | refine ok_mod (by first | assumption | decide | omega) ?_ | refine ok_ixL (by with_unfolding_all exact rfl) ?_)
  | (with_reducible show CbK _ _ _ _; with_reducible first | refine ck_tuple ?_ | refine ck_allF ?_ | refine ck_anyF ?_ | refine ck_abs ?_ | refine ck_sumI ?_ | refine ck_lenL ?_ | refine ck_lenT ?_ | refine ck_int ?_ | refine ck_intB ?_ | refine ck_max ?_ | refine ck_min ?_ | refine ck_list ?_)
  | with_reducible refine wq_of ?_
  | (with_reducible show WG _ _ _ _ _; with_reducible first | refine wg_name (by with_unfolding_all exact rfl) ?_ | refine wg_tup (by with_unfolding_all exact rfl) ?_ | refine wg_set (by with_unfolding_all exact rfl) ?_)
  | (with_reducible show WGs _ _ _ _ _; with_reducible first | refine wgs_cons ?_ | refine wgs_nil ?_)
  | (with_reducible show WO _ _ _; with_reducible first | refine wo_some ?_ | refine wo_none ?_)
  | refine ⟨_, argD5, ?_⟩
  | refine ⟨_, argD6, ?_⟩
  | refine ⟨_, argD7, ?_⟩
  | refine ⟨_, argD9, ?_⟩
  | with_reducible refine iteT ?_
  | with_reducible refine iteF ?_
  | with_reducible refine ⟨_, frz_per, ?_⟩
  | with_reducible refine ⟨_, frz_own, ?_⟩
  | refine ⟨_, rfl, ?_⟩
  | refine ⟨_, argD1, ?_⟩
  | refine ⟨_, argD2, ?_⟩
  | refine ⟨_, argD0, ?_⟩
  | refine ⟨_, argD3, ?_⟩
  | refine ⟨_, argD4, ?_⟩
  | refine ⟨_, _, rfl, rfl, rfl, ?_⟩
  | refine ⟨_, _, _, rfl, rfl, rfl, ?_⟩
  | refine ⟨(by simp only [List.length_cons, List.length_nil]; decide), ?_⟩
  | refine ⟨rfl, nd1, ?_⟩
  | refine ⟨rfl, nd0, ?_⟩
  | refine ⟨_, argD8, ?_⟩
  | refine ⟨_, argD10, ?_⟩)
/-! ### what judges rows of forcings -/
def EntOk (n : Nat) (e : Int × Option Int) : Prop := 0 ≤ e.1 ∧ e.1 < n
end G

namespace G
open PySem L2
local macro_rules | `(tactic| walk_at "g1") => `(tactic| first
  | (with_reducible show WE _ _ _; with_reducible first | refine we_var (by with_unfolding_all exact rfl) ?_ | (show WE (tOp _ _ _) _ _; first | refine we_ixS (by with_unfolding_all exact rfl) ?_ | refine we_ixScr (by with_unfolding_all exact rfl) ?_ | refine we_inS (by with_unfolding_all exact rfl) ?_ | refine we_notInS (by with_unfolding_all exact rfl) ?_ | refine we_eqS (by with_unfolding_all exact rfl) ?_ | refine we_neS (by with_unfolding_all exact rfl) ?_ | refine we_opK ?_) | (show WE (tCB _ _) _ _; first | refine we_lenS' (by with_unfolding_all exact rfl) ?_ | refine we_lenScr (by with_unfolding_all exact rfl) ?_ | refine we_cbK ?_) | refine we_int ?_ | refine we_bl ?_ | refine we_non ?_ | refine we_str ?_ | refine we_neg ?_ | refine we_not ?_ | refine we_and ?_ | refine we_or ?_ | refine we_if ?_ | refine we_tup ?_ | refine we_lst ?_ | refine we_call ?_ | refine we_mt (by with_unfolding_all exact rfl) ?_)
  | (with_reducible show WS _ _ _ _; with_reducible first | refine ws_seqA ?_ | refine ws_seqD ?_ | refine ws_asg (by with_unfolding_all exact rfl) ?_ | refine ws_asgG ?_ | refine ws_if ?_ | refine ws_ret ?_ | refine ws_drop ?_ | refine ws_next ?_ | refine ws_retN ?_)
  | (with_reducible show WT _ _ _; with_reducible first | refine wt_test ?_ | refine wt_B ?_ | refine wt_not ?_ | refine wt_and ?_ | refine wt_or ?_ | refine wt_yes ?_)
  | (with_reducible show WA _ _ _; with_reducible first | refine wa_nil ?_ | refine wa_cons (wq_of (we_var (by with_unfolding_all exact rfl) ?_)) | refine wa_slotU (by with_unfolding_all exact rfl) ?_ | refine wa_cons ?_)
  | (with_reducible show OpK _ _ _ _ _; with_reducible first | refine ok_plusI ?_ | refine ok_sub ?_ | refine ok_lt ?_ | refine ok_le ?_ | refine ok_gt ?_ | refine ok_ge ?_ | refine ok_eqI ?_ | refine ok_neI ?_ | refine ok_mod (by first | assumption | decide | omega) ?_ | refine ok_ixL (by with_unfolding_all exact rfl) ?_)
  | (with_reducible show CbK _ _ _ _; with_reducible first | refine ck_lenL ?_ | refine ck_lenT ?_ | refine ck_int ?_ | refine ck_intB ?_ | refine ck_max ?_ | refine ck_min ?_ | refine ck_list ?_)
  | with_reducible refine wq_of ?_
  | (with_reducible show WG _ _ _ _ _; with_reducible first | refine wg_name (by with_unfolding_all exact rfl) ?_ | refine wg_tup (by with_unfolding_all exact rfl) ?_ | refine wg_set (by with_unfolding_all exact rfl) ?_)
  | (with_reducible show WGs _ _ _ _ _; with_reducible first | refine wgs_cons ?_ | refine wgs_nil ?_)
  | with_reducible refine iteT ?_
  | with_reducible refine iteF ?_
  | with_reducible refine ⟨_, frz_per, ?_⟩
  | with_reducible refine ⟨_, frz_own, ?_⟩
  | refine ⟨_, rfl, ?_⟩
  | refine ⟨_, argD1, ?_⟩
  | refine ⟨_, argD2, ?_⟩
  | refine ⟨_, argD0, ?_⟩
  | refine ⟨_, argD3, ?_⟩
  | refine ⟨_, argD4, ?_⟩
  | refine ⟨_, _, rfl, rfl, rfl, ?_⟩
  | refine ⟨_, _, _, rfl, rfl, rfl, ?_⟩
  | refine ⟨(by simp only [List.length_cons, List.length_nil]; decide), ?_⟩
  | refine ⟨rfl, nd1, ?_⟩
  | refine ⟨rfl, nd0, ?_⟩)
local macro_rules | `(tactic| walk_at "go") => `(tactic| repeat walk_at "g1")
local macro_rules | `(tactic| walk_at "g2") => `(tactic| first
  | (with_reducible show WE _ _ _; with_reducible first | refine we_var (by with_unfolding_all exact rfl) ?_ | (show WE (tOp _ _ _) _ _; first | refine we_notN ?_ | refine we_ixS (by with_unfolding_all exact rfl) ?_ | refine we_ixScr (by with_unfolding_all exact rfl) ?_ | refine we_inS (by with_unfolding_all exact rfl) ?_ | refine we_notInS (by with_unfolding_all exact rfl) ?_ | refine we_eqS (by with_unfolding_all exact rfl) ?_ | refine we_neS (by with_unfolding_all exact rfl) ?_ | refine we_opK ?_) | (show WE (tCB _ _) _ _; first | refine we_isInt ?_ | refine we_isBl ?_ | refine we_isLst ?_ | refine we_isTup ?_ | refine we_lenO (by with_unfolding_all exact rfl) ?_ | refine we_lenS' (by with_unfolding_all exact rfl) ?_ | refine we_lenScr (by with_unfolding_all exact rfl) ?_ | refine we_cbK ?_) | refine we_chain ?_ | refine we_slice ?_ | refine we_int ?_ | refine we_bl ?_ | refine we_non ?_ | refine we_str ?_ | refine we_neg ?_ | refine we_not ?_ | refine we_and ?_ | refine we_or ?_ | refine we_if ?_ | refine we_tup ?_ | refine we_lst ?_ | refine we_call ?_ | refine we_mt (by with_unfolding_all exact rfl) ?_)
  | (with_reducible show WS _ _ _ _; with_reducible first | refine ws_seqA ?_ | refine ws_seqD ?_ | refine ws_asg (by with_unfolding_all exact rfl) ?_ | refine ws_asgG ?_ | refine ws_if ?_ | refine ws_ret ?_ | refine ws_drop ?_ | refine ws_next ?_ | refine ws_retN ?_)
  | (with_reducible show WT _ _ _; with_reducible first | refine wt_test ?_ | refine wt_B ?_ | refine wt_not ?_ | refine wt_and ?_ | refine wt_or ?_ | refine wt_yes ?_)
  | (with_reducible show WA _ _ _; with_reducible first | refine wa_nil ?_ | refine wa_cons (wq_of (we_var (by with_unfolding_all exact rfl) ?_)) | refine wa_slotU (by with_unfolding_all exact rfl) ?_ | refine wa_cons ?_)
  | (with_reducible show OpK _ _ _ _ _; with_reducible first | refine ok_isB ?_ | refine ok_notB ?_ | refine ok_plusI ?_ | refine ok_sub ?_ | refine ok_lt ?_ | refine ok_le ?_ | refine ok_gt ?_ | refine ok_ge ?_ | refine ok_eqI ?_ | refine ok_neI ?_ | refine ok_mod (by first | assumption | decide | omega) ?_ | refine ok_ixL (by with_unfolding_all exact rfl) ?_)
  | (with_reducible show CbK _ _ _ _; with_reducible first | refine ck_lenL ?_ | refine ck_lenT ?_ | refine ck_int ?_ | refine ck_intB ?_ | refine ck_max ?_ | refine ck_min ?_ | refine ck_list ?_)
  | with_reducible refine wq_of ?_
  | (with_reducible show WG _ _ _ _ _; with_reducible first | refine wg_name (by with_unfolding_all exact rfl) ?_ | refine wg_tup (by with_unfolding_all exact rfl) ?_ | refine wg_set (by with_unfolding_all exact rfl) ?_)
  | (with_reducible show WGs _ _ _ _ _; with_reducible first | refine wgs_cons ?_ | refine wgs_nil ?_)
  | (with_reducible show WO _ _ _; with_reducible first | refine wo_some ?_ | refine wo_none ?_)
  | refine ⟨_, argD5, ?_⟩
  | refine ⟨_, argD6, ?_⟩
  | refine ⟨_, argD7, ?_⟩
  | refine ⟨_, argD9, ?_⟩
  | with_reducible refine iteT ?_
  | with_reducible refine iteF ?_
  | with_reducible refine ⟨_, frz_per, ?_⟩
  | with_reducible refine ⟨_, frz_own, ?_⟩
  | refine ⟨_, rfl, ?_⟩
  | refine ⟨_, argD1, ?_⟩
  | refine ⟨_, argD2, ?_⟩
  | refine ⟨_, argD0, ?_⟩
  | refine ⟨_, argD3, ?_⟩
  | refine ⟨_, argD4, ?_⟩
  | refine ⟨_, _, rfl, rfl, rfl, ?_⟩
  | refine ⟨_, _, _, rfl, rfl, rfl, ?_⟩
  | refine ⟨(by simp only [List.length_cons, List.length_nil]; decide), ?_⟩
  | refine ⟨rfl, nd1, ?_⟩
  | refine ⟨rfl, nd0, ?_⟩)
local macro_rules | `(tactic| walk_at "g3") => `(tactic| first | with_reducible refine we_dnew ?_ | with_reducible refine ck_tuple ?_ | with_reducible refine we_repr ?_ | walk_at "g2")
end G

namespace G
open PySem L2
local macro_rules | `(tactic| walk_at "g1") => `(tactic| first
  | (with_reducible show WE _ _ _; with_reducible first | refine we_var (by with_unfolding_all exact rfl) ?_ | (show WE (tOp _ _ _) _ _; first | refine we_ixS (by with_unfolding_all exact rfl) ?_ | refine we_ixScr (by with_unfolding_all exact rfl) ?_ | refine we_inS (by with_unfolding_all exact rfl) ?_ | refine we_notInS (by with_unfolding_all exact rfl) ?_ | refine we_eqS (by with_unfolding_all exact rfl) ?_ | refine we_neS (by with_unfolding_all exact rfl) ?_ | refine we_opK ?_) | (show WE (tCB _ _) _ _; first | refine we_lenS' (by with_unfolding_all exact rfl) ?_ | refine we_lenScr (by with_unfolding_all exact rfl) ?_ | refine we_cbK ?_) | refine we_int ?_ | refine we_bl ?_ | refine we_non ?_ | refine we_str ?_ | refine we_neg ?_ | refine we_not ?_ | refine we_and ?_ | refine we_or ?_ | refine we_if ?_ | refine we_tup ?_ | refine we_lst ?_ | refine we_call ?_ | refine we_mt (by with_unfolding_all exact rfl) ?_)
  | (with_reducible show WS _ _ _ _; with_reducible first | refine ws_seqA ?_ | refine ws_seqD ?_ | refine ws_asg (by with_unfolding_all exact rfl) ?_ | refine ws_asgG ?_ | refine ws_if ?_ | refine ws_ret ?_ | refine ws_drop ?_ | refine ws_next ?_ | refine ws_retN ?_)
  | (with_reducible show WT _ _ _; with_reducible first | refine wt_test ?_ | refine wt_B ?_ | refine wt_not ?_ | refine wt_and ?_ | refine wt_or ?_ | refine wt_yes ?_)
  | (with_reducible show WA _ _ _; with_reducible first | refine wa_nil ?_ | refine wa_cons (wq_of (we_var (by with_unfolding_all exact rfl) ?_)) | refine wa_slotU (by with_unfolding_all exact rfl) ?_ | refine wa_cons ?_)
  | (with_reducible show OpK _ _ _ _ _; with_reducible first | refine ok_plusI ?_ | refine ok_sub ?_ | refine ok_lt ?_ | refine ok_le ?_ | refine ok_gt ?_ | refine ok_ge ?_ | refine ok_eqI ?_ | refine ok_neI ?_ | refine ok_mod (by first | assumption | decide | omega) ?_ | refine ok_ixL (by with_unfolding_all exact rfl) ?_)
  | (with_reducible show CbK _ _ _ _; with_reducible first | refine ck_lenL ?_ | refine ck_lenT ?_ | refine ck_int ?_ | refine ck_intB ?_ | refine ck_max ?_ | refine ck_min ?_ | refine ck_list ?_)
  | with_reducible refine wq_of ?_
  | (with_reducible show WG _ _ _ _ _; with_reducible first | refine wg_name (by with_unfolding_all exact rfl) ?_ | refine wg_tup (by with_unfolding_all exact rfl) ?_ | refine wg_set (by with_unfolding_all exact rfl) ?_)
  | (with_reducible show WGs _ _ _ _ _; with_reducible first | refine wgs_cons ?_ | refine wgs_nil ?_)
  | with_reducible refine iteT ?_
  | with_reducible refine iteF ?_
  | with_reducible refine ⟨_, frz_per, ?_⟩
  | with_reducible refine ⟨_, frz_own, ?_⟩
  | refine ⟨_, rfl, ?_⟩
  | refine ⟨_, argD1, ?_⟩
  | refine ⟨_, argD2, ?_⟩
  | refine ⟨_, argD0, ?_⟩
  | refine ⟨_, argD3, ?_⟩
  | refine ⟨_, argD4, ?_⟩
  | refine ⟨_, _, rfl, rfl, rfl, ?_⟩
  | refine ⟨_, _, _, rfl, rfl, rfl, ?_⟩
  | refine ⟨(by simp only [List.length_cons, List.length_nil]; decide), ?_⟩
  | refine ⟨rfl, nd1, ?_⟩
  | refine ⟨rfl, nd0, ?_⟩)
local macro_rules | `(tactic| walk_at "go") => `(tactic| repeat walk_at "g1")
local macro_rules | `(tactic| walk_at "g2") => `(tactic| first
  | (with_reducible show WE _ _ _; with_reducible first | refine we_var (by with_unfolding_all exact rfl) ?_ | (show WE (tOp _ _ _) _ _; first | refine we_notN ?_ | refine we_ixS (by with_unfolding_all exact rfl) ?_ | refine we_ixScr (by with_unfolding_all exact rfl) ?_ | refine we_inS (by with_unfolding_all exact rfl) ?_ | refine we_notInS (by with_unfolding_all exact rfl) ?_ | refine we_eqS (by with_unfolding_all exact rfl) ?_ | refine we_neS (by with_unfolding_all exact rfl) ?_ | refine we_opK ?_) | (show WE (tCB _ _) _ _; first | refine we_isInt ?_ | refine we_isBl ?_ | refine we_isLst ?_ | refine we_isTup ?_ | refine we_lenO (by with_unfolding_all exact rfl) ?_ | refine we_lenS' (by with_unfolding_all exact rfl) ?_ | refine we_lenScr (by with_unfolding_all exact rfl) ?_ | refine we_cbK ?_) | refine we_chain ?_ | refine we_slice ?_ | refine we_int ?_ | refine we_bl ?_ | refine we_non ?_ | refine we_str ?_ | refine we_neg ?_ | refine we_not ?_ | refine we_and ?_ | refine we_or ?_ | refine we_if ?_ | refine we_tup ?_ | refine we_lst ?_ | refine we_call ?_ | refine we_mt (by with_unfolding_all exact rfl) ?_)
  | (with_reducible show WS _ _ _ _; with_reducible first | refine ws_seqA ?_ | refine ws_seqD ?_ | refine ws_asg (by with_unfolding_all exact rfl) ?_ | refine ws_asgG ?_ | refine ws_if ?_ | refine ws_ret ?_ | refine ws_drop ?_ | refine ws_next ?_ | refine ws_retN ?_)
  | (with_reducible show WT _ _ _; with_reducible first | refine wt_test ?_ | refine wt_B ?_ | refine wt_not ?_ | refine wt_and ?_ | refine wt_or ?_ | refine wt_yes ?_)
  | (with_reducible show WA _ _ _; with_reducible first | refine wa_nil ?_ | refine wa_cons (wq_of (we_var (by with_unfolding_all exact rfl) ?_)) | refine wa_slotU (by with_unfolding_all exact rfl) ?_ | refine wa_cons ?_)
  | (with_reducible show OpK _ _ _ _ _; with_reducible first | refine ok_isB ?_ | refine ok_notB ?_ | refine ok_plusI ?_ | refine ok_sub ?_ | refine ok_lt ?_ | refine ok_le ?_ | refine ok_gt ?_ | refine ok_ge ?_ | refine ok_eqI ?_ | refine ok_neI ?_ | refine ok_mod (by first | assumption | decide | omega) ?_ | refine ok_ixL (by with_unfolding_all exact rfl) ?_)
  | (with_reducible show CbK _ _ _ _; with_reducible first | refine ck_lenL ?_ | refine ck_lenT ?_ | refine ck_int ?_ | refine ck_intB ?_ | refine ck_max ?_ | refine ck_min ?_ | refine ck_list ?_)
  | with_reducible refine wq_of ?_
  | (with_reducible show WG _ _ _ _ _; with_reducible first | refine wg_name (by with_unfolding_all exact rfl) ?_ | refine wg_tup (by with_unfolding_all exact rfl) ?_ | refine wg_set (by with_unfolding_all exact rfl) ?_)
  | (with_reducible show WGs _ _ _ _ _; with_reducible first | refine wgs_cons ?_ | refine wgs_nil ?_)
  | (with_reducible show WO _ _ _; with_reducible first | refine wo_some ?_ | refine wo_none ?_)
  | refine ⟨_, argD5, ?_⟩
  | refine ⟨_, argD6, ?_⟩
  | refine ⟨_, argD7, ?_⟩
  | refine ⟨_, argD9, ?_⟩
  | with_reducible refine iteT ?_
  | with_reducible refine iteF ?_
  | with_reducible refine ⟨_, frz_per, ?_⟩
  | with_reducible refine ⟨_, frz_own, ?_⟩
  | refine ⟨_, rfl, ?_⟩
  | refine ⟨_, argD1, ?_⟩
  | refine ⟨_, argD2, ?_⟩
  | refine ⟨_, argD0, ?_⟩
  | refine ⟨_, argD3, ?_⟩
  | refine ⟨_, argD4, ?_⟩
  | refine ⟨_, _, rfl, rfl, rfl, ?_⟩
  | refine ⟨_, _, _, rfl, rfl, rfl, ?_⟩
  | refine ⟨(by simp only [List.length_cons, List.length_nil]; decide), ?_⟩
  | refine ⟨rfl, nd1, ?_⟩
  | refine ⟨rfl, nd0, ?_⟩)
local macro_rules | `(tactic| walk_at "w") => `(tactic| first
  | (with_reducible show WE _ _ _; with_reducible first | refine we_var (by with_unfolding_all exact rfl) ?_ | refine we_varF (by with_unfolding_all exact rfl) frz_own ?_ | (show WE (tOp _ _ _) _ _; first | refine we_isNd ?_ | refine we_notNd ?_ | refine we_notN ?_ | refine we_ixS (by with_unfolding_all exact rfl) ?_ | refine we_ixScr (by with_unfolding_all exact rfl) ?_ | refine we_inS (by with_unfolding_all exact rfl) ?_ | refine we_notInS (by with_unfolding_all exact rfl) ?_ | refine we_eqS (by with_unfolding_all exact rfl) ?_ | refine we_neS (by with_unfolding_all exact rfl) ?_ | refine we_opK ?_) | (show WE (tCB _ _) _ _; first | refine we_repr ?_ | refine we_isInt ?_ | refine we_isBl ?_ | refine we_isLst ?_ | refine we_isTup ?_ | refine we_lenO (by with_unfolding_all exact rfl) ?_ | refine we_lenS' (by with_unfolding_all exact rfl) ?_ | refine we_lenScr (by with_unfolding_all exact rfl) ?_ | refine we_cbK ?_) | refine we_dnew ?_ | refine we_lenSetI ?_ | refine we_revL ?_ | refine we_chain ?_ | refine we_slice ?_ | refine we_int ?_ | refine we_bl ?_ | refine we_non ?_ | refine we_str ?_ | refine we_neg ?_ | refine we_not ?_ | refine we_and ?_ | refine we_or ?_ | refine we_if ?_ | refine we_tup ?_ | refine we_lst ?_ | refine we_call ?_ | refine we_mt (by with_unfolding_all exact rfl) ?_)
  | (with_reducible show WS _ _ _ _; with_reducible first | refine ws_seqI ?_ | refine ws_seqA ?_ | refine ws_seqD ?_ | refine ws_asg (by with_unfolding_all exact rfl) ?_ | refine ws_asgG ?_ | refine ws_if ?_ | refine ws_ret ?_ | refine ws_drop ?_ | refine ws_next ?_ | refine ws_retN ?_)
  | (with_reducible show WT _ _ _; with_reducible first | refine wt_truL ?_ | refine wt_test ?_ | refine wt_B ?_ | refine wt_not ?_ | refine wt_and ?_ | refine wt_or ?_ | refine wt_yes ?_)
  | (with_reducible show WA _ _ _; with_reducible first | refine wa_nil ?_ | refine wa_cons (wq_of (we_var (by with_unfolding_all exact rfl) ?_)) | refine wa_slotU (by with_unfolding_all exact rfl) ?_ | refine wa_cons ?_)
  | (with_reducible show OpK _ _ _ _ _; with_reducible first | refine ok_neR ?_ | refine ok_eqR ?_ | refine ok_isB ?_ | refine ok_notB ?_ | refine ok_plusI ?_ | refine ok_sub ?_ | refine ok_lt ?_ | refine ok_le ?_ | refine ok_gt ?_ | refine ok_ge ?_ | refine ok_eqI ?_ | refine ok_neI ?_ | refine ok_mod (by first | assumption | decide | omega) ?_ | refine ok_ixL (by with_unfolding_all exact rfl) ?_)
  | (with_reducible show CbK _ _ _ _; with_reducible first | refine ck_tuple ?_ | refine ck_allF ?_ | refine ck_anyF ?_ | refine ck_abs ?_ | refine ck_sumI ?_ | refine ck_lenL ?_ | refine ck_lenT ?_ | refine ck_int ?_ | refine ck_intB ?_ | refine ck_max ?_ | refine ck_min ?_ | refine ck_list ?_)
  | with_reducible refine wq_of ?_
  | (with_reducible show WG _ _ _ _ _; with_reducible first | refine wg_name (by with_unfolding_all exact rfl) ?_ | refine wg_tup (by with_unfolding_all exact rfl) ?_ | refine wg_set (by with_unfolding_all exact rfl) ?_)
  | (with_reducible show WGs _ _ _ _ _; with_reducible first | refine wgs_cons ?_ | refine wgs_nil ?_)
  | (with_reducible show WO _ _ _; with_reducible first | refine wo_some ?_ | refine wo_none ?_)
  | refine ⟨_, argD5, ?_⟩
  | refine ⟨_, argD6, ?_⟩
  | refine ⟨_, argD7, ?_⟩
  | refine ⟨_, argD9, ?_⟩
  | with_reducible refine iteT ?_
  | with_reducible refine iteF ?_
  | with_reducible refine ⟨_, frz_per, ?_⟩
  | with_reducible refine ⟨_, frz_own, ?_⟩
  | refine ⟨_, rfl, ?_⟩
  | refine ⟨_, argD1, ?_⟩
  | refine ⟨_, argD2, ?_⟩
  | refine ⟨_, argD0, ?_⟩
  | refine ⟨_, argD3, ?_⟩
  | refine ⟨_, argD4, ?_⟩
  | refine ⟨_, _, rfl, rfl, rfl, ?_⟩
  | refine ⟨_, _, _, rfl, rfl, rfl, ?_⟩
  | refine ⟨(by simp only [List.length_cons, List.length_nil]; decide), ?_⟩
  | refine ⟨rfl, nd1, ?_⟩
  | refine ⟨rfl, nd0, ?_⟩
  | refine ⟨_, argD8, ?_⟩
  | refine ⟨_, argD10, ?_⟩)
local macro_rules | `(tactic| walk_at "v") => `(tactic| first
  | (with_reducible show WE _ _ _; with_reducible first | refine we_var (by with_unfolding_all exact rfl) ?_ | refine we_varF (by with_unfolding_all exact rfl) frz_own ?_ | (show WE (tOp _ _ _) _ _; first | refine we_isNd ?_ | refine we_notNd ?_ | refine we_notN ?_ | refine we_ixS (by with_unfolding_all exact rfl) ?_ | refine we_ixScr (by with_unfolding_all exact rfl) ?_ | refine we_inS (by with_unfolding_all exact rfl) ?_ | refine we_notInS (by with_unfolding_all exact rfl) ?_ | refine we_eqS (by with_unfolding_all exact rfl) ?_ | refine we_neS (by with_unfolding_all exact rfl) ?_ | refine we_opK ?_) | (show WE (tCB _ _) _ _; first | refine we_repr ?_ | refine we_lenWeb (by with_unfolding_all exact rfl) (by assumption) ?_ | refine we_isInt ?_ | refine we_isBl ?_ | refine we_isLst ?_ | refine we_isTup ?_ | refine we_lenO (by with_unfolding_all exact rfl) ?_ | refine we_lenS' (by with_unfolding_all exact rfl) ?_ | refine we_lenScr (by with_unfolding_all exact rfl) ?_ | refine we_cbK ?_) | refine we_dnew ?_ | refine we_lenSetI ?_ | refine we_revL ?_ | refine we_nbWeb (by with_unfolding_all exact rfl) (by assumption) (by assumption) ?_ | refine we_tiesWeb (by with_unfolding_all exact rfl) ?_ | refine we_chain ?_ | refine we_slice ?_ | refine we_int ?_ | refine we_bl ?_ | refine we_non ?_ | refine we_str ?_ | refine we_neg ?_ | refine we_not ?_ | refine we_and ?_ | refine we_or ?_ | refine we_if ?_ | refine we_tup ?_ | refine we_lst ?_ | refine we_call ?_ | refine we_mt (by with_unfolding_all exact rfl) ?_)
  | (with_reducible show WS _ _ _ _; with_reducible first | refine ws_seqI ?_ | refine ws_seqA ?_ | refine ws_seqD ?_ | refine ws_asg (by with_unfolding_all exact rfl) ?_ | refine ws_asgG ?_ | refine ws_if ?_ | refine ws_ret ?_ | refine ws_drop ?_ | refine ws_next ?_ | refine ws_retN ?_)
  | (with_reducible show WT _ _ _; with_reducible first | refine wt_truL ?_ | refine wt_test ?_ | refine wt_B ?_ | refine wt_not ?_ | refine wt_and ?_ | refine wt_or ?_ | refine wt_yes ?_)
  | (with_reducible show WA _ _ _; with_reducible first | refine wa_nil ?_ | refine wa_cons (wq_of (we_var (by with_unfolding_all exact rfl) ?_)) | refine wa_slotU (by with_unfolding_all exact rfl) ?_ | refine wa_cons ?_)
  | (with_reducible show OpK _ _ _ _ _; with_reducible first | refine ok_neR ?_ | refine ok_eqR ?_ | refine ok_isB ?_ | refine ok_notB ?_ | refine ok_plusI ?_ | refine ok_sub ?_ | refine ok_lt ?_ | refine ok_le ?_ | refine ok_gt ?_ | refine ok_ge ?_ | refine ok_eqI ?_ | refine ok_neI ?_ | refine ok_mod (by first | assumption | decide | omega) ?_ | refine ok_ixL (by with_unfolding_all exact rfl) ?_)
  | (with_reducible show CbK _ _ _ _; with_reducible first | refine ck_tuple ?_ | refine ck_allF ?_ | refine ck_anyF ?_ | refine ck_abs ?_ | refine ck_sumI ?_ | refine ck_lenL ?_ | refine ck_lenT ?_ | refine ck_int ?_ | refine ck_intB ?_ | refine ck_max ?_ | refine ck_min ?_ | refine ck_list ?_)
  | with_reducible refine wq_of ?_
  | (with_reducible show WG _ _ _ _ _; with_reducible first | refine wg_name (by with_unfolding_all exact rfl) ?_ | refine wg_tup (by with_unfolding_all exact rfl) ?_ | refine wg_set (by with_unfolding_all exact rfl) ?_)
  | (with_reducible show WGs _ _ _ _ _; with_reducible first | refine wgs_cons ?_ | refine wgs_nil ?_)
  | (with_reducible show WO _ _ _; with_reducible first | refine wo_some ?_ | refine wo_none ?_)
  | refine ⟨_, argD5, ?_⟩
  | refine ⟨_, argD6, ?_⟩
  | refine ⟨_, argD7, ?_⟩
  | refine ⟨_, argD9, ?_⟩
  | with_reducible refine iteT ?_
  | with_reducible refine iteF ?_
  | with_reducible refine ⟨_, frz_per, ?_⟩
  | with_reducible refine ⟨_, frz_own, ?_⟩
  | refine ⟨_, rfl, ?_⟩
  | refine ⟨_, argD1, ?_⟩
  | refine ⟨_, argD2, ?_⟩
  | refine ⟨_, argD0, ?_⟩
  | refine ⟨_, argD3, ?_⟩
  | refine ⟨_, argD4, ?_⟩
  | refine ⟨_, _, rfl, rfl, rfl, ?_⟩
  | refine ⟨_, _, _, rfl, rfl, rfl, ?_⟩
  | refine ⟨(by simp only [List.length_cons, List.length_nil]; decide), ?_⟩
  | refine ⟨rfl, nd1, ?_⟩
  | refine ⟨rfl, nd0, ?_⟩
  | refine ⟨_, argD8, ?_⟩
  | refine ⟨_, argD10, ?_⟩)
local macro_rules | `(tactic| walk_at "p") => `(tactic| refine ⟨_, _, rfl, (by omega), (by first | decide | omega), (by first | decide | omega), ?_⟩)
local macro_rules | `(tactic| walk_at "n") => `(tactic| try dsimp only [back, List.set_cons_zero, List.set_cons_succ, List.map_cons, List.map_nil, List.cons_append, List.nil_append])
local macro_rules | `(tactic| walk_at "q") => `(tactic| first | with_reducible refine ws_seqP (ws_par (by with_unfolding_all exact rfl) (by with_unfolding_all exact rfl) ?_) | refine ⟨_, _, rfl, ?_⟩ | walk_at "v")
/-! ### the law's own judge of rows -/
end G

namespace G
open PySem L2
local macro_rules | `(tactic| walk_at "g1") => `(tactic| first
  | (with_reducible show WE _ _ _; with_reducible first | refine we_var (by with_unfolding_all exact rfl) ?_ | (show WE (tOp _ _ _) _ _; first | refine we_ixS (by with_unfolding_all exact rfl) ?_ | refine we_ixScr (by with_unfolding_all exact rfl) ?_ | refine we_inS (by with_unfolding_all exact rfl) ?_ | refine we_notInS (by with_unfolding_all exact rfl) ?_ | refine we_eqS (by with_unfolding_all exact rfl) ?_ | refine we_neS (by with_unfolding_all exact rfl) ?_ | refine we_opK ?_) | (show WE (tCB _ _) _ _; first | refine we_lenS' (by with_unfolding_all exact rfl) ?_ | refine we_lenScr (by with_unfolding_all exact rfl) ?_ | refine we_cbK ?_) | refine we_int ?_ | refine we_bl ?_ | refine we_non ?_ | refine we_str ?_ | refine we_neg ?_ | refine we_not ?_ | refine we_and ?_ | refine we_or ?_ | refine we_if ?_ | refine we_tup ?_ | refine we_lst ?_ | refine we_call ?_ | refine we_mt (by with_unfolding_all exact rfl) ?_)
  | (with_reducible show WS _ _ _ _; with_reducible first | refine ws_seqA ?_ | refine ws_seqD ?_ | refine ws_asg (by with_unfolding_all exact rfl) ?_ | refine ws_asgG ?_ | refine ws_if ?_ | refine ws_ret ?_ | refine ws_drop ?_ | refine ws_next ?_ | refine ws_retN ?_)
  | (with_reducible show WT _ _ _; with_reducible first | refine wt_test ?_ | refine wt_B ?_ | refine wt_not ?_ | refine wt_and ?_ | refine wt_or ?_ | refine wt_yes ?_)
  | (with_reducible show WA _ _ _; with_reducible first | refine wa_nil ?_ | refine wa_cons (wq_of (we_var (by with_unfolding_all exact rfl) ?_)) | refine wa_slotU (by with_unfolding_all exact rfl) ?_ | refine wa_cons ?_)
  | (with_reducible show OpK _ _ _ _ _; with_reducible first | refine ok_plusI ?_ | refine ok_sub ?_ | refine ok_lt ?_ | refine ok_le ?_ | refine ok_gt ?_ | refine ok_ge ?_ | refine ok_eqI ?_ | refine ok_neI ?_ | refine ok_mod (by first | assumption | decide | omega) ?_ | refine ok_ixL (by with_unfolding_all exact rfl) ?_)
  | (with_reducible show CbK _ _ _ _; with_reducible first | refine ck_lenL ?_ | refine ck_lenT ?_ | refine ck_int ?_ | refine ck_intB ?_ | refine ck_max ?_ | refine ck_min ?_ | refine ck_list ?_)
  | with_reducible refine wq_of ?_
  | (with_reducible show WG _ _ _ _ _; with_reducible first | refine wg_name (by with_unfolding_all exact rfl) ?_ | refine wg_tup (by with_unfolding_all exact rfl) ?_ | refine wg_set (by with_unfolding_all exact rfl) ?_)
  | (with_reducible show WGs _ _ _ _ _; with_reducible first | refine wgs_cons ?_ | refine wgs_nil ?_)
  | with_reducible refine iteT ?_
  | with_reducible refine iteF ?_
  | with_reducible refine ⟨_, frz_per, ?_⟩
  | with_reducible refine ⟨_, frz_own, ?_⟩
  | refine ⟨_, rfl, ?_⟩
  | refine ⟨_, argD1, ?_⟩
  | refine ⟨_, argD2, ?_⟩
  | refine ⟨_, argD0, ?_⟩
  | refine ⟨_, argD3, ?_⟩
  | refine ⟨_, argD4, ?_⟩
  | refine ⟨_, _, rfl, rfl, rfl, ?_⟩
  | refine ⟨_, _, _, rfl, rfl, rfl, ?_⟩
  | refine ⟨(by simp only [List.length_cons, List.length_nil]; decide), ?_⟩
  | refine ⟨rfl, nd1, ?_⟩
  | refine ⟨rfl, nd0, ?_⟩)
local macro_rules | `(tactic| walk_at "go") => `(tactic| repeat walk_at "g1")
local macro_rules | `(tactic| walk_at "g2") => `(tactic| first
  | (with_reducible show WE _ _ _; with_reducible first | refine we_var (by with_unfolding_all exact rfl) ?_ | (show WE (tOp _ _ _) _ _; first | refine we_notN ?_ | refine we_ixS (by with_unfolding_all exact rfl) ?_ | refine we_ixScr (by with_unfolding_all exact rfl) ?_ | refine we_inS (by with_unfolding_all exact rfl) ?_ | refine we_notInS (by with_unfolding_all exact rfl) ?_ | refine we_eqS (by with_unfolding_all exact rfl) ?_ | refine we_neS (by with_unfolding_all exact rfl) ?_ | refine we_opK ?_) | (show WE (tCB _ _) _ _; first | refine we_isInt ?_ | refine we_isBl ?_ | refine we_isLst ?_ | refine we_isTup ?_ | refine we_lenO (by with_unfolding_all exact rfl) ?_ | refine we_lenS' (by with_unfolding_all exact rfl) ?_ | refine we_lenScr (by with_unfolding_all exact rfl) ?_ | refine we_cbK ?_) | refine we_chain ?_ | refine we_slice ?_ | refine we_int ?_ | refine we_bl ?_ | refine we_non ?_ | refine we_str ?_ | refine we_neg ?_ | refine we_not ?_ | refine we_and ?_ | refine we_or ?_ | refine we_if ?_ | refine we_tup ?_ | refine we_lst ?_ | refine we_call ?_ | refine we_mt (by with_unfolding_all exact rfl) ?_)
  | (with_reducible show WS _ _ _ _; with_reducible first | refine ws_seqA ?_ | refine ws_seqD ?_ | refine ws_asg (by with_unfolding_all exact rfl) ?_ | refine ws_asgG ?_ | refine ws_if ?_ | refine ws_ret ?_ | refine ws_drop ?_ | refine ws_next ?_ | refine ws_retN ?_)
  | (with_reducible show WT _ _ _; with_reducible first | refine wt_test ?_ | refine wt_B ?_ | refine wt_not ?_ | refine wt_and ?_ | refine wt_or ?_ | refine wt_yes ?_)
  | (with_reducible show WA _ _ _; with_reducible first | refine wa_nil ?_ | refine wa_cons (wq_of (we_var (by with_unfolding_all exact rfl) ?_)) | refine wa_slotU (by with_unfolding_all exact rfl) ?_ | refine wa_cons ?_)
  | (with_reducible show OpK _ _ _ _ _; with_reducible first | refine ok_isB ?_ | refine ok_notB ?_ | refine ok_plusI ?_ | refine ok_sub ?_ | refine ok_lt ?_ | refine ok_le ?_ | refine ok_gt ?_ | refine ok_ge ?_ | refine ok_eqI ?_ | refine ok_neI ?_ | refine ok_mod (by first | assumption | decide | omega) ?_ | refine ok_ixL (by with_unfolding_all exact rfl) ?_)
  | (with_reducible show CbK _ _ _ _; with_reducible first | refine ck_lenL ?_ | refine ck_lenT ?_ | refine ck_int ?_ | refine ck_intB ?_ | refine ck_max ?_ | refine ck_min ?_ | refine ck_list ?_)
  | with_reducible refine wq_of ?_
  | (with_reducible show WG _ _ _ _ _; with_reducible first | refine wg_name (by with_unfolding_all exact rfl) ?_ | refine wg_tup (by with_unfolding_all exact rfl) ?_ | refine wg_set (by with_unfolding_all exact rfl) ?_)
  | (with_reducible show WGs _ _ _ _ _; with_reducible first | refine wgs_cons ?_ | refine wgs_nil ?_)
  | (with_reducible show WO _ _ _; with_reducible first | refine wo_some ?_ | refine wo_none ?_)
  | refine ⟨_, argD5, ?_⟩
  | refine ⟨_, argD6, ?_⟩
  | refine ⟨_, argD7, ?_⟩
  | refine ⟨_, argD9, ?_⟩
  | with_reducible refine iteT ?_
  | with_reducible refine iteF ?_
  | with_reducible refine ⟨_, frz_per, ?_⟩
  | with_reducible refine ⟨_, frz_own, ?_⟩
  | refine ⟨_, rfl, ?_⟩
  | refine ⟨_, argD1, ?_⟩
  | refine ⟨_, argD2, ?_⟩
  | refine ⟨_, argD0, ?_⟩
  | refine ⟨_, argD3, ?_⟩
  | refine ⟨_, argD4, ?_⟩
  | refine ⟨_, _, rfl, rfl, rfl, ?_⟩
  | refine ⟨_, _, _, rfl, rfl, rfl, ?_⟩
  | refine ⟨(by simp only [List.length_cons, List.length_nil]; decide), ?_⟩
  | refine ⟨rfl, nd1, ?_⟩
  | refine ⟨rfl, nd0, ?_⟩)
local macro_rules | `(tactic| walk_at "w") => `(tactic| first
  | (with_reducible show WE _ _ _; with_reducible first | refine we_var (by with_unfolding_all exact rfl) ?_ | refine we_varF (by with_unfolding_all exact rfl) frz_own ?_ | (show WE (tOp _ _ _) _ _; first | refine we_isNd ?_ | refine we_notNd ?_ | refine we_notN ?_ | refine we_ixS (by with_unfolding_all exact rfl) ?_ | refine we_ixScr (by with_unfolding_all exact rfl) ?_ | refine we_inS (by with_unfolding_all exact rfl) ?_ | refine we_notInS (by with_unfolding_all exact rfl) ?_ | refine we_eqS (by with_unfolding_all exact rfl) ?_ | refine we_neS (by with_unfolding_all exact rfl) ?_ | refine we_opK ?_) | (show WE (tCB _ _) _ _; first | refine we_repr ?_ | refine we_isInt ?_ | refine we_isBl ?_ | refine we_isLst ?_ | refine we_isTup ?_ | refine we_lenO (by with_unfolding_all exact rfl) ?_ | refine we_lenS' (by with_unfolding_all exact rfl) ?_ | refine we_lenScr (by with_unfolding_all exact rfl) ?_ | refine we_cbK ?_) | refine we_dnew ?_ | refine we_lenSetI ?_ | refine we_revL ?_ | refine we_chain ?_ | refine we_slice ?_ | refine we_int ?_ | refine we_bl ?_ | refine we_non ?_ | refine we_str ?_ | refine we_neg ?_ | refine we_not ?_ | refine we_and ?_ | refine we_or ?_ | refine we_if ?_ | refine we_tup ?_ | refine we_lst ?_ | refine we_call ?_ | refine we_mt (by with_unfolding_all exact rfl) ?_)
  | (with_reducible show WS _ _ _ _; with_reducible first | refine ws_seqI ?_ | refine ws_seqA ?_ | refine ws_seqD ?_ | refine ws_asg (by with_unfolding_all exact rfl) ?_ | refine ws_asgG ?_ | refine ws_if ?_ | refine ws_ret ?_ | refine ws_drop ?_ | refine ws_next ?_ | refine ws_retN ?_)
  | (with_reducible show WT _ _ _; with_reducible first | refine wt_truL ?_ | refine wt_test ?_ | refine wt_B ?_ | refine wt_not ?_ | refine wt_and ?_ | refine wt_or ?_ | refine wt_yes ?_)
  | (with_reducible show WA _ _ _; with_reducible first | refine wa_nil ?_ | refine wa_cons (wq_of (we_var (by with_unfolding_all exact rfl) ?_)) | refine wa_slotU (by with_unfolding_all exact rfl) ?_ | refine wa_cons ?_)
  | (with_reducible show OpK _ _ _ _ _; with_reducible first | refine ok_neR ?_ | refine ok_eqR ?_ | refine ok_isB ?_ | refine ok_notB ?_ | refine ok_plusI ?_ | refine ok_sub ?_ | refine ok_lt ?_ | refine ok_le ?_ | refine ok_gt ?_ | refine ok_ge ?_ | refine ok_eqI ?_ | refine ok_neI ?_ | refine ok_mod (by first | assumption | decide | omega) ?_ | refine ok_ixL (by with_unfolding_all exact rfl) ?_)
  | (with_reducible show CbK _ _ _ _; with_reducible first | refine ck_tuple ?_ | refine ck_allF ?_ | refine ck_anyF ?_ | refine ck_abs ?_ | refine ck_sumI ?_ | refine ck_lenL ?_ | refine ck_lenT ?_ | refine ck_int ?_ | refine ck_intB ?_ | refine ck_max ?_ | refine ck_min ?_ | refine ck_list ?_)
  | with_reducible refine wq_of ?_
  | (with_reducible show WG _ _ _ _ _; with_reducible first | refine wg_name (by with_unfolding_all exact rfl) ?_ | refine wg_tup (by with_unfolding_all exact rfl) ?_ | refine wg_set (by with_unfolding_all exact rfl) ?_)
  | (with_reducible show WGs _ _ _ _ _; with_reducible first | refine wgs_cons ?_ | refine wgs_nil ?_)
  | (with_reducible show WO _ _ _; with_reducible first | refine wo_some ?_ | refine wo_none ?_)
  | refine ⟨_, argD5, ?_⟩
  | refine ⟨_, argD6, ?_⟩
  | refine ⟨_, argD7, ?_⟩
  | refine ⟨_, argD9, ?_⟩
  | with_reducible refine iteT ?_
  | with_reducible refine iteF ?_
  | with_reducible refine ⟨_, frz_per, ?_⟩
  | with_reducible refine ⟨_, frz_own, ?_⟩
  | refine ⟨_, rfl, ?_⟩
  | refine ⟨_, argD1, ?_⟩
  | refine ⟨_, argD2, ?_⟩
  | refine ⟨_, argD0, ?_⟩
  | refine ⟨_, argD3, ?_⟩
  | refine ⟨_, argD4, ?_⟩
  | refine ⟨_, _, rfl, rfl, rfl, ?_⟩
  | refine ⟨_, _, _, rfl, rfl, rfl, ?_⟩
  | refine ⟨(by simp only [List.length_cons, List.length_nil]; decide), ?_⟩
  | refine ⟨rfl, nd1, ?_⟩
  | refine ⟨rfl, nd0, ?_⟩
  | refine ⟨_, argD8, ?_⟩
  | refine ⟨_, argD10, ?_⟩)
local macro_rules | `(tactic| walk_at "v") => `(tactic| first
  | (with_reducible show WE _ _ _; with_reducible first | refine we_var (by with_unfolding_all exact rfl) ?_ | refine we_varF (by with_unfolding_all exact rfl) frz_own ?_ | (show WE (tOp _ _ _) _ _; first | refine we_isNd ?_ | refine we_notNd ?_ | refine we_notN ?_ | refine we_ixS (by with_unfolding_all exact rfl) ?_ | refine we_ixScr (by with_unfolding_all exact rfl) ?_ | refine we_inS (by with_unfolding_all exact rfl) ?_ | refine we_notInS (by with_unfolding_all exact rfl) ?_ | refine we_eqS (by with_unfolding_all exact rfl) ?_ | refine we_neS (by with_unfolding_all exact rfl) ?_ | refine we_opK ?_) | (show WE (tCB _ _) _ _; first | refine we_repr ?_ | refine we_lenWeb (by with_unfolding_all exact rfl) (by assumption) ?_ | refine we_isInt ?_ | refine we_isBl ?_ | refine we_isLst ?_ | refine we_isTup ?_ | refine we_lenO (by with_unfolding_all exact rfl) ?_ | refine we_lenS' (by with_unfolding_all exact rfl) ?_ | refine we_lenScr (by with_unfolding_all exact rfl) ?_ | refine we_cbK ?_) | refine we_dnew ?_ | refine we_lenSetI ?_ | refine we_revL ?_ | refine we_nbWeb (by with_unfolding_all exact rfl) (by assumption) (by assumption) ?_ | refine we_tiesWeb (by with_unfolding_all exact rfl) ?_ | refine we_chain ?_ | refine we_slice ?_ | refine we_int ?_ | refine we_bl ?_ | refine we_non ?_ | refine we_str ?_ | refine we_neg ?_ | refine we_not ?_ | refine we_and ?_ | refine we_or ?_ | refine we_if ?_ | refine we_tup ?_ | refine we_lst ?_ | refine we_call ?_ | refine we_mt (by with_unfolding_all exact rfl) ?_)
  | (with_reducible show WS _ _ _ _; with_reducible first | refine ws_seqI ?_ | refine ws_seqA ?_ | refine ws_seqD ?_ | refine ws_asg (by with_unfolding_all exact rfl) ?_ | refine ws_asgG ?_ | refine ws_if ?_ | refine ws_ret ?_ | refine ws_drop ?_ | refine ws_next ?_ | refine ws_retN ?_)
  | (with_reducible show WT _ _ _; with_reducible first | refine wt_truL ?_ | refine wt_test ?_ | refine wt_B ?_ | refine wt_not ?_ | refine wt_and ?_ | refine wt_or ?_ | refine wt_yes ?_)
  | (with_reducible show WA _ _ _; with_reducible first | refine wa_nil ?_ | refine wa_cons (wq_of (we_var (by with_unfolding_all exact rfl) ?_)) | refine wa_slotU (by with_unfolding_all exact rfl) ?_ | refine wa_cons ?_)
  | (with_reducible show OpK _ _ _ _ _; with_reducible first | refine ok_neR ?_ | refine ok_eqR ?_ | refine ok_isB ?_ | refine ok_notB ?_ | refine ok_plusI ?_ | refine ok_sub ?_ | refine ok_lt ?_ | refine ok_le ?_ | refine ok_gt ?_ | refine ok_ge ?_ | refine ok_eqI ?_ | refine ok_neI ?_ | refine ok_mod (by first | assumption | decide | omega) ?_ | refine ok_ixL (by with_unfolding_all exact rfl) ?_)
  | (with_reducible show CbK _ _ _ _; with_reducible first | refine ck_tuple ?_ | refine ck_allF ?_ | refine ck_anyF ?_ | refine ck_abs ?_ | refine ck_sumI ?_ | refine ck_lenL ?_ | refine ck_lenT ?_ | refine ck_int ?_ | refine ck_intB ?_ | refine ck_max ?_ | refine ck_min ?_ | refine ck_list ?_)
  | with_reducible refine wq_of ?_
  | (with_reducible show WG _ _ _ _ _; with_reducible first | refine wg_name (by with_unfolding_all exact rfl) ?_ | refine wg_tup (by with_unfolding_all exact rfl) ?_ | refine wg_set (by with_unfolding_all exact rfl) ?_)
  | (with_reducible show WGs _ _ _ _ _; with_reducible first | refine wgs_cons ?_ | refine wgs_nil ?_)
  | (with_reducible show WO _ _ _; with_reducible first | refine wo_some ?_ | refine wo_none ?_)
  | refine ⟨_, argD5, ?_⟩
  | refine ⟨_, argD6, ?_⟩
  | refine ⟨_, argD7, ?_⟩
  | refine ⟨_, argD9, ?_⟩
  | with_reducible refine iteT ?_
  | with_reducible refine iteF ?_
  | with_reducible refine ⟨_, frz_per, ?_⟩
  | with_reducible refine ⟨_, frz_own, ?_⟩
  | refine ⟨_, rfl, ?_⟩
  | refine ⟨_, argD1, ?_⟩
  | refine ⟨_, argD2, ?_⟩
  | refine ⟨_, argD0, ?_⟩
  | refine ⟨_, argD3, ?_⟩
  | refine ⟨_, argD4, ?_⟩
  | refine ⟨_, _, rfl, rfl, rfl, ?_⟩
  | refine ⟨_, _, _, rfl, rfl, rfl, ?_⟩
  | refine ⟨(by simp only [List.length_cons, List.length_nil]; decide), ?_⟩
  | refine ⟨rfl, nd1, ?_⟩
  | refine ⟨rfl, nd0, ?_⟩
  | refine ⟨_, argD8, ?_⟩
  | refine ⟨_, argD10, ?_⟩)
/-! ### the law's judge and the program's say the same -/
end G

namespace G
open PySem L2
local macro_rules | `(tactic| walk_at "g1") => `(tactic| first
  | (with_reducible show WE _ _ _; with_reducible first | refine we_var (by with_unfolding_all exact rfl) ?_ | (show WE (tOp _ _ _) _ _; first | refine we_ixS (by with_unfolding_all exact rfl) ?_ | refine we_ixScr (by with_unfolding_all exact rfl) ?_ | refine we_inS (by with_unfolding_all exact rfl) ?_ | refine we_notInS (by with_unfolding_all exact rfl) ?_ | refine we_eqS (by with_unfolding_all exact rfl) ?_ | refine we_neS (by with_unfolding_all exact rfl) ?_ | refine we_opK ?_) | (show WE (tCB _ _) _ _; first | refine we_lenS' (by with_unfolding_all exact rfl) ?_ | refine we_lenScr (by with_unfolding_all exact rfl) ?_ | refine we_cbK ?_) | refine we_int ?_ | refine we_bl ?_ | refine we_non ?_ | refine we_str ?_ | refine we_neg ?_ | refine we_not ?_ | refine we_and ?_ | refine we_or ?_ | refine we_if ?_ | refine we_tup ?_ | refine we_lst ?_ | refine we_call ?_ | refine we_mt (by with_unfolding_all exact rfl) ?_)
  | (with_reducible show WS _ _ _ _; with_reducible first | refine ws_seqA ?_ | refine ws_seqD ?_ | refine ws_asg (by with_unfolding_all exact rfl) ?_ | refine ws_asgG ?_ | refine ws_if ?_ | refine ws_ret ?_ | refine ws_drop ?_ | refine ws_next ?_ | refine ws_retN ?_)
  | (with_reducible show WT _ _ _; with_reducible first | refine wt_test ?_ | refine wt_B ?_ | refine wt_not ?_ | refine wt_and ?_ | refine wt_or ?_ | refine wt_yes ?_)
  | (with_reducible show WA _ _ _; with_reducible first | refine wa_nil ?_ | refine wa_cons (wq_of (we_var (by with_unfolding_all exact rfl) ?_)) | refine wa_slotU (by with_unfolding_all exact rfl) ?_ | refine wa_cons ?_)
  | (with_reducible show OpK _ _ _ _ _; with_reducible first | refine ok_plusI ?_ | refine ok_sub ?_ | refine ok_lt ?_ | refine ok_le ?_ | refine ok_gt ?_ | refine ok_ge ?_ | refine ok_eqI ?_ | refine ok_neI ?_ | refine ok_mod (by first | assumption | decide | omega) ?_ | refine ok_ixL (by with_unfolding_all exact rfl) ?_)
  | (with_reducible show CbK _ _ _ _; with_reducible first | refine ck_lenL ?_ | refine ck_lenT ?_ | refine ck_int ?_ | refine ck_intB ?_ | refine ck_max ?_ | refine ck_min ?_ | refine ck_list ?_)
  | with_reducible refine wq_of ?_
  | (with_reducible show WG _ _ _ _ _; with_reducible first | refine wg_name (by with_unfolding_all exact rfl) ?_ | refine wg_tup (by with_unfolding_all exact rfl) ?_ | refine wg_set (by with_unfolding_all exact rfl) ?_)
  | (with_reducible show WGs _ _ _ _ _; with_reducible first | refine wgs_cons ?_ | refine wgs_nil ?_)
  | with_reducible refine iteT ?_
  | with_reducible refine iteF ?_
  | with_reducible refine ⟨_, frz_per, ?_⟩
  | with_reducible refine ⟨_, frz_own, ?_⟩
  | refine ⟨_, rfl, ?_⟩
  | refine ⟨_, argD1, ?_⟩
  | refine ⟨_, argD2, ?_⟩
  | refine ⟨_, argD0, ?_⟩
  | refine ⟨_, argD3, ?_⟩
  | refine ⟨_, argD4, ?_⟩
  | refine ⟨_, _, rfl, rfl, rfl, ?_⟩
  | refine ⟨_, _, _, rfl, rfl, rfl, ?_⟩
  | refine ⟨(by simp only [List.length_cons, List.length_nil]; decide), ?_⟩
  | refine ⟨rfl, nd1, ?_⟩
  | refine ⟨rfl, nd0, ?_⟩)
local macro_rules | `(tactic| walk_at "go") => `(tactic| repeat walk_at "g1")
local macro_rules | `(tactic| walk_at "g2") => `(tactic| first
  | (with_reducible show WE _ _ _; with_reducible first | refine we_var (by with_unfolding_all exact rfl) ?_ | (show WE (tOp _ _ _) _ _; first | refine we_notN ?_ | refine we_ixS (by with_unfolding_all exact rfl) ?_ | refine we_ixScr (by with_unfolding_all exact rfl) ?_ | refine we_inS (by with_unfolding_all exact rfl) ?_ | refine we_notInS (by with_unfolding_all exact rfl) ?_ | refine we_eqS (by with_unfolding_all exact rfl) ?_ | refine we_neS (by with_unfolding_all exact rfl) ?_ | refine we_opK ?_) | (show WE (tCB _ _) _ _; first | refine we_isInt ?_ | refine we_isBl ?_ | refine we_isLst ?_ | refine we_isTup ?_ | refine we_lenO (by with_unfolding_all exact rfl) ?_ | refine we_lenS' (by with_unfolding_all exact rfl) ?_ | refine we_lenScr (by with_unfolding_all exact rfl) ?_ | refine we_cbK ?_) | refine we_chain ?_ | refine we_slice ?_ | refine we_int ?_ | refine we_bl ?_ | refine we_non ?_ | refine we_str ?_ | refine we_neg ?_ | refine we_not ?_ | refine we_and ?_ | refine we_or ?_ | refine we_if ?_ | refine we_tup ?_ | refine we_lst ?_ | refine we_call ?_ | refine we_mt (by with_unfolding_all exact rfl) ?_)
  | (with_reducible show WS _ _ _ _; with_reducible first | refine ws_seqA ?_ | refine ws_seqD ?_ | refine ws_asg (by with_unfolding_all exact rfl) ?_ | refine ws_asgG ?_ | refine ws_if ?_ | refine ws_ret ?_ | refine ws_drop ?_ | refine ws_next ?_ | refine ws_retN ?_)
  | (with_reducible show WT _ _ _; with_reducible first | refine wt_test ?_ | refine wt_B ?_ | refine wt_not ?_ | refine wt_and ?_ | refine wt_or ?_ | refine wt_yes ?_)
  | (with_reducible show WA _ _ _; with_reducible first | refine wa_nil ?_ | refine wa_cons (wq_of (we_var (by with_unfolding_all exact rfl) ?_)) | refine wa_slotU (by with_unfolding_all exact rfl) ?_ | refine wa_cons ?_)
  | (with_reducible show OpK _ _ _ _ _; with_reducible first | refine ok_isB ?_ | refine ok_notB ?_ | refine ok_plusI ?_ | refine ok_sub ?_ | refine ok_lt ?_ | refine ok_le ?_ | refine ok_gt ?_ | refine ok_ge ?_ | refine ok_eqI ?_ | refine ok_neI ?_ | refine ok_mod (by first | assumption | decide | omega) ?_ | refine ok_ixL (by with_unfolding_all exact rfl) ?_)
  | (with_reducible show CbK _ _ _ _; with_reducible first | refine ck_lenL ?_ | refine ck_lenT ?_ | refine ck_int ?_ | refine ck_intB ?_ | refine ck_max ?_ | refine ck_min ?_ | refine ck_list ?_)
  | with_reducible refine wq_of ?_
  | (with_reducible show WG _ _ _ _ _; with_reducible first | refine wg_name (by with_unfolding_all exact rfl) ?_ | refine wg_tup (by with_unfolding_all exact rfl) ?_ | refine wg_set (by with_unfolding_all exact rfl) ?_)
  | (with_reducible show WGs _ _ _ _ _; with_reducible first | refine wgs_cons ?_ | refine wgs_nil ?_)
  | (with_reducible show WO _ _ _; with_reducible first | refine wo_some ?_ | refine wo_none ?_)
  | refine ⟨_, argD5, ?_⟩
  | refine ⟨_, argD6, ?_⟩
  | refine ⟨_, argD7, ?_⟩
  | refine ⟨_, argD9, ?_⟩
  | with_reducible refine iteT ?_
  | with_reducible refine iteF ?_
  | with_reducible refine ⟨_, frz_per, ?_⟩
  | with_reducible refine ⟨_, frz_own, ?_⟩
  | refine ⟨_, rfl, ?_⟩
  | refine ⟨_, argD1, ?_⟩
  | refine ⟨_, argD2, ?_⟩
  | refine ⟨_, argD0, ?_⟩
  | refine ⟨_, argD3, ?_⟩
  | refine ⟨_, argD4, ?_⟩
  | refine ⟨_, _, rfl, rfl, rfl, ?_⟩
  | refine ⟨_, _, _, rfl, rfl, rfl, ?_⟩
  | refine ⟨(by simp only [List.length_cons, List.length_nil]; decide), ?_⟩
  | refine ⟨rfl, nd1, ?_⟩
  | refine ⟨rfl, nd0, ?_⟩)
local macro_rules | `(tactic| walk_at "w") => `(tactic| first
  | (with_reducible show WE _ _ _; with_reducible first | refine we_var (by with_unfolding_all exact rfl) ?_ | refine we_varF (by with_unfolding_all exact rfl) frz_own ?_ | (show WE (tOp _ _ _) _ _; first | refine we_isNd ?_ | refine we_notNd ?_ | refine we_notN ?_ | refine we_ixS (by with_unfolding_all exact rfl) ?_ | refine we_ixScr (by with_unfolding_all exact rfl) ?_ | refine we_inS (by with_unfolding_all exact rfl) ?_ | refine we_notInS (by with_unfolding_all exact rfl) ?_ | refine we_eqS (by with_unfolding_all exact rfl) ?_ | refine we_neS (by with_unfolding_all exact rfl) ?_ | refine we_opK ?_) | (show WE (tCB _ _) _ _; first | refine we_repr ?_ | refine we_isInt ?_ | refine we_isBl ?_ | refine we_isLst ?_ | refine we_isTup ?_ | refine we_lenO (by with_unfolding_all exact rfl) ?_ | refine we_lenS' (by with_unfolding_all exact rfl) ?_ | refine we_lenScr (by with_unfolding_all exact rfl) ?_ | refine we_cbK ?_) | refine we_dnew ?_ | refine we_lenSetI ?_ | refine we_revL ?_ | refine we_chain ?_ | refine we_slice ?_ | refine we_int ?_ | refine we_bl ?_ | refine we_non ?_ | refine we_str ?_ | refine we_neg ?_ | refine we_not ?_ | refine we_and ?_ | refine we_or ?_ | refine we_if ?_ | refine we_tup ?_ | refine we_lst ?_ | refine we_call ?_ | refine we_mt (by with_unfolding_all exact rfl) ?_)
  | (with_reducible show WS _ _ _ _; with_reducible first | refine ws_seqI ?_ | refine ws_seqA ?_ | refine ws_seqD ?_ | refine ws_asg (by with_unfolding_all exact rfl) ?_ | refine ws_asgG ?_ | refine ws_if ?_ | refine ws_ret ?_ | refine ws_drop ?_ | refine ws_next ?_ | refine ws_retN ?_)
  | (with_reducible show WT _ _ _; with_reducible first | refine wt_truL ?_ | refine wt_test ?_ | refine wt_B ?_ | refine wt_not ?_ | refine wt_and ?_ | refine wt_or ?_ | refine wt_yes ?_)
  | (with_reducible show WA _ _ _; with_reducible first | refine wa_nil ?_ | refine wa_cons (wq_of (we_var (by with_unfolding_all exact rfl) ?_)) | refine wa_slotU (by with_unfolding_all exact rfl) ?_ | refine wa_cons ?_)
  | (with_reducible show OpK _ _ _ _ _; with_reducible first | refine ok_neR ?_ | refine ok_eqR ?_ | refine ok_isB ?_ | refine ok_notB ?_ | refine ok_plusI ?_ | refine ok_sub ?_ | refine ok_lt ?_ | refine ok_le ?_ | refine ok_gt ?_ | refine ok_ge ?_ | refine ok_eqI ?_ | refine ok_neI ?_ | refine ok_mod (by first | assumption | decide | omega) ?_ | refine ok_ixL (by with_unfolding_all exact rfl) ?_)
  | (with_reducible show CbK _ _ _ _; with_reducible first | refine ck_tuple ?_ | refine ck_allF ?_ | refine ck_anyF ?_ | refine ck_abs ?_ | refine ck_sumI ?_ | refine ck_lenL ?_ | refine ck_lenT ?_ | refine ck_int ?_ | refine ck_intB ?_ | refine ck_max ?_ | refine ck_min ?_ | refine ck_list ?_)
  | with_reducible refine wq_of ?_
  | (with_reducible show WG _ _ _ _ _; with_reducible first | refine wg_name (by with_unfolding_all exact rfl) ?_ | refine wg_tup (by with_unfolding_all exact rfl) ?_ | refine wg_set (by with_unfolding_all exact rfl) ?_)
  | (with_reducible show WGs _ _ _ _ _; with_reducible first | refine wgs_cons ?_ | refine wgs_nil ?_)
  | (with_reducible show WO _ _ _; with_reducible first | refine wo_some ?_ | refine wo_none ?_)
  | refine ⟨_, argD5, ?_⟩
  | refine ⟨_, argD6, ?_⟩
  | refine ⟨_, argD7, ?_⟩
  | refine ⟨_, argD9, ?_⟩
  | with_reducible refine iteT ?_
  | with_reducible refine iteF ?_
  | with_reducible refine ⟨_, frz_per, ?_⟩
  | with_reducible refine ⟨_, frz_own, ?_⟩
  | refine ⟨_, rfl, ?_⟩
  | refine ⟨_, argD1, ?_⟩
  | refine ⟨_, argD2, ?_⟩
  | refine ⟨_, argD0, ?_⟩
  | refine ⟨_, argD3, ?_⟩
  | refine ⟨_, argD4, ?_⟩
  | refine ⟨_, _, rfl, rfl, rfl, ?_⟩
  | refine ⟨_, _, _, rfl, rfl, rfl, ?_⟩
  | refine ⟨(by simp only [List.length_cons, List.length_nil]; decide), ?_⟩
  | refine ⟨rfl, nd1, ?_⟩
  | refine ⟨rfl, nd0, ?_⟩
  | refine ⟨_, argD8, ?_⟩
  | refine ⟨_, argD10, ?_⟩)
local macro_rules | `(tactic| walk_at "v") => `(tactic| first
  | (with_reducible show WE _ _ _; with_reducible first | refine we_var (by with_unfolding_all exact rfl) ?_ | refine we_varF (by with_unfolding_all exact rfl) frz_own ?_ | (show WE (tOp _ _ _) _ _; first | refine we_isNd ?_ | refine we_notNd ?_ | refine we_notN ?_ | refine we_ixS (by with_unfolding_all exact rfl) ?_ | refine we_ixScr (by with_unfolding_all exact rfl) ?_ | refine we_inS (by with_unfolding_all exact rfl) ?_ | refine we_notInS (by with_unfolding_all exact rfl) ?_ | refine we_eqS (by with_unfolding_all exact rfl) ?_ | refine we_neS (by with_unfolding_all exact rfl) ?_ | refine we_opK ?_) | (show WE (tCB _ _) _ _; first | refine we_repr ?_ | refine we_lenWeb (by with_unfolding_all exact rfl) (by assumption) ?_ | refine we_isInt ?_ | refine we_isBl ?_ | refine we_isLst ?_ | refine we_isTup ?_ | refine we_lenO (by with_unfolding_all exact rfl) ?_ | refine we_lenS' (by with_unfolding_all exact rfl) ?_ | refine we_lenScr (by with_unfolding_all exact rfl) ?_ | refine we_cbK ?_) | refine we_dnew ?_ | refine we_lenSetI ?_ | refine we_revL ?_ | refine we_nbWeb (by with_unfolding_all exact rfl) (by assumption) (by assumption) ?_ | refine we_tiesWeb (by with_unfolding_all exact rfl) ?_ | refine we_chain ?_ | refine we_slice ?_ | refine we_int ?_ | refine we_bl ?_ | refine we_non ?_ | refine we_str ?_ | refine we_neg ?_ | refine we_not ?_ | refine we_and ?_ | refine we_or ?_ | refine we_if ?_ | refine we_tup ?_ | refine we_lst ?_ | refine we_call ?_ | refine we_mt (by with_unfolding_all exact rfl) ?_)
  | (with_reducible show WS _ _ _ _; with_reducible first | refine ws_seqI ?_ | refine ws_seqA ?_ | refine ws_seqD ?_ | refine ws_asg (by with_unfolding_all exact rfl) ?_ | refine ws_asgG ?_ | refine ws_if ?_ | refine ws_ret ?_ | refine ws_drop ?_ | refine ws_next ?_ | refine ws_retN ?_)
  | (with_reducible show WT _ _ _; with_reducible first | refine wt_truL ?_ | refine wt_test ?_ | refine wt_B ?_ | refine wt_not ?_ | refine wt_and ?_ | refine wt_or ?_ | refine wt_yes ?_)
  | (with_reducible show WA _ _ _; with_reducible first | refine wa_nil ?_ | refine wa_cons (wq_of (we_var (by with_unfolding_all exact rfl) ?_)) | refine wa_slotU (by with_unfolding_all exact rfl) ?_ | refine wa_cons ?_)
  | (with_reducible show OpK _ _ _ _ _; with_reducible first | refine ok_neR ?_ | refine ok_eqR ?_ | refine ok_isB ?_ | refine ok_notB ?_ | refine ok_plusI ?_ | refine ok_sub ?_ | refine ok_lt ?_ | refine ok_le ?_ | refine ok_gt ?_ | refine ok_ge ?_ | refine ok_eqI ?_ | refine ok_neI ?_ | refine ok_mod (by first | assumption | decide | omega) ?_ | refine ok_ixL (by with_unfolding_all exact rfl) ?_)
  | (with_reducible show CbK _ _ _ _; with_reducible first | refine ck_tuple ?_ | refine ck_allF ?_ | refine ck_anyF ?_ | refine ck_abs ?_ | refine ck_sumI ?_ | refine ck_lenL ?_ | refine ck_lenT ?_ | refine ck_int ?_ | refine ck_intB ?_ | refine ck_max ?_ | refine ck_min ?_ | refine ck_list ?_)
  | with_reducible refine wq_of ?_
  | (with_reducible show WG _ _ _ _ _; with_reducible first | refine wg_name (by with_unfolding_all exact rfl) ?_ | refine wg_tup (by with_unfolding_all exact rfl) ?_ | refine wg_set (by with_unfolding_all exact rfl) ?_)
  | (with_reducible show WGs _ _ _ _ _; with_reducible first | refine wgs_cons ?_ | refine wgs_nil ?_)
  | (with_reducible show WO _ _ _; with_reducible first | refine wo_some ?_ | refine wo_none ?_)
  | refine ⟨_, argD5, ?_⟩
  | refine ⟨_, argD6, ?_⟩
  | refine ⟨_, argD7, ?_⟩
  | refine ⟨_, argD9, ?_⟩
  | with_reducible refine iteT ?_
  | with_reducible refine iteF ?_
  | with_reducible refine ⟨_, frz_per, ?_⟩
  | with_reducible refine ⟨_, frz_own, ?_⟩
  | refine ⟨_, rfl, ?_⟩
  | refine ⟨_, argD1, ?_⟩
  | refine ⟨_, argD2, ?_⟩
  | refine ⟨_, argD0, ?_⟩
  | refine ⟨_, argD3, ?_⟩
  | refine ⟨_, argD4, ?_⟩
  | refine ⟨_, _, rfl, rfl, rfl, ?_⟩
  | refine ⟨_, _, _, rfl, rfl, rfl, ?_⟩
  | refine ⟨(by simp only [List.length_cons, List.length_nil]; decide), ?_⟩
  | refine ⟨rfl, nd1, ?_⟩
  | refine ⟨rfl, nd0, ?_⟩
  | refine ⟨_, argD8, ?_⟩
  | refine ⟨_, argD10, ?_⟩)
local macro_rules | `(tactic| walk_at "p") => `(tactic| refine ⟨_, _, rfl, (by omega), (by first | decide | omega), (by first | decide | omega), ?_⟩)
local macro_rules | `(tactic| walk_at "n") => `(tactic| try dsimp only [back, List.set_cons_zero, List.set_cons_succ, List.map_cons, List.map_nil, List.cons_append, List.nil_append])
local macro_rules | `(tactic| walk_at "q") => `(tactic| first | with_reducible refine ws_seqP (ws_par (by with_unfolding_all exact rfl) (by with_unfolding_all exact rfl) ?_) | refine ⟨_, _, rfl, ?_⟩ | walk_at "v")
structure LineOk (n : Nat) (es : List (Int × Option Int)) : Prop where
  ne : es ≠ []
  ok : ∀ e ∈ es, EntOk n e ∧ ∀ x, e.2 = some x → 0 ≤ x ∧ x < 10 ^ 12
theorem LineOk.snoc {n : Nat} {es : List (Int × Option Int)} (h : LineOk n es) {e : Int × Option Int} (he : EntOk n e) (hx : ∀ x, e.2 = some x → 0 ≤ x ∧ x < 10 ^ 12) : LineOk n (es ++ [e]) := ⟨by simp, fun f hf => by
  rcases List.mem_append.mp hf with h1 | h1
  · exact h.ok f h1
  · rw [List.mem_singleton.mp h1]; exact ⟨he, hx⟩⟩
end G

namespace G
open PySem L2
local macro_rules | `(tactic| walk_at "g1") => `(tactic| first
  | (with_reducible show WE _ _ _; with_reducible first | refine we_var (by with_unfolding_all exact rfl) ?_ | (show WE (tOp _ _ _) _ _; first | refine we_ixS (by with_unfolding_all exact rfl) ?_ | refine we_ixScr (by with_unfolding_all exact rfl) ?_ | refine we_inS (by with_unfolding_all exact rfl) ?_ | refine we_notInS (by with_unfolding_all exact rfl) ?_ | refine we_eqS (by with_unfolding_all exact rfl) ?_ | refine we_neS (by with_unfolding_all exact rfl) ?_ | refine we_opK ?_) | (show WE (tCB _ _) _ _; first | refine we_lenS' (by with_unfolding_all exact rfl) ?_ | refine we_lenScr (by with_unfolding_all exact rfl) ?_ | refine we_cbK ?_) | refine we_int ?_ | refine we_bl ?_ | refine we_non ?_ | refine we_str ?_ | refine we_neg ?_ | refine we_not ?_ | refine we_and ?_ | refine we_or ?_ | refine we_if ?_ | refine we_tup ?_ | refine we_lst ?_ | refine we_call ?_ | refine we_mt (by with_unfolding_all exact rfl) ?_)
  | (with_reducible show WS _ _ _ _; with_reducible first | refine ws_seqA ?_ | refine ws_seqD ?_ | refine ws_asg (by with_unfolding_all exact rfl) ?_ | refine ws_asgG ?_ | refine ws_if ?_ | refine ws_ret ?_ | refine ws_drop ?_ | refine ws_next ?_ | refine ws_retN ?_)
  | (with_reducible show WT _ _ _; with_reducible first | refine wt_test ?_ | refine wt_B ?_ | refine wt_not ?_ | refine wt_and ?_ | refine wt_or ?_ | refine wt_yes ?_)
  | (with_reducible show WA _ _ _; with_reducible first | refine wa_nil ?_ | refine wa_cons (wq_of (we_var (by with_unfolding_all exact rfl) ?_)) | refine wa_slotU (by with_unfolding_all exact rfl) ?_ | refine wa_cons ?_)
  | (with_reducible show OpK _ _ _ _ _; with_reducible first | refine ok_plusI ?_ | refine ok_sub ?_ | refine ok_lt ?_ | refine ok_le ?_ | refine ok_gt ?_ | refine ok_ge ?_ | refine ok_eqI ?_ | refine ok_neI ?_ | refine ok_mod (by first | assumption | decide | omega) ?_ | refine ok_ixL (by with_unfolding_all exact rfl) ?_)
  | (with_reducible show CbK _ _ _ _; with_reducible first | refine ck_lenL ?_ | refine ck_lenT ?_ | refine ck_int ?_ | refine ck_intB ?_ | refine ck_max ?_ | refine ck_min ?_ | refine ck_list ?_)
  | with_reducible refine wq_of ?_
  | (with_reducible show WG _ _ _ _ _; with_reducible first | refine wg_name (by with_unfolding_all exact rfl) ?_ | refine wg_tup (by with_unfolding_all exact rfl) ?_ | refine wg_set (by with_unfolding_all exact rfl) ?_)
  | (with_reducible show WGs _ _ _ _ _; with_reducible first | refine wgs_cons ?_ | refine wgs_nil ?_)
  | with_reducible refine iteT ?_
  | with_reducible refine iteF ?_
  | with_reducible refine ⟨_, frz_per, ?_⟩
  | with_reducible refine ⟨_, frz_own, ?_⟩
  | refine ⟨_, rfl, ?_⟩
  | refine ⟨_, argD1, ?_⟩
  | refine ⟨_, argD2, ?_⟩
  | refine ⟨_, argD0, ?_⟩
  | refine ⟨_, argD3, ?_⟩
  | refine ⟨_, argD4, ?_⟩
  | refine ⟨_, _, rfl, rfl, rfl, ?_⟩
  | refine ⟨_, _, _, rfl, rfl, rfl, ?_⟩
  | refine ⟨(by simp only [List.length_cons, List.length_nil]; decide), ?_⟩
  | refine ⟨rfl, nd1, ?_⟩
  | refine ⟨rfl, nd0, ?_⟩)
local macro_rules | `(tactic| walk_at "go") => `(tactic| repeat walk_at "g1")
local macro_rules | `(tactic| walk_at "g2") => `(tactic| first
  | (with_reducible show WE _ _ _; with_reducible first | refine we_var (by with_unfolding_all exact rfl) ?_ | (show WE (tOp _ _ _) _ _; first | refine we_notN ?_ | refine we_ixS (by with_unfolding_all exact rfl) ?_ | refine we_ixScr (by with_unfolding_all exact rfl) ?_ | refine we_inS (by with_unfolding_all exact rfl) ?_ | refine we_notInS (by with_unfolding_all exact rfl) ?_ | refine we_eqS (by with_unfolding_all exact rfl) ?_ | refine we_neS (by with_unfolding_all exact rfl) ?_ | refine we_opK ?_) | (show WE (tCB _ _) _ _; first | refine we_isInt ?_ | refine we_isBl ?_ | refine we_isLst ?_ | refine we_isTup ?_ | refine we_lenO (by with_unfolding_all exact rfl) ?_ | refine we_lenS' (by with_unfolding_all exact rfl) ?_ | refine we_lenScr (by with_unfolding_all exact rfl) ?_ | refine we_cbK ?_) | refine we_chain ?_ | refine we_slice ?_ | refine we_int ?_ | refine we_bl ?_ | refine we_non ?_ | refine we_str ?_ | refine we_neg ?_ | refine we_not ?_ | refine we_and ?_ | refine we_or ?_ | refine we_if ?_ | refine we_tup ?_ | refine we_lst ?_ | refine we_call ?_ | refine we_mt (by with_unfolding_all exact rfl) ?_)
  | (with_reducible show WS _ _ _ _; with_reducible first | refine ws_seqA ?_ | refine ws_seqD ?_ | refine ws_asg (by with_unfolding_all exact rfl) ?_ | refine ws_asgG ?_ | refine ws_if ?_ | refine ws_ret ?_ | refine ws_drop ?_ | refine ws_next ?_ | refine ws_retN ?_)
  | (with_reducible show WT _ _ _; with_reducible first | refine wt_test ?_ | refine wt_B ?_ | refine wt_not ?_ | refine wt_and ?_ | refine wt_or ?_ | refine wt_yes ?_)
  | (with_reducible show WA _ _ _; with_reducible first | refine wa_nil ?_ | refine wa_cons (wq_of (we_var (by with_unfolding_all exact rfl) ?_)) | refine wa_slotU (by with_unfolding_all exact rfl) ?_ | refine wa_cons ?_)
  | (with_reducible show OpK _ _ _ _ _; with_reducible first | refine ok_isB ?_ | refine ok_notB ?_ | refine ok_plusI ?_ | refine ok_sub ?_ | refine ok_lt ?_ | refine ok_le ?_ | refine ok_gt ?_ | refine ok_ge ?_ | refine ok_eqI ?_ | refine ok_neI ?_ | refine ok_mod (by first | assumption | decide | omega) ?_ | refine ok_ixL (by with_unfolding_all exact rfl) ?_)
  | (with_reducible show CbK _ _ _ _; with_reducible first | refine ck_lenL ?_ | refine ck_lenT ?_ | refine ck_int ?_ | refine ck_intB ?_ | refine ck_max ?_ | refine ck_min ?_ | refine ck_list ?_)
  | with_reducible refine wq_of ?_
  | (with_reducible show WG _ _ _ _ _; with_reducible first | refine wg_name (by with_unfolding_all exact rfl) ?_ | refine wg_tup (by with_unfolding_all exact rfl) ?_ | refine wg_set (by with_unfolding_all exact rfl) ?_)
  | (with_reducible show WGs _ _ _ _ _; with_reducible first | refine wgs_cons ?_ | refine wgs_nil ?_)
  | (with_reducible show WO _ _ _; with_reducible first | refine wo_some ?_ | refine wo_none ?_)
  | refine ⟨_, argD5, ?_⟩
  | refine ⟨_, argD6, ?_⟩
  | refine ⟨_, argD7, ?_⟩
  | refine ⟨_, argD9, ?_⟩
  | with_reducible refine iteT ?_
  | with_reducible refine iteF ?_
  | with_reducible refine ⟨_, frz_per, ?_⟩
  | with_reducible refine ⟨_, frz_own, ?_⟩
  | refine ⟨_, rfl, ?_⟩
  | refine ⟨_, argD1, ?_⟩
  | refine ⟨_, argD2, ?_⟩
  | refine ⟨_, argD0, ?_⟩
  | refine ⟨_, argD3, ?_⟩
  | refine ⟨_, argD4, ?_⟩
  | refine ⟨_, _, rfl, rfl, rfl, ?_⟩
  | refine ⟨_, _, _, rfl, rfl, rfl, ?_⟩
  | refine ⟨(by simp only [List.length_cons, List.length_nil]; decide), ?_⟩
  | refine ⟨rfl, nd1, ?_⟩
  | refine ⟨rfl, nd0, ?_⟩)
local macro_rules | `(tactic| walk_at "w") => `(tactic| first
  | (with_reducible show WE _ _ _; with_reducible first | refine we_var (by with_unfolding_all exact rfl) ?_ | refine we_varF (by with_unfolding_all exact rfl) frz_own ?_ | (show WE (tOp _ _ _) _ _; first | refine we_isNd ?_ | refine we_notNd ?_ | refine we_notN ?_ | refine we_ixS (by with_unfolding_all exact rfl) ?_ | refine we_ixScr (by with_unfolding_all exact rfl) ?_ | refine we_inS (by with_unfolding_all exact rfl) ?_ | refine we_notInS (by with_unfolding_all exact rfl) ?_ | refine we_eqS (by with_unfolding_all exact rfl) ?_ | refine we_neS (by with_unfolding_all exact rfl) ?_ | refine we_opK ?_) | (show WE (tCB _ _) _ _; first | refine we_repr ?_ | refine we_isInt ?_ | refine we_isBl ?_ | refine we_isLst ?_ | refine we_isTup ?_ | refine we_lenO (by with_unfolding_all exact rfl) ?_ | refine we_lenS' (by with_unfolding_all exact rfl) ?_ | refine we_lenScr (by with_unfolding_all exact rfl) ?_ | refine we_cbK ?_) | refine we_dnew ?_ | refine we_lenSetI ?_ | refine we_revL ?_ | refine we_chain ?_ | refine we_slice ?_ | refine we_int ?_ | refine we_bl ?_ | refine we_non ?_ | refine we_str ?_ | refine we_neg ?_ | refine we_not ?_ | refine we_and ?_ | refine we_or ?_ | refine we_if ?_ | refine we_tup ?_ | refine we_lst ?_ | refine we_call ?_ | refine we_mt (by with_unfolding_all exact rfl) ?_)
  | (with_reducible show WS _ _ _ _; with_reducible first | refine ws_seqI ?_ | refine ws_seqA ?_ | refine ws_seqD ?_ | refine ws_asg (by with_unfolding_all exact rfl) ?_ | refine ws_asgG ?_ | refine ws_if ?_ | refine ws_ret ?_ | refine ws_drop ?_ | refine ws_next ?_ | refine ws_retN ?_)
  | (with_reducible show WT _ _ _; with_reducible first | refine wt_truL ?_ | refine wt_test ?_ | refine wt_B ?_ | refine wt_not ?_ | refine wt_and ?_ | refine wt_or ?_ | refine wt_yes ?_)
  | (with_reducible show WA _ _ _; with_reducible first | refine wa_nil ?_ | refine wa_cons (wq_of (we_var (by with_unfolding_all exact rfl) ?_)) | refine wa_slotU (by with_unfolding_all exact rfl) ?_ | refine wa_cons ?_)
  | (with_reducible show OpK _ _ _ _ _; with_reducible first | refine ok_neR ?_ | refine ok_eqR ?_ | refine ok_isB ?_ | refine ok_notB ?_ | refine ok_plusI ?_ | refine ok_sub ?_ | refine ok_lt ?_ | refine ok_le ?_ | refine ok_gt ?_ | refine ok_ge ?_ | refine ok_eqI ?_ | refine ok_neI ?_ | refine ok_mod (by first | assumption | decide | omega) ?_ | refine ok_ixL (by with_unfolding_all exact rfl) ?_)
  | (with_reducible show CbK _ _ _ _; with_reducible first | refine ck_tuple ?_ | refine ck_allF ?_ | refine ck_anyF ?_ | refine ck_abs ?_ | refine ck_sumI ?_ | refine ck_lenL ?_ | refine ck_lenT ?_ | refine ck_int ?_ | refine ck_intB ?_ | refine ck_max ?_ | refine ck_min ?_ | refine ck_list ?_)
  | with_reducible refine wq_of ?_
  | (with_reducible show WG _ _ _ _ _; with_reducible first | refine wg_name (by with_unfolding_all exact rfl) ?_ | refine wg_tup (by with_unfolding_all exact rfl) ?_ | refine wg_set (by with_unfolding_all exact rfl) ?_)
  | (with_reducible show WGs _ _ _ _ _; with_reducible first | refine wgs_cons ?_ | refine wgs_nil ?_)
  | (with_reducible show WO _ _ _; with_reducible first | refine wo_some ?_ | refine wo_none ?_)
  | refine ⟨_, argD5, ?_⟩
  | refine ⟨_, argD6, ?_⟩
  | refine ⟨_, argD7, ?_⟩
  | refine ⟨_, argD9, ?_⟩
  | with_reducible refine iteT ?_
  | with_reducible refine iteF ?_
  | with_reducible refine ⟨_, frz_per, ?_⟩
  | with_reducible refine ⟨_, frz_own, ?_⟩
  | refine ⟨_, rfl, ?_⟩
  | refine ⟨_, argD1, ?_⟩
  | refine ⟨_, argD2, ?_⟩
  | refine ⟨_, argD0, ?_⟩
  | refine ⟨_, argD3, ?_⟩
  | refine ⟨_, argD4, ?_⟩
  | refine ⟨_, _, rfl, rfl, rfl, ?_⟩
  | refine ⟨_, _, _, rfl, rfl, rfl, ?_⟩
  | refine ⟨(by simp only [List.length_cons, List.length_nil]; decide), ?_⟩
  | refine ⟨rfl, nd1, ?_⟩
  | refine ⟨rfl, nd0, ?_⟩
  | refine ⟨_, argD8, ?_⟩
  | refine ⟨_, argD10, ?_⟩)
local macro_rules | `(tactic| walk_at "v") => `(tactic| first
  | (with_reducible show WE _ _ _; with_reducible first | refine we_var (by with_unfolding_all exact rfl) ?_ | refine we_varF (by with_unfolding_all exact rfl) frz_own ?_ | (show WE (tOp _ _ _) _ _; first | refine we_isNd ?_ | refine we_notNd ?_ | refine we_notN ?_ | refine we_ixS (by with_unfolding_all exact rfl) ?_ | refine we_ixScr (by with_unfolding_all exact rfl) ?_ | refine we_inS (by with_unfolding_all exact rfl) ?_ | refine we_notInS (by with_unfolding_all exact rfl) ?_ | refine we_eqS (by with_unfolding_all exact rfl) ?_ | refine we_neS (by with_unfolding_all exact rfl) ?_ | refine we_opK ?_) | (show WE (tCB _ _) _ _; first | refine we_repr ?_ | refine we_lenWeb (by with_unfolding_all exact rfl) (by assumption) ?_ | refine we_isInt ?_ | refine we_isBl ?_ | refine we_isLst ?_ | refine we_isTup ?_ | refine we_lenO (by with_unfolding_all exact rfl) ?_ | refine we_lenS' (by with_unfolding_all exact rfl) ?_ | refine we_lenScr (by with_unfolding_all exact rfl) ?_ | refine we_cbK ?_) | refine we_dnew ?_ | refine we_lenSetI ?_ | refine we_revL ?_ | refine we_nbWeb (by with_unfolding_all exact rfl) (by assumption) (by assumption) ?_ | refine we_tiesWeb (by with_unfolding_all exact rfl) ?_ | refine we_chain ?_ | refine we_slice ?_ | refine we_int ?_ | refine we_bl ?_ | refine we_non ?_ | refine we_str ?_ | refine we_neg ?_ | refine we_not ?_ | refine we_and ?_ | refine we_or ?_ | refine we_if ?_ | refine we_tup ?_ | refine we_lst ?_ | refine we_call ?_ | refine we_mt (by with_unfolding_all exact rfl) ?_)
  | (with_reducible show WS _ _ _ _; with_reducible first | refine ws_seqI ?_ | refine ws_seqA ?_ | refine ws_seqD ?_ | refine ws_asg (by with_unfolding_all exact rfl) ?_ | refine ws_asgG ?_ | refine ws_if ?_ | refine ws_ret ?_ | refine ws_drop ?_ | refine ws_next ?_ | refine ws_retN ?_)
  | (with_reducible show WT _ _ _; with_reducible first | refine wt_truL ?_ | refine wt_test ?_ | refine wt_B ?_ | refine wt_not ?_ | refine wt_and ?_ | refine wt_or ?_ | refine wt_yes ?_)
  | (with_reducible show WA _ _ _; with_reducible first | refine wa_nil ?_ | refine wa_cons (wq_of (we_var (by with_unfolding_all exact rfl) ?_)) | refine wa_slotU (by with_unfolding_all exact rfl) ?_ | refine wa_cons ?_)
  | (with_reducible show OpK _ _ _ _ _; with_reducible first | refine ok_neR ?_ | refine ok_eqR ?_ | refine ok_isB ?_ | refine ok_notB ?_ | refine ok_plusI ?_ | refine ok_sub ?_ | refine ok_lt ?_ | refine ok_le ?_ | refine ok_gt ?_ | refine ok_ge ?_ | refine ok_eqI ?_ | refine ok_neI ?_ | refine ok_mod (by first | assumption | decide | omega) ?_ | refine ok_ixL (by with_unfolding_all exact rfl) ?_)
  | (with_reducible show CbK _ _ _ _; with_reducible first | refine ck_tuple ?_ | refine ck_allF ?_ | refine ck_anyF ?_ | refine ck_abs ?_ | refine ck_sumI ?_ | refine ck_lenL ?_ | refine ck_lenT ?_ | refine ck_int ?_ | refine ck_intB ?_ | refine ck_max ?_ | refine ck_min ?_ | refine ck_list ?_)
  | with_reducible refine wq_of ?_
  | (with_reducible show WG _ _ _ _ _; with_reducible first | refine wg_name (by with_unfolding_all exact rfl) ?_ | refine wg_tup (by with_unfolding_all exact rfl) ?_ | refine wg_set (by with_unfolding_all exact rfl) ?_)
  | (with_reducible show WGs _ _ _ _ _; with_reducible first | refine wgs_cons ?_ | refine wgs_nil ?_)
  | (with_reducible show WO _ _ _; with_reducible first | refine wo_some ?_ | refine wo_none ?_)
  | refine ⟨_, argD5, ?_⟩
  | refine ⟨_, argD6, ?_⟩
  | refine ⟨_, argD7, ?_⟩
  | refine ⟨_, argD9, ?_⟩
  | with_reducible refine iteT ?_
  | with_reducible refine iteF ?_
  | with_reducible refine ⟨_, frz_per, ?_⟩
  | with_reducible refine ⟨_, frz_own, ?_⟩
  | refine ⟨_, rfl, ?_⟩
  | refine ⟨_, argD1, ?_⟩
  | refine ⟨_, argD2, ?_⟩
  | refine ⟨_, argD0, ?_⟩
  | refine ⟨_, argD3, ?_⟩
  | refine ⟨_, argD4, ?_⟩
  | refine ⟨_, _, rfl, rfl, rfl, ?_⟩
  | refine ⟨_, _, _, rfl, rfl, rfl, ?_⟩
  | refine ⟨(by simp only [List.length_cons, List.length_nil]; decide), ?_⟩
  | refine ⟨rfl, nd1, ?_⟩
  | refine ⟨rfl, nd0, ?_⟩
  | refine ⟨_, argD8, ?_⟩
  | refine ⟨_, argD10, ?_⟩)
local macro_rules | `(tactic| walk_at "p") => `(tactic| refine ⟨_, _, rfl, (by omega), (by first | decide | omega), (by first | decide | omega), ?_⟩)
local macro_rules | `(tactic| walk_at "n") => `(tactic| try dsimp only [back, List.set_cons_zero, List.set_cons_succ, List.map_cons, List.map_nil, List.cons_append, List.nil_append])
local macro_rules | `(tactic| walk_at "q") => `(tactic| first | with_reducible refine ws_seqP (ws_par (by with_unfolding_all exact rfl) (by with_unfolding_all exact rfl) ?_) | refine ⟨_, _, rfl, ?_⟩ | walk_at "v")
section
variable {K : PySem.W.Frag} {a : Ad} {Γ : Ga} {k : Gp → Ga → Prop} {tr : TA} {E : XK}
end
/-- data told apart: the lists are the same -/
theorem EncOk.inj {α : Type} [DecidableEq α] {n : Nat} {enc : α → PyData} (h : EncOk n enc) {x y : α} (e : enc x = enc y) : x = y := by
  have h1 := h.eqv x y
  rw [e, h.eqv y y, decide_eq_true rfl] at h1
  exact of_decide_eq_true h1.symm
end G

/-! ### xs.index(x), different ints -/
namespace G
open PySem PySem.Spec PyProof.Rows L2
theorem we_indexZ {K : PySem.W.Frag} {Γ : Ga} {k : Gp → Ga → Prop} {to : TE} {ta : TA} (h : WQ to Γ fun q Γ1 => ∃ xs : List Int, q = dP (.list (xs.map .int)) ∧ WA ta Γ1 fun as Γ2 => ∃ (x : Int) (j : Nat), ArgD as [.int x] ∧ xs[j]? = some x ∧ xs.Nodup ∧ k (dat (.int (j : Int))) Γ2) :
    WE (tBM K "list" (rIndex K) to ta) Γ k := fun ω σ H S Q f => h ω σ H S _ fun v q Γ1 ω1 H1 ⟨xs, e, h1⟩ S1 p f1 => by
  subst e
  obtain ⟨a, ys, rfl, ha, hd⟩ := DR.lst_inv p
  rw [hd.ints] at ha
  refine ⟨.inl ⟨rfl, _, SqL.of (vw_H ha)⟩, h1 ω1 σ H1 S1 _ fun vs as Γ2 ω2 H2 ⟨x, j, hes, hj, hnd, hk⟩ S2 ax f2 => ?_⟩
  have hdr := hes.drs ax
  cases hdr with | cons px hdr =>
  cases hdr
  cases px.int_inv
  have ha2 := f2.1 _ _ ha
  refine ⟨a, xs.map V.int, .int x, j, .int x, rfl, rfl, SqL.of (vw_H ha2), rfl, ?_, by rw [List.getElem?_map, hj]; rfl, ?_, fun m z' hm hz => ?_, f _ (dat (.int (j : Int))) Γ2 ω2 H2 hk S2 (DR.int _) (f1.trans f2)⟩
  · rw [List.all_map, List.all_eq_true]
    intro y _
    rfl
  · simp [eqV]
  · rw [List.getElem?_map] at hz
    obtain ⟨hlt, e⟩ := List.getElem?_eq_some_iff.mp hj
    have hm2 : m < xs.length := by omega
    rw [List.getElem?_eq_getElem hm2] at hz
    cases hz
    have hne : xs[m] ≠ x := by
      rw [← e]
      exact List.pairwise_iff_getElem.mp hnd m j hm2 hlt hm
    simp [eqV, hne]
end G

namespace G
open PySem L2
local macro_rules | `(tactic| walk_at "g1") => `(tactic| first
  | (with_reducible show WE _ _ _; with_reducible first | refine we_var (by with_unfolding_all exact rfl) ?_ | (show WE (tOp _ _ _) _ _; first | refine we_ixS (by with_unfolding_all exact rfl) ?_ | refine we_ixScr (by with_unfolding_all exact rfl) ?_ | refine we_inS (by with_unfolding_all exact rfl) ?_ | refine we_notInS (by with_unfolding_all exact rfl) ?_ | refine we_eqS (by with_unfolding_all exact rfl) ?_ | refine we_neS (by with_unfolding_all exact rfl) ?_ | refine we_opK ?_) | (show WE (tCB _ _) _ _; first | refine we_lenS' (by with_unfolding_all exact rfl) ?_ | refine we_lenScr (by with_unfolding_all exact rfl) ?_ | refine we_cbK ?_) | refine we_int ?_ | refine we_bl ?_ | refine we_non ?_ | refine we_str ?_ | refine we_neg ?_ | refine we_not ?_ | refine we_and ?_ | refine we_or ?_ | refine we_if ?_ | refine we_tup ?_ | refine we_lst ?_ | refine we_call ?_ | refine we_mt (by with_unfolding_all exact rfl) ?_)
  | (with_reducible show WS _ _ _ _; with_reducible first | refine ws_seqA ?_ | refine ws_seqD ?_ | refine ws_asg (by with_unfolding_all exact rfl) ?_ | refine ws_asgG ?_ | refine ws_if ?_ | refine ws_ret ?_ | refine ws_drop ?_ | refine ws_next ?_ | refine ws_retN ?_)
  | (with_reducible show WT _ _ _; with_reducible first | refine wt_test ?_ | refine wt_B ?_ | refine wt_not ?_ | refine wt_and ?_ | refine wt_or ?_ | refine wt_yes ?_)
  | (with_reducible show WA _ _ _; with_reducible first | refine wa_nil ?_ | refine wa_cons (wq_of (we_var (by with_unfolding_all exact rfl) ?_)) | refine wa_slotU (by with_unfolding_all exact rfl) ?_ | refine wa_cons ?_)
  | (with_reducible show OpK _ _ _ _ _; with_reducible first | refine ok_plusI ?_ | refine ok_sub ?_ | refine ok_lt ?_ | refine ok_le ?_ | refine ok_gt ?_ | refine ok_ge ?_ | refine ok_eqI ?_ | refine ok_neI ?_ | refine ok_mod (by first | assumption | decide | omega) ?_ | refine ok_ixL (by with_unfolding_all exact rfl) ?_)
  | (with_reducible show CbK _ _ _ _; with_reducible first | refine ck_lenL ?_ | refine ck_lenT ?_ | refine ck_int ?_ | refine ck_intB ?_ | refine ck_max ?_ | refine ck_min ?_ | refine ck_list ?_)
  | with_reducible refine wq_of ?_
  | (with_reducible show WG _ _ _ _ _; with_reducible first | refine wg_name (by with_unfolding_all exact rfl) ?_ | refine wg_tup (by with_unfolding_all exact rfl) ?_ | refine wg_set (by with_unfolding_all exact rfl) ?_)
  | (with_reducible show WGs _ _ _ _ _; with_reducible first | refine wgs_cons ?_ | refine wgs_nil ?_)
  | with_reducible refine iteT ?_
  | with_reducible refine iteF ?_
  | with_reducible refine ⟨_, frz_per, ?_⟩
  | with_reducible refine ⟨_, frz_own, ?_⟩
  | refine ⟨_, rfl, ?_⟩
  | refine ⟨_, argD1, ?_⟩
  | refine ⟨_, argD2, ?_⟩
  | refine ⟨_, argD0, ?_⟩
  | refine ⟨_, argD3, ?_⟩
  | refine ⟨_, argD4, ?_⟩
  | refine ⟨_, _, rfl, rfl, rfl, ?_⟩
  | refine ⟨_, _, _, rfl, rfl, rfl, ?_⟩
  | refine ⟨(by simp only [List.length_cons, List.length_nil]; decide), ?_⟩
  | refine ⟨rfl, nd1, ?_⟩
  | refine ⟨rfl, nd0, ?_⟩)
local macro_rules | `(tactic| walk_at "go") => `(tactic| repeat walk_at "g1")
local macro_rules | `(tactic| walk_at "g2") => `(tactic| first
  | (with_reducible show WE _ _ _; with_reducible first | refine we_var (by with_unfolding_all exact rfl) ?_ | (show WE (tOp _ _ _) _ _; first | refine we_notN ?_ | refine we_ixS (by with_unfolding_all exact rfl) ?_ | refine we_ixScr (by with_unfolding_all exact rfl) ?_ | refine we_inS (by with_unfolding_all exact rfl) ?_ | refine we_notInS (by with_unfolding_all exact rfl) ?_ | refine we_eqS (by with_unfolding_all exact rfl) ?_ | refine we_neS (by with_unfolding_all exact rfl) ?_ | refine we_opK ?_) | (show WE (tCB _ _) _ _; first | refine we_isInt ?_ | refine we_isBl ?_ | refine we_isLst ?_ | refine we_isTup ?_ | refine we_lenO (by with_unfolding_all exact rfl) ?_ | refine we_lenS' (by with_unfolding_all exact rfl) ?_ | refine we_lenScr (by with_unfolding_all exact rfl) ?_ | refine we_cbK ?_) | refine we_chain ?_ | refine we_slice ?_ | refine we_int ?_ | refine we_bl ?_ | refine we_non ?_ | refine we_str ?_ | refine we_neg ?_ | refine we_not ?_ | refine we_and ?_ | refine we_or ?_ | refine we_if ?_ | refine we_tup ?_ | refine we_lst ?_ | refine we_call ?_ | refine we_mt (by with_unfolding_all exact rfl) ?_)
  | (with_reducible show WS _ _ _ _; with_reducible first | refine ws_seqA ?_ | refine ws_seqD ?_ | refine ws_asg (by with_unfolding_all exact rfl) ?_ | refine ws_asgG ?_ | refine ws_if ?_ | refine ws_ret ?_ | refine ws_drop ?_ | refine ws_next ?_ | refine ws_retN ?_)
  | (with_reducible show WT _ _ _; with_reducible first | refine wt_test ?_ | refine wt_B ?_ | refine wt_not ?_ | refine wt_and ?_ | refine wt_or ?_ | refine wt_yes ?_)
  | (with_reducible show WA _ _ _; with_reducible first | refine wa_nil ?_ | refine wa_cons (wq_of (we_var (by with_unfolding_all exact rfl) ?_)) | refine wa_slotU (by with_unfolding_all exact rfl) ?_ | refine wa_cons ?_)
  | (with_reducible show OpK _ _ _ _ _; with_reducible first | refine ok_isB ?_ | refine ok_notB ?_ | refine ok_plusI ?_ | refine ok_sub ?_ | refine ok_lt ?_ | refine ok_le ?_ | refine ok_gt ?_ | refine ok_ge ?_ | refine ok_eqI ?_ | refine ok_neI ?_ | refine ok_mod (by first | assumption | decide | omega) ?_ | refine ok_ixL (by with_unfolding_all exact rfl) ?_)
  | (with_reducible show CbK _ _ _ _; with_reducible first | refine ck_lenL ?_ | refine ck_lenT ?_ | refine ck_int ?_ | refine ck_intB ?_ | refine ck_max ?_ | refine ck_min ?_ | refine ck_list ?_)
  | with_reducible refine wq_of ?_
  | (with_reducible show WG _ _ _ _ _; with_reducible first | refine wg_name (by with_unfolding_all exact rfl) ?_ | refine wg_tup (by with_unfolding_all exact rfl) ?_ | refine wg_set (by with_unfolding_all exact rfl) ?_)
  | (with_reducible show WGs _ _ _ _ _; with_reducible first | refine wgs_cons ?_ | refine wgs_nil ?_)
  | (with_reducible show WO _ _ _; with_reducible first | refine wo_some ?_ | refine wo_none ?_)
  | refine ⟨_, argD5, ?_⟩
  | refine ⟨_, argD6, ?_⟩
  | refine ⟨_, argD7, ?_⟩
  | refine ⟨_, argD9, ?_⟩
  | with_reducible refine iteT ?_
  | with_reducible refine iteF ?_
  | with_reducible refine ⟨_, frz_per, ?_⟩
  | with_reducible refine ⟨_, frz_own, ?_⟩
  | refine ⟨_, rfl, ?_⟩
  | refine ⟨_, argD1, ?_⟩
  | refine ⟨_, argD2, ?_⟩
  | refine ⟨_, argD0, ?_⟩
  | refine ⟨_, argD3, ?_⟩
  | refine ⟨_, argD4, ?_⟩
  | refine ⟨_, _, rfl, rfl, rfl, ?_⟩
  | refine ⟨_, _, _, rfl, rfl, rfl, ?_⟩
  | refine ⟨(by simp only [List.length_cons, List.length_nil]; decide), ?_⟩
  | refine ⟨rfl, nd1, ?_⟩
  | refine ⟨rfl, nd0, ?_⟩)
local macro_rules | `(tactic| walk_at "w") => `(tactic| first
  | (with_reducible show WE _ _ _; with_reducible first | refine we_var (by with_unfolding_all exact rfl) ?_ | refine we_varF (by with_unfolding_all exact rfl) frz_own ?_ | (show WE (tOp _ _ _) _ _; first | refine we_isNd ?_ | refine we_notNd ?_ | refine we_notN ?_ | refine we_ixS (by with_unfolding_all exact rfl) ?_ | refine we_ixScr (by with_unfolding_all exact rfl) ?_ | refine we_inS (by with_unfolding_all exact rfl) ?_ | refine we_notInS (by with_unfolding_all exact rfl) ?_ | refine we_eqS (by with_unfolding_all exact rfl) ?_ | refine we_neS (by with_unfolding_all exact rfl) ?_ | refine we_opK ?_) | (show WE (tCB _ _) _ _; first | refine we_repr ?_ | refine we_isInt ?_ | refine we_isBl ?_ | refine we_isLst ?_ | refine we_isTup ?_ | refine we_lenO (by with_unfolding_all exact rfl) ?_ | refine we_lenS' (by with_unfolding_all exact rfl) ?_ | refine we_lenScr (by with_unfolding_all exact rfl) ?_ | refine we_cbK ?_) | refine we_dnew ?_ | refine we_lenSetI ?_ | refine we_revL ?_ | refine we_chain ?_ | refine we_slice ?_ | refine we_int ?_ | refine we_bl ?_ | refine we_non ?_ | refine we_str ?_ | refine we_neg ?_ | refine we_not ?_ | refine we_and ?_ | refine we_or ?_ | refine we_if ?_ | refine we_tup ?_ | refine we_lst ?_ | refine we_call ?_ | refine we_mt (by with_unfolding_all exact rfl) ?_)
  | (with_reducible show WS _ _ _ _; with_reducible first | refine ws_seqI ?_ | refine ws_seqA ?_ | refine ws_seqD ?_ | refine ws_asg (by with_unfolding_all exact rfl) ?_ | refine ws_asgG ?_ | refine ws_if ?_ | refine ws_ret ?_ | refine ws_drop ?_ | refine ws_next ?_ | refine ws_retN ?_)
  | (with_reducible show WT _ _ _; with_reducible first | refine wt_truL ?_ | refine wt_test ?_ | refine wt_B ?_ | refine wt_not ?_ | refine wt_and ?_ | refine wt_or ?_ | refine wt_yes ?_)
  | (with_reducible show WA _ _ _; with_reducible first | refine wa_nil ?_ | refine wa_cons (wq_of (we_var (by with_unfolding_all exact rfl) ?_)) | refine wa_slotU (by with_unfolding_all exact rfl) ?_ | refine wa_cons ?_)
  | (with_reducible show OpK _ _ _ _ _; with_reducible first | refine ok_neR ?_ | refine ok_eqR ?_ | refine ok_isB ?_ | refine ok_notB ?_ | refine ok_plusI ?_ | refine ok_sub ?_ | refine ok_lt ?_ | refine ok_le ?_ | refine ok_gt ?_ | refine ok_ge ?_ | refine ok_eqI ?_ | refine ok_neI ?_ | refine ok_mod (by first | assumption | decide | omega) ?_ | refine ok_ixL (by with_unfolding_all exact rfl) ?_)
  | (with_reducible show CbK _ _ _ _; with_reducible first | refine ck_tuple ?_ | refine ck_allF ?_ | refine ck_anyF ?_ | refine ck_abs ?_ | refine ck_sumI ?_ | refine ck_lenL ?_ | refine ck_lenT ?_ | refine ck_int ?_ | refine ck_intB ?_ | refine ck_max ?_ | refine ck_min ?_ | refine ck_list ?_)
  | with_reducible refine wq_of ?_
  | (with_reducible show WG _ _ _ _ _; with_reducible first | refine wg_name (by with_unfolding_all exact rfl) ?_ | refine wg_tup (by with_unfolding_all exact rfl) ?_ | refine wg_set (by with_unfolding_all exact rfl) ?_)
  | (with_reducible show WGs _ _ _ _ _; with_reducible first | refine wgs_cons ?_ | refine wgs_nil ?_)
  | (with_reducible show WO _ _ _; with_reducible first | refine wo_some ?_ | refine wo_none ?_)
  | refine ⟨_, argD5, ?_⟩
  | refine ⟨_, argD6, ?_⟩
  | refine ⟨_, argD7, ?_⟩
  | refine ⟨_, argD9, ?_⟩
  | with_reducible refine iteT ?_
  | with_reducible refine iteF ?_
  | with_reducible refine ⟨_, frz_per, ?_⟩
  | with_reducible refine ⟨_, frz_own, ?_⟩
  | refine ⟨_, rfl, ?_⟩
  | refine ⟨_, argD1, ?_⟩
  | refine ⟨_, argD2, ?_⟩
  | refine ⟨_, argD0, ?_⟩
  | refine ⟨_, argD3, ?_⟩
  | refine ⟨_, argD4, ?_⟩
  | refine ⟨_, _, rfl, rfl, rfl, ?_⟩
  | refine ⟨_, _, _, rfl, rfl, rfl, ?_⟩
  | refine ⟨(by simp only [List.length_cons, List.length_nil]; decide), ?_⟩
  | refine ⟨rfl, nd1, ?_⟩
  | refine ⟨rfl, nd0, ?_⟩
  | refine ⟨_, argD8, ?_⟩
  | refine ⟨_, argD10, ?_⟩)
local macro_rules | `(tactic| walk_at "v") => `(tactic| first
  | (with_reducible show WE _ _ _; with_reducible first | refine we_var (by with_unfolding_all exact rfl) ?_ | refine we_varF (by with_unfolding_all exact rfl) frz_own ?_ | (show WE (tOp _ _ _) _ _; first | refine we_isNd ?_ | refine we_notNd ?_ | refine we_notN ?_ | refine we_ixS (by with_unfolding_all exact rfl) ?_ | refine we_ixScr (by with_unfolding_all exact rfl) ?_ | refine we_inS (by with_unfolding_all exact rfl) ?_ | refine we_notInS (by with_unfolding_all exact rfl) ?_ | refine we_eqS (by with_unfolding_all exact rfl) ?_ | refine we_neS (by with_unfolding_all exact rfl) ?_ | refine we_opK ?_) | (show WE (tCB _ _) _ _; first | refine we_repr ?_ | refine we_lenWeb (by with_unfolding_all exact rfl) (by assumption) ?_ | refine we_isInt ?_ | refine we_isBl ?_ | refine we_isLst ?_ | refine we_isTup ?_ | refine we_lenO (by with_unfolding_all exact rfl) ?_ | refine we_lenS' (by with_unfolding_all exact rfl) ?_ | refine we_lenScr (by with_unfolding_all exact rfl) ?_ | refine we_cbK ?_) | refine we_dnew ?_ | refine we_lenSetI ?_ | refine we_revL ?_ | refine we_nbWeb (by with_unfolding_all exact rfl) (by assumption) (by assumption) ?_ | refine we_tiesWeb (by with_unfolding_all exact rfl) ?_ | refine we_chain ?_ | refine we_slice ?_ | refine we_int ?_ | refine we_bl ?_ | refine we_non ?_ | refine we_str ?_ | refine we_neg ?_ | refine we_not ?_ | refine we_and ?_ | refine we_or ?_ | refine we_if ?_ | refine we_tup ?_ | refine we_lst ?_ | refine we_call ?_ | refine we_mt (by with_unfolding_all exact rfl) ?_)
  | (with_reducible show WS _ _ _ _; with_reducible first | refine ws_seqI ?_ | refine ws_seqA ?_ | refine ws_seqD ?_ | refine ws_asg (by with_unfolding_all exact rfl) ?_ | refine ws_asgG ?_ | refine ws_if ?_ | refine ws_ret ?_ | refine ws_drop ?_ | refine ws_next ?_ | refine ws_retN ?_)
  | (with_reducible show WT _ _ _; with_reducible first | refine wt_truL ?_ | refine wt_test ?_ | refine wt_B ?_ | refine wt_not ?_ | refine wt_and ?_ | refine wt_or ?_ | refine wt_yes ?_)
  | (with_reducible show WA _ _ _; with_reducible first | refine wa_nil ?_ | refine wa_cons (wq_of (we_var (by with_unfolding_all exact rfl) ?_)) | refine wa_slotU (by with_unfolding_all exact rfl) ?_ | refine wa_cons ?_)
  | (with_reducible show OpK _ _ _ _ _; with_reducible first | refine ok_neR ?_ | refine ok_eqR ?_ | refine ok_isB ?_ | refine ok_notB ?_ | refine ok_plusI ?_ | refine ok_sub ?_ | refine ok_lt ?_ | refine ok_le ?_ | refine ok_gt ?_ | refine ok_ge ?_ | refine ok_eqI ?_ | refine ok_neI ?_ | refine ok_mod (by first | assumption | decide | omega) ?_ | refine ok_ixL (by with_unfolding_all exact rfl) ?_)
  | (with_reducible show CbK _ _ _ _; with_reducible first | refine ck_tuple ?_ | refine ck_allF ?_ | refine ck_anyF ?_ | refine ck_abs ?_ | refine ck_sumI ?_ | refine ck_lenL ?_ | refine ck_lenT ?_ | refine ck_int ?_ | refine ck_intB ?_ | refine ck_max ?_ | refine ck_min ?_ | refine ck_list ?_)
  | with_reducible refine wq_of ?_
  | (with_reducible show WG _ _ _ _ _; with_reducible first | refine wg_name (by with_unfolding_all exact rfl) ?_ | refine wg_tup (by with_unfolding_all exact rfl) ?_ | refine wg_set (by with_unfolding_all exact rfl) ?_)
  | (with_reducible show WGs _ _ _ _ _; with_reducible first | refine wgs_cons ?_ | refine wgs_nil ?_)
  | (with_reducible show WO _ _ _; with_reducible first | refine wo_some ?_ | refine wo_none ?_)
  | refine ⟨_, argD5, ?_⟩
  | refine ⟨_, argD6, ?_⟩
  | refine ⟨_, argD7, ?_⟩
  | refine ⟨_, argD9, ?_⟩
  | with_reducible refine iteT ?_
  | with_reducible refine iteF ?_
  | with_reducible refine ⟨_, frz_per, ?_⟩
  | with_reducible refine ⟨_, frz_own, ?_⟩
  | refine ⟨_, rfl, ?_⟩
  | refine ⟨_, argD1, ?_⟩
  | refine ⟨_, argD2, ?_⟩
  | refine ⟨_, argD0, ?_⟩
  | refine ⟨_, argD3, ?_⟩
  | refine ⟨_, argD4, ?_⟩
  | refine ⟨_, _, rfl, rfl, rfl, ?_⟩
  | refine ⟨_, _, _, rfl, rfl, rfl, ?_⟩
  | refine ⟨(by simp only [List.length_cons, List.length_nil]; decide), ?_⟩
  | refine ⟨rfl, nd1, ?_⟩
  | refine ⟨rfl, nd0, ?_⟩
  | refine ⟨_, argD8, ?_⟩
  | refine ⟨_, argD10, ?_⟩)
local macro_rules | `(tactic| walk_at "p") => `(tactic| refine ⟨_, _, rfl, (by omega), (by first | decide | omega), (by first | decide | omega), ?_⟩)
local macro_rules | `(tactic| walk_at "n") => `(tactic| try dsimp only [back, List.set_cons_zero, List.set_cons_succ, List.map_cons, List.map_nil, List.cons_append, List.nil_append])
local macro_rules | `(tactic| walk_at "q") => `(tactic| first | with_reducible refine ws_seqP (ws_par (by with_unfolding_all exact rfl) (by with_unfolding_all exact rfl) ?_) | refine ⟨_, _, rfl, ?_⟩ | walk_at "v")
theorem valZ_at : ∀ {hs ns : List Int} {k : Nat} {x y : Int}, hs.Nodup → hs[k]? = some x → ns[k]? = some y → valZ (hs.zip ns) x = some y
  | h :: hs, n :: ns, 0, x, y, _, h1, h2 => by
    cases h1
    cases h2
    unfold valZ
    rw [List.zip_cons_cons, List.find?_cons]
    simp
  | h :: hs, n :: ns, k + 1, x, y, hn, h1, h2 => by
    obtain ⟨a1, a2⟩ := List.nodup_cons.mp hn
    have hx : hs[k]? = some x := by simpa using h1
    have hne : ¬ h = x := fun e => a1 (e ▸ List.mem_of_getElem? hx)
    unfold valZ
    rw [List.zip_cons_cons, List.find?_cons]
    simp only [hne, decide_false]
    exact valZ_at a2 hx (by simpa using h2)
  | [], _, k, x, y, _, h1, _ => by simp at h1
  | _ :: _, [], k, x, y, _, _, h2 => by simp at h2
theorem nm_at {hs ns : List Int} {k : Nat} {x y : Int} (hn : hs.Nodup) (h1 : hs[k]? = some x) (h2 : ns[k]? = some y) : nm hs ns x = y := by
  unfold nm
  rw [valZ_at hn h1 h2]
  rfl
theorem at_of_mem {hs ns : List Int} {x : Int} (hx : x ∈ hs) (hl : hs.length = ns.length) : ∃ (k : Nat) (y : Int), hs[k]? = some x ∧ ns[k]? = some y := by
  obtain ⟨k, hk⟩ := List.getElem?_of_mem hx
  have := (List.getElem?_eq_some_iff.mp hk).1
  exact ⟨k, ns[k]'(by omega), hk, List.getElem?_eq_getElem (by omega)⟩
/-- fresh names -/
structure Fresh (k : Nat) (ns : List Int) : Prop where
  len : ns.length = k
  nd : ns.Nodup
  rng : ∀ x ∈ ns, 0 ≤ x ∧ x < 10 ^ 12
abbrev t_law_names_0 (K : PySem.W.Frag) : TS :=
  (tSeq (tIfS (tTest (tOp (rEqD K) (tCall (sp_law_pick K) [] E0 (tCons (tVar 0) (tCons (tC (.int 4)) tNil))) (tC (.int 3)))) (tAsg (tVar 1) (gName 4)) tNext)
    (tRet (tCall (sp_law_shuffled K) [] E0 (tCons (tVar 0) (tCons (tVar 4) tNil)))))
abbrev t_law_names_1 (K : PySem.W.Frag) : TS :=
  (tSeq (tAsg (tLc (iRng1 (tCons (tCB (rLenA K) (tCons (tVar 1) tNil)) tNil)) (gName 5) tYes (tOp (rPlus K) (tVar 2) (tOp (rMulI) (tVar 5) (tVar 3))) [5]) (gName 4))
    (t_law_names_0 K))
abbrev t_law_names_2 (K : PySem.W.Frag) : TS :=
  (tSeq (tAsg (tOp (rPlus K) (tC (.int 1)) (tCall (sp_law_pick K) [] E0 (tCons (tVar 0) (tCons (tOp (rIx K) (tLst (tCons (tC (.int 1)) (tCons (tC (.int 4)) (tCons (tOp (rMulI) (tC (.int 5)) (tOp (rPowI) (tC (.int 10)) (tC (.int 6)))) tNil)))) (tCall (sp_law_pick K) [] E0 (tCons (tVar 0) (tCons (tC (.int 3)) tNil)))) tNil)))) (gName 3))
    (t_law_names_1 K))
abbrev t_law_names_3 (K : PySem.W.Frag) : TS :=
  (tSeq (tAsg (tOp (rIx K) (tLst (tCons (tC (.int 0)) (tCons (tCall (sp_law_pick K) [] E0 (tCons (tVar 0) (tCons (tC (.int 5)) tNil))) (tCons (tCall (sp_law_pick K) [] E0 (tCons (tVar 0) (tCons (tOp (rPowI) (tC (.int 10)) (tC (.int 8))) tNil))) tNil)))) (tCall (sp_law_pick K) [] E0 (tCons (tVar 0) (tCons (tC (.int 3)) tNil)))) (gName 2))
    (t_law_names_2 K))
def t_law_names (K : PySem.W.Frag) : TS :=
  (t_law_names_3 K)
abbrev N_law_names : List Str := ["urn", "old", "start", "step", "names", "k"]
abbrev F_law_names : Fw := fun gs kk xx => ∃ (m : Nat) (hs : List Int), gs = [urn m, dat (.list (hs.map .int))] ∧ 300 ≤ m ∧ hs.length ≤ 200 ∧ hs.Nodup ∧ (∀ x ∈ hs, 0 ≤ x ∧ x < 10 ^ 12) ∧ ∀ ns, Fresh hs.length ns → kk (own (ns.map .int)) [some (urn (m - 300)), none]
abbrev sp_law_names (K : PySem.W.Frag) : Sp := SpG 2 F_law_names
theorem pure_law_names {K : PySem.W.Frag} {vs : List V} {H : Hp} {Q : VK} {E : XK} (h : sp_law_names K vs H Q E) : t_law_names K { nx := fun _ H' => Q .non H', rt := Q } (start N_law_names vs) H := by
  refine body_ok (fun i => i == 0) ?_ h
  rintro gs kk xx ⟨m, hs, rfl, hm, hc, hnd, hr, hk⟩ -
  unfold t_law_names
  show WS _ _ [some (urn m), some (dat (.list (hs.map .int))), none, none, none, none] _
  repeat walk_at "v"
  walk_at "p"
  intro r' r0' r1'
  repeat walk_at "v"
  refine ok_pow (cpow_of (by decide) (by decide) (by decide)) ?_
  repeat walk_at "v"
  walk_at "p"
  intro r r0 r1
  have r1 : r < 100000000 := r1
  repeat walk_at "v"
  walk_at "p"
  intro s s0 s1
  repeat walk_at "v"
  refine ok_ixMem s0 s1 fun d hd => ?_
  obtain ⟨a, rfl, a0, a1⟩ : ∃ x : Int, d = .int x ∧ 0 ≤ x ∧ x < 100000000 := by
    simp only [List.mem_cons, List.not_mem_nil, or_false] at hd
    rcases hd with e | e | e <;> exact ⟨_, e, by omega, by omega⟩
  clear hd
  walk_at "n"
  repeat walk_at "v"
  refine ok_pow (cpow_of (by decide) (by decide) (by decide)) ?_
  repeat walk_at "v"
  refine ok_mul (cmul_l (by decide) (by decide)) ?_
  repeat walk_at "v"
  walk_at "p"
  intro t t0 t1
  repeat walk_at "v"
  refine ok_ixMem t0 t1 fun d hd => ?_
  obtain ⟨b, rfl, b0, b1⟩ : ∃ x : Int, d = .int x ∧ 1 ≤ x ∧ x ≤ 5000000 := by
    simp only [List.mem_cons, List.not_mem_nil, or_false] at hd
    rcases hd with e | e | e <;> exact ⟨_, e, by decide, by decide⟩
  clear hd
  repeat walk_at "v"
  walk_at "p"
  intro u u0 u1
  walk_at "n"
  repeat walk_at "v"
  refine we_lcM (fun i : Nat => .int (i : Int)) .int (fun i : Nat => a + (i : Int) * (1 + u)) (wil_range1 ?_)
  repeat walk_at "v"
  rw [List.length_map]
  refine ⟨by omega, by omega, List.range hs.length, by rw [Int.toNat_natCast], rfl, by rw [List.length_range]; omega, fun i hi => ?_, ?_⟩
  · have hi := List.mem_range.mp hi
    refine wg_name rfl ?_
    repeat walk_at "v"
    refine ok_mul (cmul_r (by omega) (by omega)) ?_
    repeat walk_at "v"
    exact ⟨rfl, rfl⟩
  generalize hxs : (List.range hs.length).map (fun i : Nat => a + (i : Int) * (1 + u)) = xs
  have xl : xs.length = hs.length := by rw [← hxs]; simp
  have xn : xs.Nodup := by
    rw [← hxs]
    refine List.pairwise_map.mpr (List.Pairwise.imp (fun {i j} hij e => ?_) List.pairwise_lt_range)
    have h1 : ((j : Int) - i) * (1 + u) = 0 := by
      rw [Int.sub_mul]
      omega
    rcases Int.mul_eq_zero.mp h1 with h | h <;> omega
  have xr : ∀ x ∈ xs, 0 ≤ x ∧ x < 10 ^ 12 := fun x hx => by
    rw [← hxs] at hx
    obtain ⟨i, hi, rfl⟩ := List.mem_map.mp hx
    have hi := List.mem_range.mp hi
    have h1 : 0 ≤ (i : Int) * (1 + u) := Int.mul_nonneg (by omega) (by omega)
    have h2 : (i : Int) * (1 + u) ≤ 200 * 5000001 := Int.mul_le_mul (by omega) (by omega) (by omega) (by omega)
    omega
  clear hxs
  walk_at "n"
  refine ws_cut (fun Γ => ∃ (m1 : Nat) (g : Gp) (ys : List Int), Γ = [some (urn m1), some (dat (.list (hs.map .int))), some (dat (.int a)), some (dat (.int (1 + u))), some g, none] ∧ Frz g (dP (.list (ys.map .int))) ∧ ys.length = hs.length ∧ ys.Nodup ∧ (∀ x ∈ ys, 0 ≤ x ∧ x < 10 ^ 12) ∧ m ≤ m1 + 10) ?_ ?_
  · refine ws_if ?_
    repeat walk_at "v"
    walk_at "p"
    intro z z0 z1
    repeat walk_at "v"
    refine ite_dec (fun _ => ?_) fun _ => ws_next ⟨_, _, xs, rfl, frz_own, xl, xn, xr, by omega⟩
    repeat walk_at "v"
    exact ⟨_, _, hs, rfl, frz_per, rfl, hnd, hr, by omega⟩
  rintro _ ⟨m1, g, ys, rfl, hg, y1, y2, y3, hm1⟩
  refine ws_frz (i := 4) rfl hg ?_
  walk_at "n"
  repeat walk_at "v"
  refine ⟨_, _, rfl, by rw [List.length_map]; omega, by rw [List.length_map]; omega, fun es he => ?_⟩
  obtain ⟨ns, rfl, hns⟩ := perm_ints he
  rw [List.length_map]
  exact ⟨_, _, Ent.refl, les_some (urn_le (by omega)) (les_none les_nil), hk ns ⟨by rw [hns.length_eq, y1], hns.nodup_iff.mpr y2, fun x hx => y3 x (hns.mem_iff.mp hx)⟩⟩
abbrev t_law_known_0 (K : PySem.W.Frag) : TS :=
  (tFor (iList K (tVar 2)) (gName 3) (tIfS (tTest (tOp (rNotInD K) (tVar 3) (tVar 1))) (tDrop (tBM K "list" (rAppend) (tVar 1) (tCons (tVar 3) tNil))) tNext))
abbrev t_law_known_1 (K : PySem.W.Frag) : TS :=
  (tSeq (tAsg (tLst tNil) (gName 1))
    (tSeq (tFor (iList K (tVar 0)) (gName 2) (t_law_known_0 K))
    (tRet (tCB (rSortA K) (tCons (tVar 1) tNil)))))
def t_law_known (K : PySem.W.Frag) : TS :=
  (t_law_known_1 K)
abbrev N_law_known : List Str := ["rows", "found", "row", "hue"]
abbrev F_law_known : Fw := fun gs kk xx => ∃ (ls : List (List Int)), gs = [dat (.list (ls.map rowI))] ∧ (ls.map List.length).sum < 4000 ∧ ls.length < 4000 ∧ ∀ hs, IsHues ls hs → kk (own (hs.map .int)) [none]
abbrev sp_law_known (K : PySem.W.Frag) : Sp := SpG 1 F_law_known
theorem pure_law_known {K : PySem.W.Frag} {vs : List V} {H : Hp} {Q : VK} {E : XK} (h : sp_law_known K vs H Q E) : t_law_known K { nx := fun _ H' => Q .non H', rt := Q } (start N_law_known vs) H := by
  refine body_ok (fun _ => false) ?_ h
  rintro gs kk xx ⟨ls, rfl, hsum, hll, hk⟩ -
  unfold t_law_known
  show WS _ _ [some (dat (.list (ls.map rowI))), none, none, none] _
  repeat walk_at "v"
  walk_at "n"
  refine ws_seq (ws_forF rowI (fun pre Γ => ∃ (fs : List Int) (o2 o3 : Option Gp), Γ = [some (dat (.list (ls.map rowI))), some (own (fs.map .int)), o2, o3] ∧ fs.Nodup ∧ ∀ x, x ∈ fs ↔ ∃ l ∈ pre, x ∈ l) (wil_list ?_))
  repeat walk_at "v"
  have flen : ∀ {fs : List Int} {pre : List (List Int)} {pre2 : List Int}, fs.Nodup → (∀ x, x ∈ fs → (∃ l ∈ pre, x ∈ l) ∨ x ∈ pre2) → fs.length ≤ (pre.map List.length).sum + pre2.length := fun {fs pre pre2} hn h => by
    have := int_nd_len fs (pre.flatten ++ pre2) hn fun x hx => by
      rcases h x hx with ⟨l, h1, h2⟩ | h2
      · exact List.mem_append.mpr (.inl (List.mem_flatten.mpr ⟨l, h1, h2⟩))
      · exact List.mem_append.mpr (.inr h2)
    rwa [List.length_append, List.length_flatten] at this
  refine ⟨⟨[], _, _, rfl, List.nodup_nil, fun x => by simp⟩, ?_, ?_⟩
  · rintro _ ⟨fs, o2, o3, rfl, h1, h2⟩
    repeat walk_at "v"
    refine ck_sortI fun r hp hs => ?_
    exact ⟨_, _, Ent.refl, les_none les_nil, hk r ⟨lt_of_le hs (hp.nodup_iff.mpr h1), fun x => by rw [hp.mem_iff, h2]⟩⟩
  · rintro pre l post _ hs ⟨fs, o2, o3, rfl, h1, h2⟩
    have hpl : (pre.map List.length).sum + l.length < 4000 := by
      rw [hs, List.map_append, List.sum_append, List.map_cons, List.sum_cons] at hsum
      omega
    show WG _ _ (dP (.list (l.map .int))) _ _
    refine wg_name rfl ?_
    walk_at "n"
    refine ws_forF .int (fun pre2 Γ => ∃ (fs : List Int) (o3 : Option Gp), Γ = [some (dat (.list (ls.map rowI))), some (own (fs.map .int)), some (dat (.list (l.map .int))), o3] ∧ fs.Nodup ∧ ∀ x, x ∈ fs ↔ (∃ l ∈ pre, x ∈ l) ∨ x ∈ pre2) (wil_list ?_)
    repeat walk_at "v"
    refine ⟨⟨fs, _, rfl, h1, fun x => by rw [h2]; simp⟩, ?_, ?_⟩
    · rintro _ ⟨gs, o3, rfl, h3, h4⟩
      refine ⟨gs, _, _, rfl, h3, fun x => ?_⟩
      rw [h4]
      simp only [List.mem_append, List.mem_singleton]
      constructor
      · rintro (⟨z, a1, a2⟩ | h)
        · exact ⟨z, .inl a1, a2⟩
        · exact ⟨l, .inr rfl, h⟩
      · rintro ⟨z, a1 | a1, a2⟩
        · exact .inl ⟨z, a1, a2⟩
        · exact .inr (a1 ▸ a2)
    · rintro pre2 x post2 _ hs2 ⟨gs, o3, rfl, h3, h4⟩
      have hgl := flen h3 fun x hx => (h4 x).mp hx
      have hp2 : pre2.length < l.length := by rw [hs2]; simp
      refine wg_name rfl ?_
      walk_at "n"
      repeat walk_at "v"
      refine ⟨⟨lay_int.shaped, lay_ints.shaped⟩, ?_⟩
      rw [any_ints]
      refine ⟨_, frz_per, _, rfl, ite_ndec (fun h => ?_) fun h => ?_⟩
      · repeat walk_at "v"
        refine ⟨_, _, _, _, rfl, argD1 (d := .int x), mo_append (by rw [List.length_map]; omega), ?_⟩
        refine ⟨gs ++ [x], _, by rw [List.map_append]; rfl, List.nodup_append.mpr ⟨h3, by simp, fun a ha b hb e => ?_⟩, fun y => ?_⟩
        · rw [List.mem_singleton.mp hb] at e
          exact h (e ▸ ha)
        · rw [List.mem_append, h4, List.mem_append, or_assoc]
      · refine ws_next ⟨gs, _, rfl, h3, fun y => ?_⟩
        rw [h4, List.mem_append, List.mem_singleton]
        constructor
        · rintro (a | a)
          · exact .inl a
          · exact .inr (.inl a)
        · rintro (a | a | a)
          · exact .inl a
          · exact .inr a
          · rw [a]; exact (h4 x).mp h
end G

namespace G
open PySem L2
local macro_rules | `(tactic| walk_at "g1") => `(tactic| first
  | (with_reducible show WE _ _ _; with_reducible first | refine we_var (by with_unfolding_all exact rfl) ?_ | (show WE (tOp _ _ _) _ _; first | refine we_ixS (by with_unfolding_all exact rfl) ?_ | refine we_ixScr (by with_unfolding_all exact rfl) ?_ | refine we_inS (by with_unfolding_all exact rfl) ?_ | refine we_notInS (by with_unfolding_all exact rfl) ?_ | refine we_eqS (by with_unfolding_all exact rfl) ?_ | refine we_neS (by with_unfolding_all exact rfl) ?_ | refine we_opK ?_) | (show WE (tCB _ _) _ _; first | refine we_lenS' (by with_unfolding_all exact rfl) ?_ | refine we_lenScr (by with_unfolding_all exact rfl) ?_ | refine we_cbK ?_) | refine we_int ?_ | refine we_bl ?_ | refine we_non ?_ | refine we_str ?_ | refine we_neg ?_ | refine we_not ?_ | refine we_and ?_ | refine we_or ?_ | refine we_if ?_ | refine we_tup ?_ | refine we_lst ?_ | refine we_call ?_ | refine we_mt (by with_unfolding_all exact rfl) ?_)
  | (with_reducible show WS _ _ _ _; with_reducible first | refine ws_seqA ?_ | refine ws_seqD ?_ | refine ws_asg (by with_unfolding_all exact rfl) ?_ | refine ws_asgG ?_ | refine ws_if ?_ | refine ws_ret ?_ | refine ws_drop ?_ | refine ws_next ?_ | refine ws_retN ?_)
  | (with_reducible show WT _ _ _; with_reducible first | refine wt_test ?_ | refine wt_B ?_ | refine wt_not ?_ | refine wt_and ?_ | refine wt_or ?_ | refine wt_yes ?_)
  | (with_reducible show WA _ _ _; with_reducible first | refine wa_nil ?_ | refine wa_cons (wq_of (we_var (by with_unfolding_all exact rfl) ?_)) | refine wa_slotU (by with_unfolding_all exact rfl) ?_ | refine wa_cons ?_)
  | (with_reducible show OpK _ _ _ _ _; with_reducible first | refine ok_plusI ?_ | refine ok_sub ?_ | refine ok_lt ?_ | refine ok_le ?_ | refine ok_gt ?_ | refine ok_ge ?_ | refine ok_eqI ?_ | refine ok_neI ?_ | refine ok_mod (by first | assumption | decide | omega) ?_ | refine ok_ixL (by with_unfolding_all exact rfl) ?_)
  | (with_reducible show CbK _ _ _ _; with_reducible first | refine ck_lenL ?_ | refine ck_lenT ?_ | refine ck_int ?_ | refine ck_intB ?_ | refine ck_max ?_ | refine ck_min ?_ | refine ck_list ?_)
  | with_reducible refine wq_of ?_
  | (with_reducible show WG _ _ _ _ _; with_reducible first | refine wg_name (by with_unfolding_all exact rfl) ?_ | refine wg_tup (by with_unfolding_all exact rfl) ?_ | refine wg_set (by with_unfolding_all exact rfl) ?_)
  | (with_reducible show WGs _ _ _ _ _; with_reducible first | refine wgs_cons ?_ | refine wgs_nil ?_)
  | with_reducible refine iteT ?_
  | with_reducible refine iteF ?_
  | with_reducible refine ⟨_, frz_per, ?_⟩
  | with_reducible refine ⟨_, frz_own, ?_⟩
  | refine ⟨_, rfl, ?_⟩
  | refine ⟨_, argD1, ?_⟩
  | refine ⟨_, argD2, ?_⟩
  | refine ⟨_, argD0, ?_⟩
  | refine ⟨_, argD3, ?_⟩
  | refine ⟨_, argD4, ?_⟩
  | refine ⟨_, _, rfl, rfl, rfl, ?_⟩
  | refine ⟨_, _, _, rfl, rfl, rfl, ?_⟩
  | refine ⟨(by simp only [List.length_cons, List.length_nil]; decide), ?_⟩
  | refine ⟨rfl, nd1, ?_⟩
  | refine ⟨rfl, nd0, ?_⟩)
local macro_rules | `(tactic| walk_at "go") => `(tactic| repeat walk_at "g1")
local macro_rules | `(tactic| walk_at "g2") => `(tactic| first
  | (with_reducible show WE _ _ _; with_reducible first | refine we_var (by with_unfolding_all exact rfl) ?_ | (show WE (tOp _ _ _) _ _; first | refine we_notN ?_ | refine we_ixS (by with_unfolding_all exact rfl) ?_ | refine we_ixScr (by with_unfolding_all exact rfl) ?_ | refine we_inS (by with_unfolding_all exact rfl) ?_ | refine we_notInS (by with_unfolding_all exact rfl) ?_ | refine we_eqS (by with_unfolding_all exact rfl) ?_ | refine we_neS (by with_unfolding_all exact rfl) ?_ | refine we_opK ?_) | (show WE (tCB _ _) _ _; first | refine we_isInt ?_ | refine we_isBl ?_ | refine we_isLst ?_ | refine we_isTup ?_ | refine we_lenO (by with_unfolding_all exact rfl) ?_ | refine we_lenS' (by with_unfolding_all exact rfl) ?_ | refine we_lenScr (by with_unfolding_all exact rfl) ?_ | refine we_cbK ?_) | refine we_chain ?_ | refine we_slice ?_ | refine we_int ?_ | refine we_bl ?_ | refine we_non ?_ | refine we_str ?_ | refine we_neg ?_ | refine we_not ?_ | refine we_and ?_ | refine we_or ?_ | refine we_if ?_ | refine we_tup ?_ | refine we_lst ?_ | refine we_call ?_ | refine we_mt (by with_unfolding_all exact rfl) ?_)
  | (with_reducible show WS _ _ _ _; with_reducible first | refine ws_seqA ?_ | refine ws_seqD ?_ | refine ws_asg (by with_unfolding_all exact rfl) ?_ | refine ws_asgG ?_ | refine ws_if ?_ | refine ws_ret ?_ | refine ws_drop ?_ | refine ws_next ?_ | refine ws_retN ?_)
  | (with_reducible show WT _ _ _; with_reducible first | refine wt_test ?_ | refine wt_B ?_ | refine wt_not ?_ | refine wt_and ?_ | refine wt_or ?_ | refine wt_yes ?_)
  | (with_reducible show WA _ _ _; with_reducible first | refine wa_nil ?_ | refine wa_cons (wq_of (we_var (by with_unfolding_all exact rfl) ?_)) | refine wa_slotU (by with_unfolding_all exact rfl) ?_ | refine wa_cons ?_)
  | (with_reducible show OpK _ _ _ _ _; with_reducible first | refine ok_isB ?_ | refine ok_notB ?_ | refine ok_plusI ?_ | refine ok_sub ?_ | refine ok_lt ?_ | refine ok_le ?_ | refine ok_gt ?_ | refine ok_ge ?_ | refine ok_eqI ?_ | refine ok_neI ?_ | refine ok_mod (by first | assumption | decide | omega) ?_ | refine ok_ixL (by with_unfolding_all exact rfl) ?_)
  | (with_reducible show CbK _ _ _ _; with_reducible first | refine ck_lenL ?_ | refine ck_lenT ?_ | refine ck_int ?_ | refine ck_intB ?_ | refine ck_max ?_ | refine ck_min ?_ | refine ck_list ?_)
  | with_reducible refine wq_of ?_
  | (with_reducible show WG _ _ _ _ _; with_reducible first | refine wg_name (by with_unfolding_all exact rfl) ?_ | refine wg_tup (by with_unfolding_all exact rfl) ?_ | refine wg_set (by with_unfolding_all exact rfl) ?_)
  | (with_reducible show WGs _ _ _ _ _; with_reducible first | refine wgs_cons ?_ | refine wgs_nil ?_)
  | (with_reducible show WO _ _ _; with_reducible first | refine wo_some ?_ | refine wo_none ?_)
  | refine ⟨_, argD5, ?_⟩
  | refine ⟨_, argD6, ?_⟩
  | refine ⟨_, argD7, ?_⟩
  | refine ⟨_, argD9, ?_⟩
  | with_reducible refine iteT ?_
  | with_reducible refine iteF ?_
  | with_reducible refine ⟨_, frz_per, ?_⟩
  | with_reducible refine ⟨_, frz_own, ?_⟩
  | refine ⟨_, rfl, ?_⟩
  | refine ⟨_, argD1, ?_⟩
  | refine ⟨_, argD2, ?_⟩
  | refine ⟨_, argD0, ?_⟩
  | refine ⟨_, argD3, ?_⟩
  | refine ⟨_, argD4, ?_⟩
  | refine ⟨_, _, rfl, rfl, rfl, ?_⟩
  | refine ⟨_, _, _, rfl, rfl, rfl, ?_⟩
  | refine ⟨(by simp only [List.length_cons, List.length_nil]; decide), ?_⟩
  | refine ⟨rfl, nd1, ?_⟩
  | refine ⟨rfl, nd0, ?_⟩)
local macro_rules | `(tactic| walk_at "w") => `(tactic| first
  | (with_reducible show WE _ _ _; with_reducible first | refine we_var (by with_unfolding_all exact rfl) ?_ | refine we_varF (by with_unfolding_all exact rfl) frz_own ?_ | (show WE (tOp _ _ _) _ _; first | refine we_isNd ?_ | refine we_notNd ?_ | refine we_notN ?_ | refine we_ixS (by with_unfolding_all exact rfl) ?_ | refine we_ixScr (by with_unfolding_all exact rfl) ?_ | refine we_inS (by with_unfolding_all exact rfl) ?_ | refine we_notInS (by with_unfolding_all exact rfl) ?_ | refine we_eqS (by with_unfolding_all exact rfl) ?_ | refine we_neS (by with_unfolding_all exact rfl) ?_ | refine we_opK ?_) | (show WE (tCB _ _) _ _; first | refine we_repr ?_ | refine we_isInt ?_ | refine we_isBl ?_ | refine we_isLst ?_ | refine we_isTup ?_ | refine we_lenO (by with_unfolding_all exact rfl) ?_ | refine we_lenS' (by with_unfolding_all exact rfl) ?_ | refine we_lenScr (by with_unfolding_all exact rfl) ?_ | refine we_cbK ?_) | refine we_dnew ?_ | refine we_lenSetI ?_ | refine we_revL ?_ | refine we_chain ?_ | refine we_slice ?_ | refine we_int ?_ | refine we_bl ?_ | refine we_non ?_ | refine we_str ?_ | refine we_neg ?_ | refine we_not ?_ | refine we_and ?_ | refine we_or ?_ | refine we_if ?_ | refine we_tup ?_ | refine we_lst ?_ | refine we_call ?_ | refine we_mt (by with_unfolding_all exact rfl) ?_)
  | (with_reducible show WS _ _ _ _; with_reducible first | refine ws_seqI ?_ | refine ws_seqA ?_ | refine ws_seqD ?_ | refine ws_asg (by with_unfolding_all exact rfl) ?_ | refine ws_asgG ?_ | refine ws_if ?_ | refine ws_ret ?_ | refine ws_drop ?_ | refine ws_next ?_ | refine ws_retN ?_)
  | (with_reducible show WT _ _ _; with_reducible first | refine wt_truL ?_ | refine wt_test ?_ | refine wt_B ?_ | refine wt_not ?_ | refine wt_and ?_ | refine wt_or ?_ | refine wt_yes ?_)
  | (with_reducible show WA _ _ _; with_reducible first | refine wa_nil ?_ | refine wa_cons (wq_of (we_var (by with_unfolding_all exact rfl) ?_)) | refine wa_slotU (by with_unfolding_all exact rfl) ?_ | refine wa_cons ?_)
  | (with_reducible show OpK _ _ _ _ _; with_reducible first | refine ok_neR ?_ | refine ok_eqR ?_ | refine ok_isB ?_ | refine ok_notB ?_ | refine ok_plusI ?_ | refine ok_sub ?_ | refine ok_lt ?_ | refine ok_le ?_ | refine ok_gt ?_ | refine ok_ge ?_ | refine ok_eqI ?_ | refine ok_neI ?_ | refine ok_mod (by first | assumption | decide | omega) ?_ | refine ok_ixL (by with_unfolding_all exact rfl) ?_)
  | (with_reducible show CbK _ _ _ _; with_reducible first | refine ck_tuple ?_ | refine ck_allF ?_ | refine ck_anyF ?_ | refine ck_abs ?_ | refine ck_sumI ?_ | refine ck_lenL ?_ | refine ck_lenT ?_ | refine ck_int ?_ | refine ck_intB ?_ | refine ck_max ?_ | refine ck_min ?_ | refine ck_list ?_)
  | with_reducible refine wq_of ?_
  | (with_reducible show WG _ _ _ _ _; with_reducible first | refine wg_name (by with_unfolding_all exact rfl) ?_ | refine wg_tup (by with_unfolding_all exact rfl) ?_ | refine wg_set (by with_unfolding_all exact rfl) ?_)
  | (with_reducible show WGs _ _ _ _ _; with_reducible first | refine wgs_cons ?_ | refine wgs_nil ?_)
  | (with_reducible show WO _ _ _; with_reducible first | refine wo_some ?_ | refine wo_none ?_)
  | refine ⟨_, argD5, ?_⟩
  | refine ⟨_, argD6, ?_⟩
  | refine ⟨_, argD7, ?_⟩
  | refine ⟨_, argD9, ?_⟩
  | with_reducible refine iteT ?_
  | with_reducible refine iteF ?_
  | with_reducible refine ⟨_, frz_per, ?_⟩
  | with_reducible refine ⟨_, frz_own, ?_⟩
  | refine ⟨_, rfl, ?_⟩
  | refine ⟨_, argD1, ?_⟩
  | refine ⟨_, argD2, ?_⟩
  | refine ⟨_, argD0, ?_⟩
  | refine ⟨_, argD3, ?_⟩
  | refine ⟨_, argD4, ?_⟩
  | refine ⟨_, _, rfl, rfl, rfl, ?_⟩
  | refine ⟨_, _, _, rfl, rfl, rfl, ?_⟩
  | refine ⟨(by simp only [List.length_cons, List.length_nil]; decide), ?_⟩
  | refine ⟨rfl, nd1, ?_⟩
  | refine ⟨rfl, nd0, ?_⟩
  | refine ⟨_, argD8, ?_⟩
  | refine ⟨_, argD10, ?_⟩)
local macro_rules | `(tactic| walk_at "v") => `(tactic| first
  | (with_reducible show WE _ _ _; with_reducible first | refine we_var (by with_unfolding_all exact rfl) ?_ | refine we_varF (by with_unfolding_all exact rfl) frz_own ?_ | (show WE (tOp _ _ _) _ _; first | refine we_isNd ?_ | refine we_notNd ?_ | refine we_notN ?_ | refine we_ixS (by with_unfolding_all exact rfl) ?_ | refine we_ixScr (by with_unfolding_all exact rfl) ?_ | refine we_inS (by with_unfolding_all exact rfl) ?_ | refine we_notInS (by with_unfolding_all exact rfl) ?_ | refine we_eqS (by with_unfolding_all exact rfl) ?_ | refine we_neS (by with_unfolding_all exact rfl) ?_ | refine we_opK ?_) | (show WE (tCB _ _) _ _; first | refine we_repr ?_ | refine we_lenWeb (by with_unfolding_all exact rfl) (by assumption) ?_ | refine we_isInt ?_ | refine we_isBl ?_ | refine we_isLst ?_ | refine we_isTup ?_ | refine we_lenO (by with_unfolding_all exact rfl) ?_ | refine we_lenS' (by with_unfolding_all exact rfl) ?_ | refine we_lenScr (by with_unfolding_all exact rfl) ?_ | refine we_cbK ?_) | refine we_dnew ?_ | refine we_lenSetI ?_ | refine we_revL ?_ | refine we_nbWeb (by with_unfolding_all exact rfl) (by assumption) (by assumption) ?_ | refine we_tiesWeb (by with_unfolding_all exact rfl) ?_ | refine we_chain ?_ | refine we_slice ?_ | refine we_int ?_ | refine we_bl ?_ | refine we_non ?_ | refine we_str ?_ | refine we_neg ?_ | refine we_not ?_ | refine we_and ?_ | refine we_or ?_ | refine we_if ?_ | refine we_tup ?_ | refine we_lst ?_ | refine we_call ?_ | refine we_mt (by with_unfolding_all exact rfl) ?_)
  | (with_reducible show WS _ _ _ _; with_reducible first | refine ws_seqI ?_ | refine ws_seqA ?_ | refine ws_seqD ?_ | refine ws_asg (by with_unfolding_all exact rfl) ?_ | refine ws_asgG ?_ | refine ws_if ?_ | refine ws_ret ?_ | refine ws_drop ?_ | refine ws_next ?_ | refine ws_retN ?_)
  | (with_reducible show WT _ _ _; with_reducible first | refine wt_truL ?_ | refine wt_test ?_ | refine wt_B ?_ | refine wt_not ?_ | refine wt_and ?_ | refine wt_or ?_ | refine wt_yes ?_)
  | (with_reducible show WA _ _ _; with_reducible first | refine wa_nil ?_ | refine wa_cons (wq_of (we_var (by with_unfolding_all exact rfl) ?_)) | refine wa_slotU (by with_unfolding_all exact rfl) ?_ | refine wa_cons ?_)
  | (with_reducible show OpK _ _ _ _ _; with_reducible first | refine ok_neR ?_ | refine ok_eqR ?_ | refine ok_isB ?_ | refine ok_notB ?_ | refine ok_plusI ?_ | refine ok_sub ?_ | refine ok_lt ?_ | refine ok_le ?_ | refine ok_gt ?_ | refine ok_ge ?_ | refine ok_eqI ?_ | refine ok_neI ?_ | refine ok_mod (by first | assumption | decide | omega) ?_ | refine ok_ixL (by with_unfolding_all exact rfl) ?_)
  | (with_reducible show CbK _ _ _ _; with_reducible first | refine ck_tuple ?_ | refine ck_allF ?_ | refine ck_anyF ?_ | refine ck_abs ?_ | refine ck_sumI ?_ | refine ck_lenL ?_ | refine ck_lenT ?_ | refine ck_int ?_ | refine ck_intB ?_ | refine ck_max ?_ | refine ck_min ?_ | refine ck_list ?_)
  | with_reducible refine wq_of ?_
  | (with_reducible show WG _ _ _ _ _; with_reducible first | refine wg_name (by with_unfolding_all exact rfl) ?_ | refine wg_tup (by with_unfolding_all exact rfl) ?_ | refine wg_set (by with_unfolding_all exact rfl) ?_)
  | (with_reducible show WGs _ _ _ _ _; with_reducible first | refine wgs_cons ?_ | refine wgs_nil ?_)
  | (with_reducible show WO _ _ _; with_reducible first | refine wo_some ?_ | refine wo_none ?_)
  | refine ⟨_, argD5, ?_⟩
  | refine ⟨_, argD6, ?_⟩
  | refine ⟨_, argD7, ?_⟩
  | refine ⟨_, argD9, ?_⟩
  | with_reducible refine iteT ?_
  | with_reducible refine iteF ?_
  | with_reducible refine ⟨_, frz_per, ?_⟩
  | with_reducible refine ⟨_, frz_own, ?_⟩
  | refine ⟨_, rfl, ?_⟩
  | refine ⟨_, argD1, ?_⟩
  | refine ⟨_, argD2, ?_⟩
  | refine ⟨_, argD0, ?_⟩
  | refine ⟨_, argD3, ?_⟩
  | refine ⟨_, argD4, ?_⟩
  | refine ⟨_, _, rfl, rfl, rfl, ?_⟩
  | refine ⟨_, _, _, rfl, rfl, rfl, ?_⟩
  | refine ⟨(by simp only [List.length_cons, List.length_nil]; decide), ?_⟩
  | refine ⟨rfl, nd1, ?_⟩
  | refine ⟨rfl, nd0, ?_⟩
  | refine ⟨_, argD8, ?_⟩
  | refine ⟨_, argD10, ?_⟩)
local macro_rules | `(tactic| walk_at "p") => `(tactic| refine ⟨_, _, rfl, (by omega), (by first | decide | omega), (by first | decide | omega), ?_⟩)
local macro_rules | `(tactic| walk_at "n") => `(tactic| try dsimp only [back, List.set_cons_zero, List.set_cons_succ, List.map_cons, List.map_nil, List.cons_append, List.nil_append])
local macro_rules | `(tactic| walk_at "q") => `(tactic| first | with_reducible refine ws_seqP (ws_par (by with_unfolding_all exact rfl) (by with_unfolding_all exact rfl) ?_) | refine ⟨_, _, rfl, ?_⟩ | walk_at "v")
theorem ints_inj {xs ys : List Int} (e : xs.map PyData.int = ys.map PyData.int) : xs = ys := enc_int.lst.inj (congrArg PyData.list e)
theorem okD_list {m : Nat} {ns : List Int} (hn : ns.Nodup) (h0 : ∀ n ∈ ns, 0 ≤ n) (hl : ns.length = m) : okD m (.list (ns.map .int)) = true := by
  show (((ns.map PyData.int).all cntD && decide (((ns.map PyData.int).map intOf).Nodup)) && decide ((ns.map PyData.int).length = m)) = true
  rw [map_intOf, decide_eq_true hn, List.length_map, decide_eq_true hl, Bool.and_true, Bool.and_true, List.all_eq_true]
  intro d hd
  obtain ⟨x, hx, rfl⟩ := List.mem_map.mp hd
  exact decide_eq_true (h0 x hx)
theorem wholes_ints {ns : List Int} : wholesD (.list (ns.map .int)) = true := by
  show ((ns.map PyData.int).all _) = true
  rw [List.all_map, List.all_eq_true]
  intro x _
  rfl
abbrev t_law_right_0 (K : PySem.W.Frag) (a : Ad) : TS :=
  (tAsg (tLc (iRng1 (tCons (tOp (rPlus K) (tC (.int 1)) (tCall (sp_law_pick K) [] E0 (tCons (tVar 0) (tCons (tC (.int 40)) tNil)))) tNil)) (gName 10) tYes (tCall (sp_law_row K) [] E0 (tCons (tVar 0) (tCons (tCall (sp_law_pool K) [] E0 (tCons (tVar 0) (tCons (tC (.int 5)) tNil))) (tCons (tCall (sp_law_pick K) [] E0 (tCons (tVar 0) (tCons (tC (.int 5)) tNil))) tNil)))) [10]) (gName 1))
abbrev t_law_right_1 (K : PySem.W.Frag) (a : Ad) : TS :=
  (tIfS (tOr (tTest (tOp (rNeD K) (tVar 8) (tLc (iList K (tVar 4)) (gName 9) tYes (tOp (rPlus K) (tVar 9) (tLst (tCons (tVar 7) tNil))) [9]))) (tTest (tOp (rNeD K) (tVar 5) (tVar 1)))) (tRet (tC (.bl false))) tNext)
abbrev t_law_right_2 (K : PySem.W.Frag) (a : Ad) : TS :=
  (tSeq (tIfS (tOr (tTest (tOp (rNeD K) (tVar 5) (tVar 1))) (tTest (tOp (rNeD K) (tVar 6) (tVar 3)))) (tRet (tC (.bl false))) tNext)
    (tSeq (tFor (iList K (tVar 8)) (gName 9) (tDrop (tBM K "list" (rAppend) (tVar 9) (tCons (tVar 7) tNil))))
    (t_law_right_1 K a)))
abbrev t_law_right_3 (K : PySem.W.Frag) (a : Ad) : TS :=
  (tSeq (tIfS (tOr (tNot (tB (tCB (rIsiA K) (tCons (tVar 8) (tCons (tC (.ty "list")) tNil))))) (tOr (tNot (tB (tCB (rAllA K) (tCons (tLc (iList K (tVar 8)) (gName 9) tYes (tCall (sp_law_wholes K) [] E0 (tCons (tVar 9) tNil)) [9]) tNil)))) (tTest (tOp (rNeD K) (tVar 8) (tVar 4))))) (tRet (tC (.bl false))) tNext)
    (t_law_right_2 K a))
abbrev t_law_right_4 (K : PySem.W.Frag) (a : Ad) : TS :=
  (tSeq (tDrop (tBM K "list" (rAppend) (tVar 8) (tCons (tVar 7) tNil)))
    (tSeq (tAsg (tCall (sp_renamed K a) [] E0 (tCons (tVar 5) (tCons (tVar 6) tNil))) (gName 8))
    (t_law_right_3 K a)))
abbrev t_law_right_5 (K : PySem.W.Frag) (a : Ad) : TS :=
  (tSeq (tIfS (tOr (tNot (tB (tCall (sp_law_wholes K) [] E0 (tCons (tVar 8) tNil)))) (tOr (tTest (tOp (rNeD K) (tVar 8) (tVar 2))) (tTest (tOp (rNeD K) (tVar 5) (tVar 1))))) (tRet (tC (.bl false))) tNext)
    (t_law_right_4 K a))
abbrev t_law_right_6 (K : PySem.W.Frag) (a : Ad) : TS :=
  (tSeq (tFor (iRng1 (tCons (tC (.int 2)) tNil)) (gName 7) (tSeq (tAsg (tCall (sp_hues_of K) [] E0 (tCons (tVar 5) tNil)) (gName 8))
    (t_law_right_5 K a)))
    (tRet (tC (.bl true))))
abbrev t_law_right_7 (K : PySem.W.Frag) (a : Ad) : TS :=
  (tSeq (tAsg (tCall (sp_law_copies K) [] E0 (tCons (tVar 1) tNil)) (gName 5))
    (tSeq (tAsg (tCB (rListOf K) (tCons (tVar 3) tNil)) (gName 6))
    (t_law_right_6 K a)))
abbrev t_law_right_8 (K : PySem.W.Frag) (a : Ad) : TS :=
  (tSeq (tAsg (tLc (iList K (tVar 1)) (gName 9) tYes (tCB (rSortA K) (tCons (tLc (iList K (tVar 9)) (gName 11) tYes (tOp (rIx K) (tVar 3) (tBM K "list" (rIndex K) (tVar 2) (tCons (tVar 11) tNil))) [11]) tNil)) [9]) (gName 4))
    (t_law_right_7 K a))
abbrev t_law_right_9 (K : PySem.W.Frag) (a : Ad) : TS :=
  (tSeq (tAsg (tCall (sp_law_known K) [] E0 (tCons (tVar 1) tNil)) (gName 2))
    (tSeq (tAsg (tCall (sp_law_names K) [] E0 (tCons (tVar 0) (tCons (tVar 2) tNil))) (gName 3))
    (t_law_right_8 K a)))
abbrev t_law_right_10 (K : PySem.W.Frag) (a : Ad) : TS :=
  (tSeq (tIfS (tTest (tOp (rEqD K) (tCall (sp_law_pick K) [] E0 (tCons (tVar 0) (tCons (tC (.int 8)) tNil))) (tC (.int 7)))) (t_law_right_0 K a) tNext)
    (t_law_right_9 K a))
abbrev t_law_right_11 (K : PySem.W.Frag) (a : Ad) : TS :=
  (tSeq (tAsg (tCall (sp_law_lists K) [] E0 (tCons (tVar 0) (tCons (tCall (sp_law_pick K) [] E0 (tCons (tVar 0) (tCons (tC (.int 13)) tNil))) (tCons (tCall (sp_law_pick K) [] E0 (tCons (tVar 0) (tCons (tC (.int 5)) tNil))) tNil)))) (gName 1))
    (t_law_right_10 K a))
def t_law_right (K : PySem.W.Frag) (a : Ad) : TS :=
  (t_law_right_11 K a)
abbrev N_law_right : List Str := ["urn", "rows", "old", "names", "due", "passed", "told", "turn", "found", "row", "place", "hue"]
abbrev F_law_right (a : Ad) : Fw := fun gs kk xx => ∃ (m : Nat), gs = [urn m] ∧ 5000 ≤ m ∧ kk (dat (.bool true)) [none]
abbrev sp_law_right (K : PySem.W.Frag) (a : Ad) : Sp := SpG 1 (F_law_right a)
theorem pure_law_right {K : PySem.W.Frag} {a : Ad} {vs : List V} {H : Hp} {Q : VK} {E : XK} (h : sp_law_right K a vs H Q E) :
    t_law_right K a { nx := fun _ H' => Q .non H', rt := Q } (L2.start N_law_right vs) H := by
  refine body_ok (fun i => i == 0) ?_ h
  rintro gs kk xx ⟨m, rfl, hm, hk⟩ -
  unfold t_law_right
  show WS _ _ [some (urn m), none, none, none, none, none, none, none, none, none, none, none] _
  repeat walk_at "v"
  walk_at "p"
  intro n n0 n1
  repeat walk_at "v"
  walk_at "p"
  intro q q0 q1
  obtain ⟨n, rfl⟩ : ∃ x : Nat, n = (x : Int) := ⟨n.toNat, by omega⟩
  obtain ⟨q, rfl⟩ : ∃ x : Nat, q = (x : Int) := ⟨q.toNat, by omega⟩
  repeat walk_at "v"
  refine ⟨_, n, q, rfl, by omega, by omega, by omega, fun ls0 l1 l2 l3 => ?_⟩
  walk_at "n"
  refine ws_frz (i := 1) rfl frz_own ?_
  walk_at "n"
  refine ws_cut (fun Γ => ∃ (m1 : Nat) (g : Gp) (ls : List (List Int)), Γ = [some (urn m1), some g, none, none, none, none, none, none, none, none, none, none] ∧ Frz g (dP (.list (ls.map rowI))) ∧ ls.length ≤ 41 ∧ (∀ l ∈ ls, RowOk l) ∧ (∀ l ∈ ls, l.length ≤ 4) ∧ m ≤ m1 + 2000) ?_ ?_
  · refine ws_if ?_
    repeat walk_at "v"
    walk_at "p"
    intro z z0 z1
    repeat walk_at "v"
    refine ite_dec (fun _ => ?_) fun _ => ws_next ⟨_, _, ls0, rfl, frz_per, by omega, l2, fun l hl => by have := l3 l hl; omega, by omega⟩
    refine ws_asg rfl (we_lc (fun i acc Γ => ∃ (m1 : Nat) (ls : List (List Int)), acc = ls.map rowI ∧ Γ = [some (urn m1), some (dat (.list (ls0.map rowI))), none, none, none, none, none, none, none, none, none, none] ∧ ls.length = i ∧ (∀ l ∈ ls, RowOk l) ∧ (∀ l ∈ ls, l.length ≤ 4) ∧ m ≤ m1 + 1004 + 10 * i) ?_)
    refine wi_range1 ?_
    repeat walk_at "v"
    walk_at "p"
    intro w w0 w1
    repeat walk_at "v"
    refine ⟨by omega, by omega, ⟨_, [], rfl, rfl, rfl, by simp, by simp, by omega⟩, ?_, ?_⟩
    · rintro acc _ ⟨m1, ls, rfl, rfl, a1, a2, a3, a4⟩
      walk_at "n"
      exact ⟨_, _, ls, rfl, frz_own, by omega, a2, a3, by omega⟩
    · rintro i acc _ hi ⟨m1, ls, rfl, rfl, a1, a2, a3, a4⟩ -
      have hi : i < 41 := by omega
      refine wg_name rfl (wt_yes (iteT ?_))
      repeat walk_at "v"
      refine ⟨_, 5, rfl, by omega, by decide, fun ps p1 p2 p3 => ?_⟩
      repeat walk_at "v"
      walk_at "p"
      intro t t0 t1
      repeat walk_at "v"
      refine ⟨_, ps, t, rfl, by omega, by omega, t0, p2, p3, fun qs b1 b2 b3 => ?_⟩
      have hql : qs.length ≤ 4 := by rw [b1]; omega
      refine ⟨_, frz_own, _, rfl, by rw [List.length_map]; omega, _, ls ++ [qs], by rw [List.map_append]; rfl, rfl, by rw [List.length_append, a1]; rfl, fun l hl => ?_, fun l hl => ?_, by omega⟩
      · rcases List.mem_append.mp hl with h | h
        · exact a2 l h
        · rw [List.mem_singleton.mp h]; exact ⟨b2, b3, by omega⟩
      · rcases List.mem_append.mp hl with h | h
        · exact a3 l h
        · rw [List.mem_singleton.mp h]; exact hql
  rintro _ ⟨m1, g, ls, rfl, hg, k1, k2, k3, km⟩
  clear l1 l2 l3
  refine ws_frz (i := 1) rfl hg ?_
  walk_at "n"
  have hsum : (ls.map List.length).sum ≤ 164 := sum_map_len (n := 41) (m := 4) k1 k3
  repeat walk_at "v"
  refine ⟨by omega, by omega, fun hs hH => ?_⟩
  have hhl := hues_len hH
  have hhr : ∀ x ∈ hs, 0 ≤ x ∧ x < 10 ^ 12 := fun x hx => by
    obtain ⟨l, hl, hxl⟩ := (hH.mem x).mp hx
    exact (k2 l hl).nn x hxl
  walk_at "n"
  refine ws_frz (i := 2) rfl frz_own ?_
  walk_at "n"
  repeat walk_at "v"
  refine ⟨_, hs, rfl, by omega, by omega, hH.nd, hhr, fun ns hns => ?_⟩
  walk_at "n"
  refine ws_frz (i := 3) rfl frz_own ?_
  walk_at "n"
  repeat walk_at "v"
  refine we_lcM rowI rowI (fun l => sortZ (l.map (nm hs ns))) (wil_list ?_)
  repeat walk_at "v"
  refine ⟨rfl, by omega, fun l hl => ?_, ?_⟩
  · have hll := k3 l hl
    show WG _ _ (dP (.list (l.map .int))) _ _
    refine wg_name rfl ?_
    repeat walk_at "v"
    refine we_lcM .int .int (nm hs ns) (wil_list ?_)
    repeat walk_at "v"
    refine ⟨rfl, by omega, fun x hx => ?_, ?_⟩
    · obtain ⟨j, y, hj, hy⟩ := at_of_mem (ns := ns) ((hH.mem x).mpr ⟨l, hl, hx⟩) hns.len.symm
      rw [nm_at hH.nd hj hy]
      refine wg_name rfl ?_
      repeat walk_at "v"
      refine we_indexZ ?_
      repeat walk_at "v"
      refine ⟨x, j, argD1, hj, hH.nd, ?_⟩
      repeat walk_at "v"
      refine ok_ixL (atI_map (by omega) (x := y) (by rw [Int.toNat_natCast]; exact hy)) ?_
      exact ⟨_, frz_per, rfl, rfl⟩
    repeat walk_at "v"
    refine ck_sortI fun r hp hs' => ?_
    rw [sortZ_uniq hp hs']
    exact ⟨_, frz_own, rfl, rfl⟩
  rw [show (ls.map fun l => sortZ (l.map (nm hs ns))) = reL hs ns ls from rfl]
  have hTl : (reL hs ns ls).length ≤ 41 := by rw [show (reL hs ns ls).length = ls.length from List.length_map ..]; exact k1
  have hT4 : ∀ l ∈ reL hs ns ls, l.length ≤ 4 := fun l hl => by
    obtain ⟨r, hr, rfl⟩ := List.mem_map.mp hl
    rw [sortZ_perm.length_eq, List.length_map]
    exact k3 r hr
  generalize hTT : reL hs ns ls = TT at *
  walk_at "n"
  refine ws_frz (i := 4) rfl frz_own ?_
  walk_at "n"
  repeat walk_at "v"
  refine ⟨by omega, ?_⟩
  walk_at "n"
  refine ws_frz (i := 5) rfl frz_own ?_
  walk_at "n"
  repeat walk_at "v"
  walk_at "n"
  refine ws_frz (i := 6) rfl frz_own ?_
  walk_at "n"
  refine ws_seq (ws_forF (fun i : Nat => .int (i : Int)) (fun pre Γ => ∃ (m2 : Nat) (o7 o8 : Option Gp), Γ = [some (urn m2), some (dat (.list (ls.map rowI))), some (dat (.list (hs.map .int))), some (dat (.list (ns.map .int))), some (dat (.list (TT.map rowI))), some (dat (.list (ls.map rowI))), some (dat (.list (ns.map .int))), o7, o8, none, none, none]) (wil_range1 ?_))
  repeat walk_at "v"
  refine ⟨by decide, by decide, List.range 2, rfl, ⟨_, _, _, rfl⟩, ?_, ?_⟩
  · rintro _ ⟨m2, o7, o8, rfl⟩
    repeat walk_at "v"
    exact ⟨_, _, Ent.refl, les_none les_nil, hk⟩
  · rintro pre i post _ _ ⟨m2, o7, o8, rfl⟩
    refine wg_name rfl ?_
    walk_at "n"
    repeat walk_at "v"
    refine ⟨by omega, fun hs2 hH2 => ?_⟩
    obtain rfl := hH2.uniq hH
    walk_at "n"
    show WS _ _ [some (urn m2), some (dat (.list (ls.map rowI))), some (dat (.list (hs2.map .int))), some (dat (.list (ns.map .int))), some (dat (.list (TT.map rowI))), some (dat (.list (ls.map rowI))), some (dat (.list (ns.map .int))), some (dat (.int i)), some (own (hs2.map .int)), none, none, none] _
    have stA : Still [some (urn m2), some (dat (.list (ls.map rowI))), some (dat (.list (hs2.map .int))), some (dat (.list (ns.map .int))), some (dat (.list (TT.map rowI))), some (dat (.list (ls.map rowI))), some (dat (.list (ns.map .int))), some (dat (.int i)), some (own (hs2.map .int)), none, none, none] [none, some (dat (.list (ls.map rowI))), some (dat (.list (hs2.map .int))), some (dat (.list (ns.map .int))), some (dat (.list (TT.map rowI))), some (dat (.list (ls.map rowI))), some (dat (.list (ns.map .int))), some (dat (.int i)), some (dat (.list (hs2.map .int))), none, none, none] :=
      (StillL.non (.per (.per (.per (.per (.per (.per (.per (.frz frz_own (.non (.non (.non .nil)))))))))))).still
    refine ws_seq (ws_if (wt_or (wt_not (wt_B (wq_of (we_still stA ?_))))))
    repeat walk_at "v"
    refine ⟨fun ds e => by cases e; rw [List.length_map]; omega, ⟨_, rfl, rfl, _, frz_per, _, rfl, ?_⟩⟩
    rw [wholes_ints]
    refine iteF ?_
    repeat walk_at "v"
    refine ⟨rfl, ⟨lay_ints.shaped, lay_ints.shaped⟩, ?_⟩
    rw [eqv_ints, decide_eq_true (rfl : hs2 = hs2)]
    refine ⟨_, frz_per, _, rfl, iteF ?_⟩
    repeat walk_at "v"
    refine ok_neE enc_row.lst (x := ls) (y := ls) ⟨_, frz_per, _, rfl, ?_⟩
    refine ite_ndec (fun h => absurd rfl h) fun _ => ws_next ?_
    repeat walk_at "v"
    refine ⟨_, _, _, _, rfl, argD1 (d := .int (i : Int)), mo_append (by rw [List.length_map]; omega), ?_⟩
    walk_at "n"
    repeat walk_at "v"
    refine ⟨ls, _, rfl, by omega, by omega, fun ds e => by cases e; rw [List.length_map, hns.len]; omega, fun hs3 hH3 => ⟨fun ns2 e _ _ _ => ?_, fun hb => ?_⟩⟩
    rotate_left
    · rw [hH3.uniq hH, okD_list hns.nd (fun n hn => (hns.rng n hn).1) hns.len] at hb
      cases hb
    obtain rfl := hH3.uniq hH
    obtain rfl : ns = ns2 := ints_inj (PyData.list.inj e)
    rw [hTT]
    have fz : Frz (own2 (TT.map fun r => r.map .int)) (dP (.list (TT.map rowI))) := by
      have := frz_own2 (dss := TT.map fun r => r.map .int)
      rw [List.map_map] at this
      exact this
    show WS _ _ [some (urn m2), some (dat (.list (ls.map rowI))), some (dat (.list (hs3.map .int))), some (dat (.list (ns.map .int))), some (dat (.list (TT.map rowI))), some (dat (.list (ls.map rowI))), some (dat (.list (ns.map .int))), some (dat (.int i)), some (own2 (TT.map fun r => r.map .int)), none, none, none] _
    have stB : Still [some (urn m2), some (dat (.list (ls.map rowI))), some (dat (.list (hs3.map .int))), some (dat (.list (ns.map .int))), some (dat (.list (TT.map rowI))), some (dat (.list (ls.map rowI))), some (dat (.list (ns.map .int))), some (dat (.int i)), some (own2 (TT.map fun r => r.map .int)), none, none, none] [none, some (dat (.list (ls.map rowI))), some (dat (.list (hs3.map .int))), some (dat (.list (ns.map .int))), some (dat (.list (TT.map rowI))), some (dat (.list (ls.map rowI))), some (dat (.list (ns.map .int))), some (dat (.int i)), some (dat (.list (TT.map rowI))), none, none, none] :=
      (StillL.non (.per (.per (.per (.per (.per (.per (.per (.frz fz (.non (.non (.non .nil)))))))))))).still
    refine ws_seq (ws_if (wt_or (wt_not (wt_B (wq_of (we_still stB ?_))))))
    repeat walk_at "v"
    refine ⟨rfl, _, frz_per, _, rfl, iteF (wt_or (wt_not (wt_B (wq_of (we_still stB ?_)))))⟩
    repeat walk_at "v"
    refine we_lcM rowI .bool (fun _ => true) (wil_list ?_)
    repeat walk_at "v"
    refine ⟨rfl, by omega, fun l hl => ?_, ?_⟩
    · have hll := hT4 l hl
      show WG _ _ (dP (.list (l.map .int))) _ _
      refine wg_name rfl ?_
      repeat walk_at "v"
      refine ⟨fun ds e => by cases e; rw [List.length_map]; omega, ?_⟩
      rw [wholes_ints]
      exact ⟨_, frz_per, rfl, rfl⟩
    repeat walk_at "v"
    rw [show (TT.all fun _ => true) = true from List.all_eq_true.mpr fun _ _ => rfl]
    refine ⟨rfl, _, frz_per, _, rfl, iteF (wt_test (wq_of (we_still stB ?_)))⟩
    repeat walk_at "v"
    refine ok_neE enc_row.lst (x := TT) (y := TT) ⟨_, rfl, rfl, _, frz_per, _, rfl, ?_⟩
    refine ite_ndec (fun h => absurd rfl h) fun _ => ws_next ?_
    walk_at "n"
    repeat walk_at "v"
    refine ok_neE enc_row.lst (x := ls) (y := ls) ⟨_, frz_per, _, rfl, ?_⟩
    refine ite_ndec (fun h => absurd rfl h) fun _ => ?_
    repeat walk_at "v"
    refine ok_neE enc_int.lst (x := ns) (y := ns) ⟨_, frz_per, _, rfl, ?_⟩
    refine ite_ndec (fun h => absurd rfl h) fun _ => ws_next ?_
    refine ws_seq (ws_forApp (i := 8) (p := 7) (r := 9) rfl rfl (by show 9 < 12; decide) (by decide) (by decide) (by decide) rfl (fun ds hds => ?_) ?_)
    · obtain ⟨r, hr, rfl⟩ := List.mem_map.mp hds
      have := hT4 r hr
      rw [List.length_map]
      omega
    have fz2 : Frz (own2 ((TT.map fun r => r.map .int).map (· ++ [.int (i : Int)]))) (dP (.list ((TT.map fun r => r ++ [(i : Int)]).map rowI))) := by
      have := frz_own2 (dss := (TT.map fun r => r.map .int).map (· ++ [.int (i : Int)]))
      rw [show (((TT.map fun r => r.map PyData.int).map (· ++ [.int (i : Int)])).map PyData.list) = (TT.map fun r => r ++ [(i : Int)]).map rowI by
        rw [List.map_map, List.map_map, List.map_map]
        refine List.map_congr_left fun r _ => ?_
        show PyData.list (r.map .int ++ [.int i]) = PyData.list ((r ++ [(i : Int)]).map .int)
        rw [List.map_append]
        rfl] at this
      exact this
    show WS _ _ [some (urn m2), some (dat (.list (ls.map rowI))), some (dat (.list (hs3.map .int))), some (dat (.list (ns.map .int))), some (dat (.list (TT.map rowI))), some (dat (.list (ls.map rowI))), some (dat (.list (ns.map .int))), some (dat (.int i)), some (own2 ((TT.map fun r => r.map .int).map (· ++ [.int (i : Int)]))), none, none, none] _
    have stC : Still [some (urn m2), some (dat (.list (ls.map rowI))), some (dat (.list (hs3.map .int))), some (dat (.list (ns.map .int))), some (dat (.list (TT.map rowI))), some (dat (.list (ls.map rowI))), some (dat (.list (ns.map .int))), some (dat (.int i)), some (own2 ((TT.map fun r => r.map .int).map (· ++ [.int (i : Int)]))), none, none, none] [none, some (dat (.list (ls.map rowI))), some (dat (.list (hs3.map .int))), some (dat (.list (ns.map .int))), some (dat (.list (TT.map rowI))), some (dat (.list (ls.map rowI))), some (dat (.list (ns.map .int))), some (dat (.int i)), some (dat (.list ((TT.map fun r => r ++ [(i : Int)]).map rowI))), none, none, none] :=
      (StillL.non (.per (.per (.per (.per (.per (.per (.per (.frz fz2 (.non (.non (.non .nil)))))))))))).still
    refine ws_if (wt_or (wt_test (wq_of (we_still stC ?_))))
    repeat walk_at "v"
    refine we_lcM rowI rowI (fun r => r ++ [(i : Int)]) (wil_list ?_)
    repeat walk_at "v"
    refine ⟨rfl, by omega, fun r hr => ?_, ?_⟩
    · have hll := hT4 r hr
      show WG _ _ (dP (.list (r.map .int))) _ _
      refine wg_name rfl ?_
      repeat walk_at "v"
      refine ok_plusL (e := [.int (i : Int)]) (by rw [List.length_map]; show r.length + 1 ≤ _; omega) ⟨_, frz_own, ?_, rfl⟩
      show dP (.list (r.map .int ++ [.int i])) = dP (rowI (r ++ [(i : Int)]))
      unfold rowI
      rw [List.map_append]
      rfl
    repeat walk_at "v"
    refine ok_neE enc_row.lst (x := TT.map fun r => r ++ [(i : Int)]) (y := TT.map fun r => r ++ [(i : Int)]) ⟨_, rfl, rfl, _, frz_per, _, rfl, ?_⟩
    refine ite_ndec (fun h => absurd rfl h) fun _ => ?_
    repeat walk_at "v"
    refine ok_neE enc_row.lst (x := ls) (y := ls) ⟨_, frz_per, _, rfl, ?_⟩
    refine ite_ndec (fun h => absurd rfl h) fun _ => ws_next ⟨_, _, _, rfl⟩
abbrev t_law_0 (K : PySem.W.Frag) (a : Ad) : TS :=
  (tIfS (tNot (tB (tCall (sp_law_right K a) [] E0 (tCons (tCall (sp_law_urn K) [] E0 (tCons (tVar 0) (tCons (tVar 1) tNil))) tNil)))) (tRet (tC (.bl false))) tNext)
abbrev t_law_1 (K : PySem.W.Frag) (a : Ad) : TS :=
  (tSeq (tFor (iRng1 (tCons (tCB (rMax2) (tCons (tC (.int 1)) (tCons (tCB (rMin2) (tCons (tC (.int 4)) (tCons (tCB (rLenA K) (tCons (tVar 0) tNil)) tNil))) tNil))) tNil)) (gName 1) (t_law_0 K a))
    (tRet (tC (.bl true))))
def t_law (K : PySem.W.Frag) (a : Ad) : TS :=
  (t_law_1 K a)
abbrev N_law : List Str := ["script", "k"]
abbrev F_law (K : PySem.W.Frag) (a : Ad) : Fw := fun gs kk xx => ∃ (ns : List Int), gs = [per (scrP K ns)] ∧ ns.length ≤ 63 ∧ kk (dat (.bool true)) [none]
abbrev sp_law (K : PySem.W.Frag) (a : Ad) : Sp := SpG 1 (F_law K a)
theorem pure_law {K : PySem.W.Frag} {a : Ad} {vs : List V} {H : Hp} {Q : VK} {E : XK} (h : sp_law K a vs H Q E) :
    t_law K a { nx := fun _ H' => Q .non H', rt := Q } (L2.start N_law vs) H := by
  refine body_ok (fun i => false) ?_ h
  rintro gs kk xx ⟨ns, rfl, hn, hk⟩ -
  unfold t_law
  refine ws_seq ?_
  refine ws_for (fun i Γ => ∃ (o1 : Option Gp), Γ = [some (per (scrP K ns)), o1]) ?_
  refine wi_range1 ?_
  walk_at "go"
  refine ⟨?_, ?_, ⟨_, rfl⟩, ?_, ?_⟩
  · split <;> split <;> omega
  · split <;> split <;> omega
  · rintro Γ2 ⟨o1, rfl⟩
    walk_at "go"
    exact ⟨_, _, Ent.refl, les_none les_nil, hk⟩
  · rintro i Γ2 hi ⟨o1, rfl⟩
    refine wg_name rfl ?_
    refine ws_if (wt_not (wt_B (wq_of (we_call1 ?_))))
    walk_at "go"
    exact ⟨ns, 0 + (i : Int), rfl, by omega, hn, big, rfl, by unfold big; omega, _, frz_per, true, rfl, iteF (ws_next ⟨_, rfl⟩)⟩
end G

namespace G
open PySem PySem.Spec L2
abbrev FnP (K : PySem.W.Frag) (x qual : Str) (st : Stmt) (f : Addr) (fd : FuncData) : Prop := FunD K x qual (defArgs st) (defBody st) (defScope st) [] [] f fd
theorem sc_is_count : FnScope ["value"] ["value"] (defScope s_is_count) := ⟨rfl, rfl, rfl, by decide +kernel, rfl, by decide +kernel, by decide +kernel⟩
theorem sc_are_counts : FnScope ["value", "entry"] ["value"] (defScope s_are_counts) := ⟨rfl, rfl, rfl, by decide +kernel, rfl, by decide +kernel, by decide +kernel⟩
theorem sc_are_different_counts : FnScope ["value"] ["value"] (defScope s_are_different_counts) := ⟨rfl, rfl, rfl, by decide +kernel, rfl, by decide +kernel, by decide +kernel⟩
theorem sc_hues_of : FnScope ["lists", "hues", "hue"] ["lists"] (defScope s_hues_of) := ⟨rfl, rfl, rfl, by decide +kernel, rfl, by decide +kernel, by decide +kernel⟩
theorem sc_renamed : FnScope ["lists", "hues", "old", "exchange", "own", "hue"] ["lists", "hues"] (defScope s_renamed) := ⟨rfl, rfl, rfl, by decide +kernel, rfl, by decide +kernel, by decide +kernel⟩
theorem sc_law_urn : FnScope ["script", "k", "cell"] ["script", "k"] (defScope s_law_urn) := ⟨rfl, rfl, rfl, by decide +kernel, rfl, by decide +kernel, by decide +kernel⟩
theorem sc_law_pick : FnScope ["urn", "many", "found", "turn", "mixed"] ["urn", "many"] (defScope s_law_pick) := ⟨rfl, rfl, rfl, by decide +kernel, rfl, by decide +kernel, by decide +kernel⟩
theorem sc_law_wholes : FnScope ["value", "one"] ["value"] (defScope s_law_wholes) := ⟨rfl, rfl, rfl, by decide +kernel, rfl, by decide +kernel, by decide +kernel⟩
theorem sc_law_whole : FnScope ["value"] ["value"] (defScope s_law_whole) := ⟨rfl, rfl, rfl, by decide +kernel, rfl, by decide +kernel, by decide +kernel⟩
theorem sc_law_shuffled : FnScope ["urn", "things", "left", "found", "k"] ["urn", "things"] (defScope s_law_shuffled) := ⟨rfl, rfl, rfl, by decide +kernel, rfl, by decide +kernel, by decide +kernel⟩
theorem sc_law_pool : FnScope ["urn", "many", "start", "step", "k"] ["urn", "many"] (defScope s_law_pool) := ⟨rfl, rfl, rfl, by decide +kernel, rfl, by decide +kernel, by decide +kernel⟩
theorem sc_law_row : FnScope ["urn", "pool", "size"] ["urn", "pool", "size"] (defScope s_law_row) := ⟨rfl, rfl, rfl, by decide +kernel, rfl, by decide +kernel, by decide +kernel⟩
theorem sc_law_lists : FnScope ["urn", "places", "most", "pool", "alike", "rows", "place", "size"] ["urn", "places", "most"] (defScope s_law_lists) := ⟨rfl, rfl, rfl, by decide +kernel, rfl, by decide +kernel, by decide +kernel⟩
theorem sc_law_copies : FnScope ["rows", "row"] ["rows"] (defScope s_law_copies) := ⟨rfl, rfl, rfl, by decide +kernel, rfl, by decide +kernel, by decide +kernel⟩
theorem sc_law_names : FnScope ["urn", "old", "start", "step", "names", "k"] ["urn", "old"] (defScope s_law_names) := ⟨rfl, rfl, rfl, by decide +kernel, rfl, by decide +kernel, by decide +kernel⟩
theorem sc_law_known : FnScope ["rows", "found", "row", "hue"] ["rows"] (defScope s_law_known) := ⟨rfl, rfl, rfl, by decide +kernel, rfl, by decide +kernel, by decide +kernel⟩
theorem sc_law_right : FnScope ["urn", "rows", "old", "names", "due", "passed", "told", "turn", "found", "row", "place", "hue"] ["urn"] (defScope s_law_right) := ⟨rfl, rfl, rfl, by decide +kernel, rfl, by decide +kernel, by decide +kernel⟩
theorem sc_law : FnScope ["script", "k"] ["script"] (defScope s_law) := ⟨rfl, rfl, rfl, by decide +kernel, rfl, by decide +kernel, by decide +kernel⟩
structure Txt (K : PySem.W.Frag) (mg : Str → Option Value) (a : Ad) where
  g_InvalidLists : mg "InvalidLists" = some (.ref a.C_InvalidLists)
  xF_InvalidLists : PySem.W.excIn K a.C_InvalidLists [.type "ValueError", .type "Exception", .type "BaseException", .type "object"] "ValueError.__new__" = true
  kF_InvalidLists : PySem.W.keepIn K (.ref a.C_InvalidLists) = true
  bF_InvalidLists : PySem.W.subIn K (.ref a.C_InvalidLists) (.type "BaseException") = some true
  tF_InvalidLists : PySem.W.typeIn K (.ref a.C_InvalidLists) = some (.type "type")
  f_is_count : Addr
  fd_is_count : FuncData
  F_is_count : FnP K "is_count" "is_count" s_is_count f_is_count fd_is_count
  g_is_count : mg "is_count" = some (.ref f_is_count)
  f_are_counts : Addr
  fd_are_counts : FuncData
  F_are_counts : FnP K "are_counts" "are_counts" s_are_counts f_are_counts fd_are_counts
  g_are_counts : mg "are_counts" = some (.ref f_are_counts)
  f_are_different_counts : Addr
  fd_are_different_counts : FuncData
  F_are_different_counts : FnP K "are_different_counts" "are_different_counts" s_are_different_counts f_are_different_counts fd_are_different_counts
  g_are_different_counts : mg "are_different_counts" = some (.ref f_are_different_counts)
  f_hues_of : Addr
  fd_hues_of : FuncData
  F_hues_of : FnP K "hues_of" "hues_of" s_hues_of f_hues_of fd_hues_of
  g_hues_of : mg "hues_of" = some (.ref f_hues_of)
  f_renamed : Addr
  fd_renamed : FuncData
  F_renamed : FnP K "renamed" "renamed" s_renamed f_renamed fd_renamed
  g_renamed : mg "renamed" = some (.ref f_renamed)
  f_law_urn : Addr
  fd_law_urn : FuncData
  F_law_urn : FnP K "_law_urn" "_law_urn" s_law_urn f_law_urn fd_law_urn
  g_law_urn : mg "_law_urn" = some (.ref f_law_urn)
  f_law_pick : Addr
  fd_law_pick : FuncData
  F_law_pick : FnP K "_law_pick" "_law_pick" s_law_pick f_law_pick fd_law_pick
  g_law_pick : mg "_law_pick" = some (.ref f_law_pick)
  f_law_wholes : Addr
  fd_law_wholes : FuncData
  F_law_wholes : FnP K "_law_wholes" "_law_wholes" s_law_wholes f_law_wholes fd_law_wholes
  g_law_wholes : mg "_law_wholes" = some (.ref f_law_wholes)
  f_law_whole : Addr
  fd_law_whole : FuncData
  F_law_whole : FnP K "_law_whole" "_law_whole" s_law_whole f_law_whole fd_law_whole
  g_law_whole : mg "_law_whole" = some (.ref f_law_whole)
  f_law_shuffled : Addr
  fd_law_shuffled : FuncData
  F_law_shuffled : FnP K "_law_shuffled" "_law_shuffled" s_law_shuffled f_law_shuffled fd_law_shuffled
  g_law_shuffled : mg "_law_shuffled" = some (.ref f_law_shuffled)
  f_law_pool : Addr
  fd_law_pool : FuncData
  F_law_pool : FnP K "_law_pool" "_law_pool" s_law_pool f_law_pool fd_law_pool
  g_law_pool : mg "_law_pool" = some (.ref f_law_pool)
  f_law_row : Addr
  fd_law_row : FuncData
  F_law_row : FnP K "_law_row" "_law_row" s_law_row f_law_row fd_law_row
  g_law_row : mg "_law_row" = some (.ref f_law_row)
  f_law_lists : Addr
  fd_law_lists : FuncData
  F_law_lists : FnP K "_law_lists" "_law_lists" s_law_lists f_law_lists fd_law_lists
  g_law_lists : mg "_law_lists" = some (.ref f_law_lists)
  f_law_copies : Addr
  fd_law_copies : FuncData
  F_law_copies : FnP K "_law_copies" "_law_copies" s_law_copies f_law_copies fd_law_copies
  g_law_copies : mg "_law_copies" = some (.ref f_law_copies)
  f_law_names : Addr
  fd_law_names : FuncData
  F_law_names : FnP K "_law_names" "_law_names" s_law_names f_law_names fd_law_names
  g_law_names : mg "_law_names" = some (.ref f_law_names)
  f_law_known : Addr
  fd_law_known : FuncData
  F_law_known : FnP K "_law_known" "_law_known" s_law_known f_law_known fd_law_known
  g_law_known : mg "_law_known" = some (.ref f_law_known)
  f_law_right : Addr
  fd_law_right : FuncData
  F_law_right : FnP K "_law_right" "_law_right" s_law_right f_law_right fd_law_right
  g_law_right : mg "_law_right" = some (.ref f_law_right)
  f_law : Addr
  fd_law : FuncData
  F_law : FnP K "law" "law" s_law f_law fd_law
  g_law : mg "law" = some (.ref f_law)
  z_all : mg "all" = none
  z_bool : mg "bool" = none
  z_dict : mg "dict" = none
  z_int : mg "int" = none
  z_isinstance : mg "isinstance" = none
  z_len : mg "len" = none
  z_list : mg "list" = none
  z_max : mg "max" = none
  z_min : mg "min" = none
  z_range : mg "range" = none
  z_set : mg "set" = none
  z_sorted : mg "sorted" = none
  z_zip : mg "zip" = none
section
variable {P : Program} {w : World} {K : PySem.W.Frag} {mg : Str → Option Value} {base : Heap} {a : Ad}
theorem b_is_count (T : Txt K mg a) : Binds K T.fd_is_count ["value"] [] := T.F_is_count.bindsN fun _ _ _ _ _ _ us hl => match us, hl with | [_], _ => rfl
theorem ok_is_count (T : Txt K mg a) : FnOk P w K mg base CX0 1 T.f_is_count T.fd_is_count ["value"] (sp_is_count K) := by
  refine T.F_is_count.ok sc_is_count (fun vs H Q E h => SpG.len vs H Q E h) (fun cdv A outer s H vs Q E hr h => ⟨t_is_count K, PSs.nox ?_, pure_is_count h⟩)
  show PSs _ _ (t_is_count_0 K)
  exact (pss_one (ps_ret (pe_and (pe_callB c_isi (by rfl) T.z_isinstance bt_isinstance (pa_cons (pv 0) (pa_cons (pe_bltn (v := .ty "int") (by rfl) T.z_int bt_int rfl) pa_nil))) (pe_and (pe_not (pe_callB c_isi (by rfl) T.z_isinstance bt_isinstance (pa_cons (pv 0) (pa_cons (pe_bltn (v := .ty "bool") (by rfl) T.z_bool bt_bool rfl) pa_nil)))) (pe_one (pe_cmpR op_ge (pv 0) pe_int (nomark _)))))))
theorem b_hues_of (T : Txt K mg a) : Binds K T.fd_hues_of ["lists"] [] := T.F_hues_of.bindsN fun _ _ _ _ _ _ us hl => match us, hl with | [_], _ => rfl
theorem ok_hues_of (T : Txt K mg a) : FnOk P w K mg base CX0 1 T.f_hues_of T.fd_hues_of ["lists"] (sp_hues_of K) := by
  refine T.F_hues_of.ok sc_hues_of (fun vs H Q E h => SpG.len vs H Q E h) (fun cdv A outer s H vs Q E hr h => ⟨t_hues_of K, PSs.nox ?_, pure_hues_of h⟩)
  exact (pss_one (ps_ret (pe_hues (pe_srt rfl (by rfl) T.z_sorted (GS2.set2_at (own := [("hues", 1), ("hue", 2)]) (ws := [2]) rfl sc_hues_of.nd (blkOk_by (own := [("hues", 1), ("hue", 2)]) (N := ["lists", "hues", "hue"]) (sc := defScope s_hues_of) (by decide +kernel)) (by decide) (pi_list (pv 0)) (fun _ _ _ _ _ => ⟨(pg_name (i := 1) sc_hues_of.nd rfl (Or.inl rfl)), pi_list (pv 1), (pg_name (i := 2) sc_hues_of.nd rfl (Or.inl rfl)), (pv 2)⟩))))))
theorem b_law_urn (T : Txt K mg a) : Binds K T.fd_law_urn ["script", "k"] [] := T.F_law_urn.bindsN fun _ _ _ _ _ _ us hl => match us, hl with | [_, _], _ => rfl
theorem ok_law_urn (T : Txt K mg a) : FnOk P w K mg base CX0 1 T.f_law_urn T.fd_law_urn ["script", "k"] (sp_law_urn K) := by
  refine T.F_law_urn.ok sc_law_urn (fun vs H Q E h => SpG.len vs H Q E h) (fun cdv A outer s H vs Q E hr h => ⟨t_law_urn K, PSs.nox ?_, pure_law_urn h⟩)
  exact (pss_cons (ps_set (i := 2) sc_law_urn.nd rfl (Or.inl rfl) (pe_op op_plus (pe_op op_mul pe_int (pv 1)) pe_int)) (pss_cons (ps_if (pt_cmpR op_lt (pv 1) (pe_callB c_len (by rfl) T.z_len bt_len (pa_cons (pv 0) pa_nil)) (nomark _)) (pss_one (ps_set (i := 2) sc_law_urn.nd rfl (Or.inl rfl) (pe_ix ix_seq (pv 0) (pv 1) (fun _ _ => rfl)))) pss_nil) (pss_one (ps_ret (pe_lst (pa_cons (pe_callB (c_max rfl) (by rfl) T.z_max bt_max (pa_cons pe_int (pa_cons (pe_op op_sub (pv 2) (pe_op op_pow pe_int pe_int)) pa_nil))) (pa_cons (pe_op op_plus (pe_op op_mod (pe_callTy c_int (by rfl) T.z_int bt_int (pa_cons (pv 2) pa_nil)) (pe_op op_plus (pe_op op_pow pe_int pe_int) pe_int)) (pv 1)) (pa_cons pe_int pa_nil))))))))
theorem b_law_pick (T : Txt K mg a) : Binds K T.fd_law_pick ["urn", "many"] [] := T.F_law_pick.bindsN fun _ _ _ _ _ _ us hl => match us, hl with | [_, _], _ => rfl
theorem ok_law_pick (T : Txt K mg a) : FnOk P w K mg base CX0 1 T.f_law_pick T.fd_law_pick ["urn", "many"] (sp_law_pick K) := by
  refine T.F_law_pick.ok sc_law_pick (fun vs H Q E h => SpG.len vs H Q E h) (fun cdv A outer s H vs Q E hr h => ⟨t_law_pick K, PSs.nox ?_, pure_law_pick h⟩)
  exact (pss_cons (ps_if (pt_cmpR op_gt (pe_ix ix_seq (pv 0) pe_int (fun _ _ => rfl)) pe_int (nomark _)) (pss_cons (ps_set (i := 2) sc_law_pick.nd rfl (Or.inl rfl) (pe_op op_mod (pe_callTy c_int (by rfl) T.z_int bt_int (pa_cons (pe_ix ix_seq (pv 0) pe_int (fun _ _ => rfl)) pa_nil)) (pv 1))) (pss_cons (ps_asg (pe_op op_fdivW (pe_ix ix_seq (pv 0) pe_int (fun _ _ => rfl)) (pv 1)) (pg_sub (pv 0) pe_int set_list)) (pss_one (ps_ret (pv 2))))) pss_nil) (pss_cons (ps_asg (pe_op op_plus (pe_ix ix_seq (pv 0) pe_int (fun _ _ => rfl)) pe_int) (pg_sub (pv 0) pe_int set_list)) (pss_cons (ps_set (i := 3) sc_law_pick.nd rfl (Or.inl rfl) (pe_ix ix_seq (pv 0) pe_int (fun _ _ => rfl))) (pss_cons (ps_set (i := 4) sc_law_pick.nd rfl (Or.inl rfl) (pe_op op_mod (pe_callTy c_int (by rfl) T.z_int bt_int (pa_cons (pe_op op_plus (pe_op op_plus (pe_ix ix_seq (pv 0) pe_int (fun _ _ => rfl)) (pe_op op_mul (pv 3) pe_int)) (pe_op op_mul (pe_op op_mul (pv 3) (pv 3)) pe_int)) pa_nil)) pe_int)) (pss_cons (ps_set (i := 4) sc_law_pick.nd rfl (Or.inl rfl) (pe_op op_mod (pe_callTy c_int (by rfl) T.z_int bt_int (pa_cons (pe_op op_plus (pe_op op_plus (pe_op op_mul (pv 4) (pv 4)) (pe_op op_fdivW (pe_ix ix_seq (pv 0) pe_int (fun _ _ => rfl)) pe_int)) (pe_op op_mul pe_int (pv 3))) pa_nil)) pe_int)) (pss_cons (ps_set (i := 4) sc_law_pick.nd rfl (Or.inl rfl) (pe_op op_mod (pe_callTy c_int (by rfl) T.z_int bt_int (pa_cons (pe_op op_plus (pe_op op_mul (pe_op op_mul (pv 4) (pv 4)) pe_int) (pv 4)) pa_nil)) (pe_ix ix_seq (pe_lst (pa_cons pe_int (pa_cons pe_int (pa_cons pe_int (pa_cons pe_int pa_nil))))) (pe_op op_mod (pe_callTy c_int (by rfl) T.z_int bt_int (pa_cons (pv 3) pa_nil)) pe_int) (fun _ _ => rfl)))) (pss_one (ps_ret (pe_op op_mod (pe_callTy c_int (by rfl) T.z_int bt_int (pa_cons (pe_op op_fdivW (pv 4) pe_int) pa_nil)) (pv 1))))))))))
theorem b_law_whole (T : Txt K mg a) : Binds K T.fd_law_whole ["value"] [] := T.F_law_whole.bindsN fun _ _ _ _ _ _ us hl => match us, hl with | [_], _ => rfl
theorem ok_law_whole (T : Txt K mg a) : FnOk P w K mg base CX0 1 T.f_law_whole T.fd_law_whole ["value"] (sp_law_whole K) := by
  refine T.F_law_whole.ok sc_law_whole (fun vs H Q E h => SpG.len vs H Q E h) (fun cdv A outer s H vs Q E hr h => ⟨t_law_whole K, PSs.nox ?_, pure_law_whole h⟩)
  exact (pss_one (ps_ret (pe_and (pe_callB c_isi (by rfl) T.z_isinstance bt_isinstance (pa_cons (pv 0) (pa_cons (pe_bltn (v := .ty "int") (by rfl) T.z_int bt_int rfl) pa_nil))) (pe_one (pe_not (pe_callB c_isi (by rfl) T.z_isinstance bt_isinstance (pa_cons (pv 0) (pa_cons (pe_bltn (v := .ty "bool") (by rfl) T.z_bool bt_bool rfl) pa_nil))))))))
theorem b_law_copies (T : Txt K mg a) : Binds K T.fd_law_copies ["rows"] [] := T.F_law_copies.bindsN fun _ _ _ _ _ _ us hl => match us, hl with | [_], _ => rfl
theorem ok_law_copies (T : Txt K mg a) : FnOk P w K mg base CX0 1 T.f_law_copies T.fd_law_copies ["rows"] (sp_law_copies K) := by
  refine T.F_law_copies.ok sc_law_copies (fun vs H Q E h => SpG.len vs H Q E h) (fun cdv A outer s H vs Q E hr h => ⟨t_law_copies K, PSs.nox ?_, pure_law_copies h⟩)
  exact (pss_one (ps_ret (pe_lc (own := [("row", 1)]) (g := (gName 1)) (tt := tYes) rfl sc_law_copies.nd (pi_list (pv 0)) (blkOk_by (own := [("row", 1)]) (N := ["rows", "row"]) (sc := defScope s_law_copies) (by decide +kernel)) (fun _ _ _ _ _ => (pg_name (i := 1) sc_law_copies.nd rfl (Or.inl rfl))) (fun _ _ _ _ _ => pts_nil) (fun _ _ _ _ _ => (pe_callTy c_list (by rfl) T.z_list bt_list (pa_cons (pv 1) pa_nil))))))
theorem b_law_known (T : Txt K mg a) : Binds K T.fd_law_known ["rows"] [] := T.F_law_known.bindsN fun _ _ _ _ _ _ us hl => match us, hl with | [_], _ => rfl
theorem ok_law_known (T : Txt K mg a) : FnOk P w K mg base CX0 1 T.f_law_known T.fd_law_known ["rows"] (sp_law_known K) := by
  refine T.F_law_known.ok sc_law_known (fun vs H Q E h => SpG.len vs H Q E h) (fun cdv A outer s H vs Q E hr h => ⟨t_law_known K, PSs.nox ?_, pure_law_known h⟩)
  show PSs _ _ (t_law_known_1 K)
  exact (pss_cons (ps_set (i := 1) sc_law_known.nd rfl (Or.inl rfl) (pe_lst pa_nil)) (pss_cons (ps_for PassesOwn.never rfl (pi_list (pv 0)) (pg_name (i := 2) sc_law_known.nd rfl (Or.inl rfl)) (pss_one (ps_for PassesOwn.never rfl (pi_list (pv 2)) (pg_name (i := 3) sc_law_known.nd rfl (Or.inl rfl)) (pss_one (ps_if (pt_cmpR (op_notInD (un65 hr)) (pv 3) (pv 1) (by rfl)) (pss_one (ps_expr (pe_bm PySem.F.plainAttrs_list PySem.F.slot_list_append PySem.F.type_list_append mt_append (pv 1) (pa_cons (pv 3) pa_nil)))) pss_nil))))) (pss_one (ps_ret (pe_callB c_sorted (by rfl) T.z_sorted bt_sorted (pa_cons (pv 1) pa_nil))))))
theorem b_are_counts (T : Txt K mg a) : Binds K T.fd_are_counts ["value"] [] := T.F_are_counts.bindsN fun _ _ _ _ _ _ us hl => match us, hl with | [_], _ => rfl
theorem ok_are_counts (T : Txt K mg a) : FnOk P w K mg base CX0 2 T.f_are_counts T.fd_are_counts ["value"] (sp_are_counts K) := by
  refine T.F_are_counts.ok sc_are_counts (fun vs H Q E h => SpG.len vs H Q E h) (fun cdv A outer s H vs Q E hr h => ⟨t_are_counts K, PSs.nox ?_, pure_are_counts h⟩)
  show PSs _ _ (t_are_counts_0 K)
  exact (pss_one (ps_ret (pe_and (pe_callB c_isi (by rfl) T.z_isinstance bt_isinstance (pa_cons (pv 0) (pa_cons (pe_bltn (v := .ty "list") (by rfl) T.z_list bt_list rfl) pa_nil))) (pe_one (pe_callB (c_all rfl) (by rfl) T.z_all bt_all (pa_cons (pe_lc (own := [("entry", 1)]) (g := (gName 1)) (tt := tYes) rfl sc_are_counts.nd (pi_list (pv 0)) (blkOk_by (own := [("entry", 1)]) (N := ["value", "entry"]) (sc := defScope s_are_counts) (by decide +kernel)) (fun _ _ _ _ _ => (pg_name (i := 1) sc_are_counts.nd rfl (Or.inl rfl))) (fun _ _ _ _ _ => pts_nil) (fun _ _ _ _ _ => (pe_call (ok_is_count T) (hr.mono (by decide)) (by rfl) T.g_is_count T.F_is_count.kp (b_is_count T) .nil pass0 (pa_cons (pv 1) pa_nil)))) pa_nil))))))
theorem b_law_wholes (T : Txt K mg a) : Binds K T.fd_law_wholes ["value"] [] := T.F_law_wholes.bindsN fun _ _ _ _ _ _ us hl => match us, hl with | [_], _ => rfl
theorem ok_law_wholes (T : Txt K mg a) : FnOk P w K mg base CX0 2 T.f_law_wholes T.fd_law_wholes ["value"] (sp_law_wholes K) := by
  refine T.F_law_wholes.ok sc_law_wholes (fun vs H Q E h => SpG.len vs H Q E h) (fun cdv A outer s H vs Q E hr h => ⟨t_law_wholes K, PSs.nox ?_, pure_law_wholes h⟩)
  show PSs _ _ (t_law_wholes_0 K)
  exact (pss_one (ps_ret (pe_and (pe_callB c_isi (by rfl) T.z_isinstance bt_isinstance (pa_cons (pv 0) (pa_cons (pe_bltn (v := .ty "list") (by rfl) T.z_list bt_list rfl) pa_nil))) (pe_one (pe_callB (c_all rfl) (by rfl) T.z_all bt_all (pa_cons (pe_lc (own := [("one", 1)]) (g := (gName 1)) (tt := tYes) rfl sc_law_wholes.nd (pi_list (pv 0)) (blkOk_by (own := [("one", 1)]) (N := ["value", "one"]) (sc := defScope s_law_wholes) (by decide +kernel)) (fun _ _ _ _ _ => (pg_name (i := 1) sc_law_wholes.nd rfl (Or.inl rfl))) (fun _ _ _ _ _ => pts_nil) (fun _ _ _ _ _ => (pe_call (ok_law_whole T) (hr.mono (by decide)) (by rfl) T.g_law_whole T.F_law_whole.kp (b_law_whole T) .nil pass0 (pa_cons (pv 1) pa_nil)))) pa_nil))))))
theorem b_law_shuffled (T : Txt K mg a) : Binds K T.fd_law_shuffled ["urn", "things"] [] := T.F_law_shuffled.bindsN fun _ _ _ _ _ _ us hl => match us, hl with | [_, _], _ => rfl
theorem ok_law_shuffled (T : Txt K mg a) : FnOk P w K mg base CX0 2 T.f_law_shuffled T.fd_law_shuffled ["urn", "things"] (sp_law_shuffled K) := by
  refine T.F_law_shuffled.ok sc_law_shuffled (fun vs H Q E h => SpG.len vs H Q E h) (fun cdv A outer s H vs Q E hr h => ⟨t_law_shuffled K, PSs.nox ?_, pure_law_shuffled h⟩)
  exact (pss_cons (ps_set (i := 2) sc_law_shuffled.nd rfl (Or.inl rfl) (pe_callTy c_list (by rfl) T.z_list bt_list (pa_cons (pv 1) pa_nil))) (pss_cons (ps_set (i := 3) sc_law_shuffled.nd rfl (Or.inl rfl) (pe_lst pa_nil)) (pss_cons (ps_for PassesOwn.never rfl (pi_range1 (by rfl) T.z_range (pa_cons (pe_callB c_len (by rfl) T.z_len bt_len (pa_cons (pv 1) pa_nil)) pa_nil)) (pg_name (i := 4) sc_law_shuffled.nd rfl (Or.inl rfl)) (pss_one (ps_expr (pe_bm PySem.F.plainAttrs_list PySem.F.slot_list_append PySem.F.type_list_append mt_append (pv 3) (pa_cons (pe_bm PySem.F.plainAttrs_list PySem.F.slot_list_pop PySem.F.type_list_pop mt_popAt (pv 2) (pa_cons (pe_call (ok_law_pick T) (hr.mono (by decide)) (by rfl) T.g_law_pick T.F_law_pick.kp (b_law_pick T) .nil pass0 (pa_cons (pv 0) (pa_cons (pe_callB c_len (by rfl) T.z_len bt_len (pa_cons (pv 2) pa_nil)) pa_nil))) pa_nil)) pa_nil))))) (pss_one (ps_ret (pv 3))))))
theorem b_law_pool (T : Txt K mg a) : Binds K T.fd_law_pool ["urn", "many"] [] := T.F_law_pool.bindsN fun _ _ _ _ _ _ us hl => match us, hl with | [_, _], _ => rfl
theorem ok_law_pool (T : Txt K mg a) : FnOk P w K mg base CX0 2 T.f_law_pool T.fd_law_pool ["urn", "many"] (sp_law_pool K) := by
  refine T.F_law_pool.ok sc_law_pool (fun vs H Q E h => SpG.len vs H Q E h) (fun cdv A outer s H vs Q E hr h => ⟨t_law_pool K, PSs.nox ?_, pure_law_pool h⟩)
  show PSs _ _ (t_law_pool_1 K)
  exact (pss_cons (ps_set (i := 2) sc_law_pool.nd rfl (Or.inr rfl) (pe_ix ix_seq (pe_lst (pa_cons pe_int (pa_cons pe_int (pa_cons (pe_call (ok_law_pick T) (hr.mono (by decide)) (by rfl) T.g_law_pick T.F_law_pick.kp (b_law_pick T) .nil pass0 (pa_cons (pv 0) (pa_cons (pe_op op_mul pe_int (pe_op op_pow pe_int pe_int)) pa_nil))) pa_nil)))) (pe_call (ok_law_pick T) (hr.mono (by decide)) (by rfl) T.g_law_pick T.F_law_pick.kp (b_law_pick T) .nil pass0 (pa_cons (pv 0) (pa_cons pe_int pa_nil))) (fun _ _ => rfl))) (pss_cons (ps_set (i := 3) sc_law_pool.nd rfl (Or.inr rfl) (pe_op op_plus pe_int (pe_call (ok_law_pick T) (hr.mono (by decide)) (by rfl) T.g_law_pick T.F_law_pick.kp (b_law_pick T) .nil pass0 (pa_cons (pv 0) (pa_cons (pe_ix ix_seq (pe_lst (pa_cons pe_int (pa_cons pe_int (pa_cons (pe_op op_pow pe_int pe_int) pa_nil)))) (pe_call (ok_law_pick T) (hr.mono (by decide)) (by rfl) T.g_law_pick T.F_law_pick.kp (b_law_pick T) .nil pass0 (pa_cons (pv 0) (pa_cons pe_int pa_nil))) (fun _ _ => rfl)) pa_nil))))) (pss_one (ps_ret (pe_lc (own := [("k", 4)]) (g := (gName 4)) (tt := tYes) rfl sc_law_pool.nd (pi_range1 (by rfl) T.z_range (pa_cons (pv 1) pa_nil)) (blkOk_by (own := [("k", 4)]) (N := ["urn", "many", "start", "step", "k"]) (sc := defScope s_law_pool) (by decide +kernel)) (fun _ _ _ _ _ => (pg_name (i := 4) sc_law_pool.nd rfl (Or.inl rfl))) (fun _ _ _ _ _ => pts_nil) (fun _ _ _ _ _ => (pe_op op_plus (pv 2) (pe_op op_mul (pv 4) (pv 3)))))))))
theorem b_are_different_counts (T : Txt K mg a) : Binds K T.fd_are_different_counts ["value"] [] := T.F_are_different_counts.bindsN fun _ _ _ _ _ _ us hl => match us, hl with | [_], _ => rfl
theorem ok_are_different_counts (T : Txt K mg a) : FnOk P w K mg base CX0 3 T.f_are_different_counts T.fd_are_different_counts ["value"] (sp_are_different_counts K) := by
  refine T.F_are_different_counts.ok sc_are_different_counts (fun vs H Q E h => SpG.len vs H Q E h) (fun cdv A outer s H vs Q E hr h => ⟨t_are_different_counts K, PSs.nox ?_, pure_are_different_counts h⟩)
  exact (pss_one (ps_ret (pe_and (pe_call (ok_are_counts T) (hr.mono (by decide)) (by rfl) T.g_are_counts T.F_are_counts.kp (b_are_counts T) .nil pass0 (pa_cons (pv 0) pa_nil)) (pe_one (pe_cmpR (op_eqD hr.units) (pe_lenSetI rfl (by rfl) T.z_len (by rfl) T.z_set (pv 0)) (pe_callB c_len (by rfl) T.z_len bt_len (pa_cons (pv 0) pa_nil)) (nomark _))))))
theorem b_law_row (T : Txt K mg a) : Binds K T.fd_law_row ["urn", "pool", "size"] [] := T.F_law_row.bindsN fun _ _ _ _ _ _ us hl => match us, hl with | [_, _, _], _ => rfl
theorem ok_law_row (T : Txt K mg a) : FnOk P w K mg base CX0 3 T.f_law_row T.fd_law_row ["urn", "pool", "size"] (sp_law_row K) := by
  refine T.F_law_row.ok sc_law_row (fun vs H Q E h => SpG.len vs H Q E h) (fun cdv A outer s H vs Q E hr h => ⟨t_law_row K, PSs.nox ?_, pure_law_row h⟩)
  exact (pss_one (ps_ret (pe_callB c_sorted (by rfl) T.z_sorted bt_sorted (pa_cons (pe_slice sl_list (pe_call (ok_law_shuffled T) (hr.mono (by decide)) (by rfl) T.g_law_shuffled T.F_law_shuffled.kp (b_law_shuffled T) .nil pass0 (pa_cons (pv 0) (pa_cons (pv 1) pa_nil))) po_none (po_some (pv 2))) pa_nil))))
theorem b_law_names (T : Txt K mg a) : Binds K T.fd_law_names ["urn", "old"] [] := T.F_law_names.bindsN fun _ _ _ _ _ _ us hl => match us, hl with | [_, _], _ => rfl
theorem ok_law_names (T : Txt K mg a) : FnOk P w K mg base CX0 3 T.f_law_names T.fd_law_names ["urn", "old"] (sp_law_names K) := by
  refine T.F_law_names.ok sc_law_names (fun vs H Q E h => SpG.len vs H Q E h) (fun cdv A outer s H vs Q E hr h => ⟨t_law_names K, PSs.nox ?_, pure_law_names h⟩)
  show PSs _ _ (t_law_names_3 K)
  exact (pss_cons (ps_set (i := 2) sc_law_names.nd rfl (Or.inr rfl) (pe_ix ix_seq (pe_lst (pa_cons pe_int (pa_cons (pe_call (ok_law_pick T) (hr.mono (by decide)) (by rfl) T.g_law_pick T.F_law_pick.kp (b_law_pick T) .nil pass0 (pa_cons (pv 0) (pa_cons pe_int pa_nil))) (pa_cons (pe_call (ok_law_pick T) (hr.mono (by decide)) (by rfl) T.g_law_pick T.F_law_pick.kp (b_law_pick T) .nil pass0 (pa_cons (pv 0) (pa_cons (pe_op op_pow pe_int pe_int) pa_nil))) pa_nil)))) (pe_call (ok_law_pick T) (hr.mono (by decide)) (by rfl) T.g_law_pick T.F_law_pick.kp (b_law_pick T) .nil pass0 (pa_cons (pv 0) (pa_cons pe_int pa_nil))) (fun _ _ => rfl))) (pss_cons (ps_set (i := 3) sc_law_names.nd rfl (Or.inr rfl) (pe_op op_plus pe_int (pe_call (ok_law_pick T) (hr.mono (by decide)) (by rfl) T.g_law_pick T.F_law_pick.kp (b_law_pick T) .nil pass0 (pa_cons (pv 0) (pa_cons (pe_ix ix_seq (pe_lst (pa_cons pe_int (pa_cons pe_int (pa_cons (pe_op op_mul pe_int (pe_op op_pow pe_int pe_int)) pa_nil)))) (pe_call (ok_law_pick T) (hr.mono (by decide)) (by rfl) T.g_law_pick T.F_law_pick.kp (b_law_pick T) .nil pass0 (pa_cons (pv 0) (pa_cons pe_int pa_nil))) (fun _ _ => rfl)) pa_nil))))) (pss_cons (ps_setLc (i := 4) (own := [("k", 5)]) (g := (gName 5)) (tt := tYes) rfl sc_law_names.nd rfl rfl (sw_true rfl rfl rfl (by decide +kernel)) (pi_range1 (by rfl) T.z_range (pa_cons (pe_callB c_len (by rfl) T.z_len bt_len (pa_cons (pv 1) pa_nil)) pa_nil)) (blkOk_by (own := [("k", 5)]) (N := ["urn", "old", "start", "step", "names", "k"]) (sc := defScope s_law_names) (by decide +kernel)) (fun _ _ _ _ _ => (pg_name (i := 5) sc_law_names.nd rfl (Or.inl rfl))) (fun _ _ _ _ _ => pts_nil) (fun _ _ _ _ _ => (pe_op op_plus (pv 2) (pe_op op_mul (pv 5) (pv 3))))) (pss_cons (ps_if (pt_cmpR (op_eqD hr.units) (pe_call (ok_law_pick T) (hr.mono (by decide)) (by rfl) T.g_law_pick T.F_law_pick.kp (b_law_pick T) .nil pass0 (pa_cons (pv 0) (pa_cons pe_int pa_nil))) pe_int (nomark _)) (pss_one (ps_set (i := 4) sc_law_names.nd rfl (Or.inl rfl) (pv 1))) pss_nil) (pss_one (ps_ret (pe_call (ok_law_shuffled T) (hr.mono (by decide)) (by rfl) T.g_law_shuffled T.F_law_shuffled.kp (b_law_shuffled T) .nil pass0 (pa_cons (pv 0) (pa_cons (pv 4) pa_nil)))))))))
theorem b_renamed (T : Txt K mg a) : Binds K T.fd_renamed ["lists", "hues"] [] := T.F_renamed.bindsN fun _ _ _ _ _ _ us hl => match us, hl with | [_, _], _ => rfl
theorem ok_renamed (T : Txt K mg a) : FnOk P w K mg base (L2.CX P w) 4 T.f_renamed T.fd_renamed ["lists", "hues"] (sp_renamed K a) := by
  refine T.F_renamed.ok sc_renamed (fun vs H Q E h => SpG.len vs H Q E h) (fun cdv A outer s H vs Q E hr h => ⟨t_renamed K a E, ?_, pure_renamed h⟩)
  exact (pss_cons (ps_set (i := 2) sc_renamed.nd rfl (Or.inl rfl) (pe_call (ok_hues_of T) (hr.mono (by decide)) (by rfl) T.g_hues_of T.F_hues_of.kp (b_hues_of T) .nil pass0 (pa_cons (pv 0) pa_nil))) (pss_cons (ps_if (PW.pt (pw_or (pt_not (pt_val (pe_call (ok_are_different_counts T) (hr.mono (by decide)) (by rfl) T.g_are_different_counts T.F_are_different_counts.kp (b_are_different_counts T) .nil pass0 (pa_cons (pv 1) pa_nil)))) (pw_or1 (pt_cmpR (op_neD hr.units) (pe_callB c_len (by rfl) T.z_len bt_len (pa_cons (pv 1) pa_nil)) (pe_callB c_len (by rfl) T.z_len bt_len (pa_cons (pv 2) pa_nil)) (nomark _))))) (pss_one (ps_raise rfl (takes_of rfl rfl rfl rfl) (pmk_own PySem.F.excBase_ValueError T.xF_InvalidLists T.g_InvalidLists T.kF_InvalidLists (raises_own T.bF_InvalidLists T.tF_InvalidLists) (by exact rfl)))) pss_nil) (pss_cons (ps_set (i := 3) sc_renamed.nd rfl (Or.inr rfl) (pe_dictZip rfl (by rfl) T.z_dict (by rfl) T.z_zip (pa_cons (pv 2) (pa_cons (pv 1) pa_nil)))) (pss_one (ps_ret (pe_lc (own := [("own", 4)]) (g := (gName 4)) (tt := tYes) rfl sc_renamed.nd (pi_list (pv 0)) (blkOk_by (own := [("own", 4)]) (N := ["lists", "hues", "old", "exchange", "own", "hue"]) (sc := defScope s_renamed) (by decide +kernel)) (fun _ _ _ _ _ => (pg_name (i := 4) sc_renamed.nd rfl (Or.inl rfl))) (fun _ _ _ _ _ => pts_nil) (fun _ _ _ _ _ => (pe_callB c_sorted (by rfl) T.z_sorted bt_sorted (pa_cons (pe_lc (own := [("hue", 5)]) (g := (gName 5)) (tt := tYes) rfl sc_renamed.nd (pi_list (pv 4)) (blkOk_by (own := [("hue", 5)]) (N := ["lists", "hues", "old", "exchange", "own", "hue"]) (sc := (⟨.function, [(".0", .local), ("own", .local), ("sorted", .globalImplicit), ("exchange", .cell)], false, false, []⟩ : Scope)) (by decide +kernel)) (fun _ _ _ _ _ => (pg_name (i := 5) sc_renamed.nd rfl (Or.inl rfl))) (fun _ _ _ _ _ => pts_nil) (fun _ _ _ _ _ => (pe_dget (un1 hr.units) (pv 3) (pv 5) (fun _ _ => rfl)))) pa_nil)))))))))
theorem b_law_lists (T : Txt K mg a) : Binds K T.fd_law_lists ["urn", "places", "most"] [] := T.F_law_lists.bindsN fun _ _ _ _ _ _ us hl => match us, hl with | [_, _, _], _ => rfl
theorem ok_law_lists (T : Txt K mg a) : FnOk P w K mg base CX0 4 T.f_law_lists T.fd_law_lists ["urn", "places", "most"] (sp_law_lists K) := by
  refine T.F_law_lists.ok sc_law_lists (fun vs H Q E h => SpG.len vs H Q E h) (fun cdv A outer s H vs Q E hr h => ⟨t_law_lists K, PSs.nox ?_, pure_law_lists h⟩)
  show PSs _ _ (t_law_lists_4 K)
  exact (pss_cons (ps_set (i := 3) sc_law_lists.nd rfl (Or.inl rfl) (pe_call (ok_law_pool T) (hr.mono (by decide)) (by rfl) T.g_law_pool T.F_law_pool.kp (b_law_pool T) .nil pass0 (pa_cons (pv 0) (pa_cons (pe_op op_plus (pv 2) (pe_call (ok_law_pick T) (hr.mono (by decide)) (by rfl) T.g_law_pick T.F_law_pick.kp (b_law_pick T) .nil pass0 (pa_cons (pv 0) (pa_cons pe_int pa_nil)))) pa_nil)))) (pss_cons (ps_set (i := 4) sc_law_lists.nd rfl (Or.inl rfl) (pe_call (ok_law_pick T) (hr.mono (by decide)) (by rfl) T.g_law_pick T.F_law_pick.kp (b_law_pick T) .nil pass0 (pa_cons (pv 0) (pa_cons pe_int pa_nil)))) (pss_cons (ps_set (i := 5) sc_law_lists.nd rfl (Or.inl rfl) (pe_lst pa_nil)) (pss_cons (ps_for PassesOwn.never rfl (pi_range1 (by rfl) T.z_range (pa_cons (pv 1) pa_nil)) (pg_name (i := 6) sc_law_lists.nd rfl (Or.inl rfl)) (pss_cons (ps_set (i := 7) sc_law_lists.nd rfl (Or.inl rfl) (pv 2)) (pss_cons (ps_if (pt_cmpR (op_eqD hr.units) (pe_call (ok_law_pick T) (hr.mono (by decide)) (by rfl) T.g_law_pick T.F_law_pick.kp (b_law_pick T) .nil pass0 (pa_cons (pv 0) (pa_cons pe_int pa_nil))) pe_int (nomark _)) (pss_one (ps_set (i := 7) sc_law_lists.nd rfl (Or.inl rfl) (pe_call (ok_law_pick T) (hr.mono (by decide)) (by rfl) T.g_law_pick T.F_law_pick.kp (b_law_pick T) .nil pass0 (pa_cons (pv 0) (pa_cons (pe_op op_plus (pv 2) pe_int) pa_nil))))) pss_nil) (pss_one (ps_if (PW.pt (pw_and (pt_cmpR op_gt (pv 6) pe_int (nomark _)) (pw_and1 (pt_cmpR op_lt (pe_call (ok_law_pick T) (hr.mono (by decide)) (by rfl) T.g_law_pick T.F_law_pick.kp (b_law_pick T) .nil pass0 (pa_cons (pv 0) (pa_cons pe_int pa_nil))) (pv 4) (nomark _))))) (pss_one (ps_expr (pe_bm PySem.F.plainAttrs_list PySem.F.slot_list_append PySem.F.type_list_append mt_append (pv 5) (pa_cons (pe_callTy c_list (by rfl) T.z_list bt_list (pa_cons (pe_ix ix_seq (pv 5) (pe_call (ok_law_pick T) (hr.mono (by decide)) (by rfl) T.g_law_pick T.F_law_pick.kp (b_law_pick T) .nil pass0 (pa_cons (pv 0) (pa_cons (pv 6) pa_nil))) (fun _ _ => rfl)) pa_nil)) pa_nil)))) (pss_one (ps_expr (pe_bm PySem.F.plainAttrs_list PySem.F.slot_list_append PySem.F.type_list_append mt_append (pv 5) (pa_cons (pe_call (ok_law_row T) (hr.mono (by decide)) (by rfl) T.g_law_row T.F_law_row.kp (b_law_row T) .nil pass0 (pa_cons (pv 0) (pa_cons (pv 3) (pa_cons (pv 7) pa_nil)))) pa_nil))))))))) (pss_one (ps_ret (pv 5)))))))
theorem b_law_right (T : Txt K mg a) : Binds K T.fd_law_right ["urn"] [] := T.F_law_right.bindsN fun _ _ _ _ _ _ us hl => match us, hl with | [_], _ => rfl
theorem ok_law_right (T : Txt K mg a) : FnOk P w K mg base CX0 5 T.f_law_right T.fd_law_right ["urn"] (sp_law_right K a) := by
  refine T.F_law_right.ok sc_law_right (fun vs H Q E h => SpG.len vs H Q E h) (fun cdv A outer s H vs Q E hr h => ⟨t_law_right K a, PSs.nox ?_, pure_law_right h⟩)
  show PSs _ _ (t_law_right_11 K a)
  exact (pss_cons (ps_set (i := 1) sc_law_right.nd rfl (Or.inl rfl) (pe_call (ok_law_lists T) (hr.mono (by decide)) (by rfl) T.g_law_lists T.F_law_lists.kp (b_law_lists T) .nil pass0 (pa_cons (pv 0) (pa_cons (pe_call (ok_law_pick T) (hr.mono (by decide)) (by rfl) T.g_law_pick T.F_law_pick.kp (b_law_pick T) .nil pass0 (pa_cons (pv 0) (pa_cons pe_int pa_nil))) (pa_cons (pe_call (ok_law_pick T) (hr.mono (by decide)) (by rfl) T.g_law_pick T.F_law_pick.kp (b_law_pick T) .nil pass0 (pa_cons (pv 0) (pa_cons pe_int pa_nil))) pa_nil))))) (pss_cons (ps_if (pt_cmpR (op_eqD hr.units) (pe_call (ok_law_pick T) (hr.mono (by decide)) (by rfl) T.g_law_pick T.F_law_pick.kp (b_law_pick T) .nil pass0 (pa_cons (pv 0) (pa_cons pe_int pa_nil))) pe_int (nomark _)) (pss_one (ps_setLc (i := 1) (own := [("place", 10)]) (g := (gName 10)) (tt := tYes) rfl sc_law_right.nd rfl rfl (sw_true rfl rfl rfl (by decide +kernel)) (pi_range1 (by rfl) T.z_range (pa_cons (pe_op op_plus pe_int (pe_call (ok_law_pick T) (hr.mono (by decide)) (by rfl) T.g_law_pick T.F_law_pick.kp (b_law_pick T) .nil pass0 (pa_cons (pv 0) (pa_cons pe_int pa_nil)))) pa_nil)) (blkOk_by (own := [("place", 10)]) (N := ["urn", "rows", "old", "names", "due", "passed", "told", "turn", "found", "row", "place", "hue"]) (sc := defScope s_law_right) (by decide +kernel)) (fun _ _ _ _ _ => (pg_name (i := 10) sc_law_right.nd rfl (Or.inl rfl))) (fun _ _ _ _ _ => pts_nil) (fun _ _ _ _ _ => (pe_call (ok_law_row T) (hr.mono (by decide)) (by rfl) T.g_law_row T.F_law_row.kp (b_law_row T) .nil pass0 (pa_cons (pv 0) (pa_cons (pe_call (ok_law_pool T) (hr.mono (by decide)) (by rfl) T.g_law_pool T.F_law_pool.kp (b_law_pool T) .nil pass0 (pa_cons (pv 0) (pa_cons pe_int pa_nil))) (pa_cons (pe_call (ok_law_pick T) (hr.mono (by decide)) (by rfl) T.g_law_pick T.F_law_pick.kp (b_law_pick T) .nil pass0 (pa_cons (pv 0) (pa_cons pe_int pa_nil))) pa_nil))))))) pss_nil) (pss_cons (ps_set (i := 2) sc_law_right.nd rfl (Or.inr rfl) (pe_call (ok_law_known T) (hr.mono (by decide)) (by rfl) T.g_law_known T.F_law_known.kp (b_law_known T) .nil pass0 (pa_cons (pv 1) pa_nil))) (pss_cons (ps_set (i := 3) sc_law_right.nd rfl (Or.inr rfl) (pe_call (ok_law_names T) (hr.mono (by decide)) (by rfl) T.g_law_names T.F_law_names.kp (b_law_names T) .nil pass0 (pa_cons (pv 0) (pa_cons (pv 2) pa_nil)))) (pss_cons (ps_setLc (i := 4) (own := [("row", 9)]) (g := (gName 9)) (tt := tYes) rfl sc_law_right.nd rfl rfl (sw_true rfl rfl rfl (by decide +kernel)) (pi_list (pv 1)) (blkOk_by (own := [("row", 9)]) (N := ["urn", "rows", "old", "names", "due", "passed", "told", "turn", "found", "row", "place", "hue"]) (sc := defScope s_law_right) (by decide +kernel)) (fun _ _ _ _ _ => (pg_name (i := 9) sc_law_right.nd rfl (Or.inl rfl))) (fun _ _ _ _ _ => pts_nil) (fun _ _ _ _ _ => (pe_callB c_sorted (by rfl) T.z_sorted bt_sorted (pa_cons (pe_lc (own := [("hue", 11)]) (g := (gName 11)) (tt := tYes) rfl sc_law_right.nd (pi_list (pv 9)) (blkOk_by (own := [("hue", 11)]) (N := ["urn", "rows", "old", "names", "due", "passed", "told", "turn", "found", "row", "place", "hue"]) (sc := (⟨.function, [(".0", .local), ("row", .local), ("sorted", .globalImplicit), ("names", .cell), ("old", .cell)], false, false, []⟩ : Scope)) (by decide +kernel)) (fun _ _ _ _ _ => (pg_name (i := 11) sc_law_right.nd rfl (Or.inl rfl))) (fun _ _ _ _ _ => pts_nil) (fun _ _ _ _ _ => (pe_ix ix_seq (pv 3) (pe_bm PySem.F.plainAttrs_list PySem.F.slot_list_index PySem.F.type_list_index mt_index (pv 2) (pa_cons (pv 11) pa_nil)) (fun _ _ => rfl)))) pa_nil)))) (pss_cons (ps_set (i := 5) sc_law_right.nd rfl (Or.inl rfl) (pe_call (ok_law_copies T) (hr.mono (by decide)) (by rfl) T.g_law_copies T.F_law_copies.kp (b_law_copies T) .nil pass0 (pa_cons (pv 1) pa_nil))) (pss_cons (ps_set (i := 6) sc_law_right.nd rfl (Or.inl rfl) (pe_callTy c_list (by rfl) T.z_list bt_list (pa_cons (pv 3) pa_nil))) (pss_cons (ps_for PassesOwn.never rfl (pi_range1 (by rfl) T.z_range (pa_cons pe_int pa_nil)) (pg_name (i := 7) sc_law_right.nd rfl (Or.inr rfl)) (pss_cons (ps_set (i := 8) sc_law_right.nd rfl (Or.inl rfl) (pe_call (ok_hues_of T) (hr.mono (by decide)) (by rfl) T.g_hues_of T.F_hues_of.kp (b_hues_of T) .nil pass0 (pa_cons (pv 5) pa_nil))) (pss_cons (ps_if (PW.pt (pw_or (pt_not (pt_val (pe_call (ok_law_wholes T) (hr.mono (by decide)) (by rfl) T.g_law_wholes T.F_law_wholes.kp (b_law_wholes T) .nil pass0 (pa_cons (pv 8) pa_nil)))) (pw_or (pt_cmpR (op_neD hr.units) (pv 8) (pv 2) (nomark _)) (pw_or1 (pt_cmpR (op_neD hr.units) (pv 5) (pv 1) (nomark _)))))) (pss_one (ps_ret pe_bl)) pss_nil) (pss_cons (ps_expr (pe_bm PySem.F.plainAttrs_list PySem.F.slot_list_append PySem.F.type_list_append mt_append (pv 8) (pa_cons (pv 7) pa_nil))) (pss_cons (ps_set (i := 8) sc_law_right.nd rfl (Or.inl rfl) (pe_call (ok_renamed T) (hr.mono (by decide)) (by rfl) T.g_renamed T.F_renamed.kp (b_renamed T) .nil (passes_call takes0 (fun _ _ _ _ h => h)) (pa_cons (pv 5) (pa_cons (pv 6) pa_nil)))) (pss_cons (ps_if (PW.pt (pw_or (pt_not (pt_val (pe_callB c_isi (by rfl) T.z_isinstance bt_isinstance (pa_cons (pv 8) (pa_cons (pe_bltn (v := .ty "list") (by rfl) T.z_list bt_list rfl) pa_nil))))) (pw_or (pt_not (pt_val (pe_callB (c_all rfl) (by rfl) T.z_all bt_all (pa_cons (pe_lc (own := [("row", 9)]) (g := (gName 9)) (tt := tYes) rfl sc_law_right.nd (pi_list (pv 8)) (blkOk_by (own := [("row", 9)]) (N := ["urn", "rows", "old", "names", "due", "passed", "told", "turn", "found", "row", "place", "hue"]) (sc := defScope s_law_right) (by decide +kernel)) (fun _ _ _ _ _ => (pg_name (i := 9) sc_law_right.nd rfl (Or.inl rfl))) (fun _ _ _ _ _ => pts_nil) (fun _ _ _ _ _ => (pe_call (ok_law_wholes T) (hr.mono (by decide)) (by rfl) T.g_law_wholes T.F_law_wholes.kp (b_law_wholes T) .nil pass0 (pa_cons (pv 9) pa_nil)))) pa_nil)))) (pw_or1 (pt_cmpR (op_neD hr.units) (pv 8) (pv 4) (nomark _)))))) (pss_one (ps_ret pe_bl)) pss_nil) (pss_cons (ps_if (PW.pt (pw_or (pt_cmpR (op_neD hr.units) (pv 5) (pv 1) (nomark _)) (pw_or1 (pt_cmpR (op_neD hr.units) (pv 6) (pv 3) (nomark _))))) (pss_one (ps_ret pe_bl)) pss_nil) (pss_cons (ps_for PassesOwn.never rfl (pi_list (pv 8)) (pg_name (i := 9) sc_law_right.nd rfl (Or.inl rfl)) (pss_one (ps_expr (pe_bm PySem.F.plainAttrs_list PySem.F.slot_list_append PySem.F.type_list_append mt_append (pv 9) (pa_cons (pv 7) pa_nil))))) (pss_one (ps_if (PW.pt (pw_or (pt_cmpR (op_neD hr.units) (pv 8) (pe_lc (own := [("row", 9)]) (g := (gName 9)) (tt := tYes) rfl sc_law_right.nd (pi_list (pv 4)) (blkOk_by (own := [("row", 9)]) (N := ["urn", "rows", "old", "names", "due", "passed", "told", "turn", "found", "row", "place", "hue"]) (sc := defScope s_law_right) (by decide +kernel)) (fun _ _ _ _ _ => (pg_name (i := 9) sc_law_right.nd rfl (Or.inl rfl))) (fun _ _ _ _ _ => pts_nil) (fun _ _ _ _ _ => (pe_op op_plus (pv 9) (pe_lst (pa_cons (pv 7) pa_nil))))) (nomark _)) (pw_or1 (pt_cmpR (op_neD hr.units) (pv 5) (pv 1) (nomark _))))) (pss_one (ps_ret pe_bl)) pss_nil)))))))))) (pss_one (ps_ret pe_bl))))))))))
theorem ok_law (T : Txt K mg a) : FnOk P w K mg base CX0 6 T.f_law T.fd_law ["script"] (sp_law K a) := by
  refine T.F_law.ok sc_law (fun vs H Q E h => SpG.len vs H Q E h) (fun cdv A outer s H vs Q E hr h => ⟨t_law K a, PSs.nox ?_, pure_law h⟩)
  show PSs _ _ (t_law_1 K a)
  exact (pss_cons (ps_for PassesOwn.never rfl (pi_range1 (by rfl) T.z_range (pa_cons (pe_callB (c_max rfl) (by rfl) T.z_max bt_max (pa_cons pe_int (pa_cons (pe_callB (c_min rfl) (by rfl) T.z_min bt_min (pa_cons pe_int (pa_cons (pe_callB c_len (by rfl) T.z_len bt_len (pa_cons (pv 0) pa_nil)) pa_nil))) pa_nil))) pa_nil)) (pg_name (i := 1) sc_law.nd rfl (Or.inl rfl)) (pss_one (ps_if (pt_not (pt_val (pe_call (ok_law_right T) (hr.mono (by decide)) (by rfl) T.g_law_right T.F_law_right.kp (b_law_right T) .nil pass0 (pa_cons (pe_call (ok_law_urn T) (hr.mono (by decide)) (by rfl) T.g_law_urn T.F_law_urn.kp (b_law_urn T) .nil pass0 (pa_cons (pv 0) (pa_cons (pv 1) pa_nil))) pa_nil)))) (pss_one (ps_ret pe_bl)) pss_nil))) (pss_one (ps_ret pe_bl)))
end
end G

namespace G
open PySem PySem.Spec PyProof.Rows L2
theorem law_ask {K : PySem.W.Frag} {a : Ad} {H : Hp} {x : Addr} {ns : List Int} {Q : VK} {E : XK} (hl : ns.length ≤ 63) (hS : SqL K H x (ns.map V.int)) (hq : ∀ H', Q (.bl true) H') : sp_law K a [.ref x] H Q E := by
  refine ⟨[per (scrP K ns)], fun g _ => g = dat (.bool true), fun _ _ => False, fun _ => 0, rfl, ⟨ns, rfl, hl, rfl⟩, ⟨rfl, fun i g v h1 h2 => ?_⟩, fun v g Γp ω' H' e _ p _ => ?_, fun _ _ _ _ h => h.elim⟩
  · match i, h1, h2 with
    | 0, h1, h2 =>
      cases h1
      cases h2
      exact ⟨x, rfl, Same.seq (fun b o e => vw_mk rfl e) hS⟩
    | i + 1, h1, _ => simp at h1
  · subst e
    cases DR.bl_inv p
    exact hq H'
def adOf (K : PySem.W.Frag) : Ad := ⟨He.ga K "Web", He.ga K "HueError", He.ga K "InvalidWeb", He.ga K "InvalidLists", He.ga K "InvalidPlace"⟩
theorem txt {K : PySem.W.Frag} {h : Heap} {mg : Str → Option Value} (X : K.In h) (G : h.Ns mainGlobals mg) (c : SaysP xf fa fn pr K) : ∃ T : Txt K mg (adOf K), T.f_law = He.ga K "law" := by
  obtain ⟨fd_is_count, F_is_count⟩ := c.d.def_ 0 (d := d_is_count) rfl
  obtain ⟨fd_are_counts, F_are_counts⟩ := c.d.def_ 1 (d := d_are_counts) rfl
  obtain ⟨fd_are_different_counts, F_are_different_counts⟩ := c.d.def_ 2 (d := d_are_different_counts) rfl
  obtain ⟨fd_hues_of, F_hues_of⟩ := c.d.def_ 3 (d := d_hues_of) rfl
  obtain ⟨fd_renamed, F_renamed⟩ := c.d.def_ 4 (d := d_renamed) rfl
  obtain ⟨fd_law_urn, F_law_urn⟩ := c.d.def_ 5 (d := d_law_urn) rfl
  obtain ⟨fd_law_pick, F_law_pick⟩ := c.d.def_ 6 (d := d_law_pick) rfl
  obtain ⟨fd_law_wholes, F_law_wholes⟩ := c.d.def_ 7 (d := d_law_wholes) rfl
  obtain ⟨fd_law_whole, F_law_whole⟩ := c.d.def_ 8 (d := d_law_whole) rfl
  obtain ⟨fd_law_shuffled, F_law_shuffled⟩ := c.d.def_ 9 (d := d_law_shuffled) rfl
  obtain ⟨fd_law_pool, F_law_pool⟩ := c.d.def_ 10 (d := d_law_pool) rfl
  obtain ⟨fd_law_row, F_law_row⟩ := c.d.def_ 11 (d := d_law_row) rfl
  obtain ⟨fd_law_lists, F_law_lists⟩ := c.d.def_ 12 (d := d_law_lists) rfl
  obtain ⟨fd_law_copies, F_law_copies⟩ := c.d.def_ 13 (d := d_law_copies) rfl
  obtain ⟨fd_law_names, F_law_names⟩ := c.d.def_ 14 (d := d_law_names) rfl
  obtain ⟨fd_law_known, F_law_known⟩ := c.d.def_ 15 (d := d_law_known) rfl
  obtain ⟨fd_law_right, F_law_right⟩ := c.d.def_ 16 (d := d_law_right) rfl
  obtain ⟨fd_law, F_law⟩ := c.d.def_ 17 (d := d_law) rfl
  exact ⟨{
    g_InvalidLists := He.glo_ok X G (c.d.fact 18 (f := .glo "InvalidLists") rfl),
    xF_InvalidLists := (He.exc_ok (c.d.fact 19 (f := .exc "InvalidLists") rfl)).1,
    kF_InvalidLists := (He.exc_ok (c.d.fact 19 (f := .exc "InvalidLists") rfl)).2.1,
    bF_InvalidLists := (He.exc_ok (c.d.fact 19 (f := .exc "InvalidLists") rfl)).2.2.1,
    tF_InvalidLists := (He.exc_ok (c.d.fact 19 (f := .exc "InvalidLists") rfl)).2.2.2,
    f_is_count := He.ga K "is_count",
    fd_is_count := fd_is_count,
    F_is_count := F_is_count,
    g_is_count := He.glo_ok X G (c.d.fact 0 (f := .glo "is_count") rfl),
    f_are_counts := He.ga K "are_counts",
    fd_are_counts := fd_are_counts,
    F_are_counts := F_are_counts,
    g_are_counts := He.glo_ok X G (c.d.fact 1 (f := .glo "are_counts") rfl),
    f_are_different_counts := He.ga K "are_different_counts",
    fd_are_different_counts := fd_are_different_counts,
    F_are_different_counts := F_are_different_counts,
    g_are_different_counts := He.glo_ok X G (c.d.fact 2 (f := .glo "are_different_counts") rfl),
    f_hues_of := He.ga K "hues_of",
    fd_hues_of := fd_hues_of,
    F_hues_of := F_hues_of,
    g_hues_of := He.glo_ok X G (c.d.fact 3 (f := .glo "hues_of") rfl),
    f_renamed := He.ga K "renamed",
    fd_renamed := fd_renamed,
    F_renamed := F_renamed,
    g_renamed := He.glo_ok X G (c.d.fact 4 (f := .glo "renamed") rfl),
    f_law_urn := He.ga K "_law_urn",
    fd_law_urn := fd_law_urn,
    F_law_urn := F_law_urn,
    g_law_urn := He.glo_ok X G (c.d.fact 5 (f := .glo "_law_urn") rfl),
    f_law_pick := He.ga K "_law_pick",
    fd_law_pick := fd_law_pick,
    F_law_pick := F_law_pick,
    g_law_pick := He.glo_ok X G (c.d.fact 6 (f := .glo "_law_pick") rfl),
    f_law_wholes := He.ga K "_law_wholes",
    fd_law_wholes := fd_law_wholes,
    F_law_wholes := F_law_wholes,
    g_law_wholes := He.glo_ok X G (c.d.fact 7 (f := .glo "_law_wholes") rfl),
    f_law_whole := He.ga K "_law_whole",
    fd_law_whole := fd_law_whole,
    F_law_whole := F_law_whole,
    g_law_whole := He.glo_ok X G (c.d.fact 8 (f := .glo "_law_whole") rfl),
    f_law_shuffled := He.ga K "_law_shuffled",
    fd_law_shuffled := fd_law_shuffled,
    F_law_shuffled := F_law_shuffled,
    g_law_shuffled := He.glo_ok X G (c.d.fact 9 (f := .glo "_law_shuffled") rfl),
    f_law_pool := He.ga K "_law_pool",
    fd_law_pool := fd_law_pool,
    F_law_pool := F_law_pool,
    g_law_pool := He.glo_ok X G (c.d.fact 10 (f := .glo "_law_pool") rfl),
    f_law_row := He.ga K "_law_row",
    fd_law_row := fd_law_row,
    F_law_row := F_law_row,
    g_law_row := He.glo_ok X G (c.d.fact 11 (f := .glo "_law_row") rfl),
    f_law_lists := He.ga K "_law_lists",
    fd_law_lists := fd_law_lists,
    F_law_lists := F_law_lists,
    g_law_lists := He.glo_ok X G (c.d.fact 12 (f := .glo "_law_lists") rfl),
    f_law_copies := He.ga K "_law_copies",
    fd_law_copies := fd_law_copies,
    F_law_copies := F_law_copies,
    g_law_copies := He.glo_ok X G (c.d.fact 13 (f := .glo "_law_copies") rfl),
    f_law_names := He.ga K "_law_names",
    fd_law_names := fd_law_names,
    F_law_names := F_law_names,
    g_law_names := He.glo_ok X G (c.d.fact 14 (f := .glo "_law_names") rfl),
    f_law_known := He.ga K "_law_known",
    fd_law_known := fd_law_known,
    F_law_known := F_law_known,
    g_law_known := He.glo_ok X G (c.d.fact 15 (f := .glo "_law_known") rfl),
    f_law_right := He.ga K "_law_right",
    fd_law_right := fd_law_right,
    F_law_right := F_law_right,
    g_law_right := He.glo_ok X G (c.d.fact 16 (f := .glo "_law_right") rfl),
    f_law := He.ga K "law",
    fd_law := fd_law,
    F_law := F_law,
    g_law := He.glo_ok X G (c.d.fact 17 (f := .glo "law") rfl),
    z_all := He.free_ok X G (c.d.fact 20 (f := .free "all") rfl),
    z_bool := He.free_ok X G (c.d.fact 21 (f := .free "bool") rfl),
    z_dict := He.free_ok X G (c.d.fact 22 (f := .free "dict") rfl),
    z_int := He.free_ok X G (c.d.fact 23 (f := .free "int") rfl),
    z_isinstance := He.free_ok X G (c.d.fact 24 (f := .free "isinstance") rfl),
    z_len := He.free_ok X G (c.d.fact 25 (f := .free "len") rfl),
    z_list := He.free_ok X G (c.d.fact 26 (f := .free "list") rfl),
    z_max := He.free_ok X G (c.d.fact 27 (f := .free "max") rfl),
    z_min := He.free_ok X G (c.d.fact 28 (f := .free "min") rfl),
    z_range := He.free_ok X G (c.d.fact 29 (f := .free "range") rfl),
    z_set := He.free_ok X G (c.d.fact 30 (f := .free "set") rfl),
    z_sorted := He.free_ok X G (c.d.fact 31 (f := .free "sorted") rfl),
    z_zip := He.free_ok X G (c.d.fact 32 (f := .free "zip") rfl) }, rfl⟩
end G
open PySem PySem.W PySem.Calls PyProof.Rows
theorem PySem.Challenge.cw_ownhues_k11_hues_and_new_names_holds : PySem.Challenge.rw_ownhues_k11_hues_and_new_names.Holds := by
  w_on; o_law
  refine HandSHeadRun.head_any (r := OpenLaw.row PySem.Challenge.rw_ownhues_k11_hues_and_new_names) (q := view (OpenLaw.row PySem.Challenge.rw_ownhues_k11_hues_and_new_names).prog [23]) (H := G.hk) (ob := G.ob) (M := 4000) (loose := G.loose) (d := HandSHeadRun.topDef (OpenLaw.row PySem.Challenge.rw_ownhues_k11_hues_and_new_names).prog 23) (kwd := []) G.ob_eq
    (by kernel_rfl) (fun s => by kernel_rfl) G.run (by kernel_rfl) (by kernel_rfl) (by kernel_rfl) (by rfl) (by first | assumption | decide +kernel) (by decide +kernel) ⟨rfl, rfl, rfl, rfl, rfl, by decide +kernel⟩ ?hw ?hc
  case hw => w_witness2
  case hc =>
    refine L2.walk_ofE (l := PySem.Challenge.rw_ownhues_k11_hues_and_new_names) (n := 63) (k := 6) (x := "script") (CX := L2.CX0) rfl (by decide) (by kernel_rfl) ⟨rfl, by decide, by decide⟩ ?F (fun _ _ _ _ z => z)
    intro w mg fa h Y N hmg0
    obtain ⟨K, KX, c⟩ := Y
    have hmg : mg ("law" : PySem.Str) = some (.ref fa) := by
      have e : (HandSHeadRun.topDef (OpenLaw.row PySem.Challenge.rw_ownhues_k11_hues_and_new_names).prog 23).name = ("law" : PySem.Str) := by kernel_rfl
      rw [← e]
      exact hmg0
    obtain ⟨T, hT⟩ := G.txt KX N c
    have e := hmg.symm.trans T.g_law
    injection e with e
    injection e with e
    subst e
    exact ⟨K, T.fd_law, G.sp_law K (G.adOf K), KX, fun s v => L2.FunD.bindsA (ps := ["script"]) T.F_law (fun _ _ _ _ _ _ us hl => match us, hl with | [_], _ => rfl) s [v] rfl, fun H x ns hl _ hS => G.law_ask hl hS (fun _ => rfl), fun base _ _ => G.ok_law T⟩

