import PyProof.Rows.All
import Wide.All
import OpenK.AllK
import Wide.FinOn
import HandS.Base
import HandS.Call
import HandS.Ends
import HandS.Defaults
import HandS.Property
import HandS.Head0
import HandS.Head1
import HandS.Head2
import HandS.HeadEnd
import HandS.HeadHook1
import HandS.HeadHook2
import HandS.ForMost
import HandS.Wide
import HandS.Deep
import HandS.SortInts
import HandS.SortRule
import HandS.IsInst
import HandS.Conv
import HandS.TupSets
import PyProof.InstSpecial
import HandS.Iter
import HandS.Exc
import HandS.ExcOwn
import HandS.TryOnly
import HandS.Steps
import PyProof.InstNe
import HandS.Style
import PyProof.ReprRoads
import PyProof.ReprBulk
import PyProof.FitsInt
import HandS.ExcValue
import HandS.ExcIs
import PyProof.StrLawsTight
import PyProof.StrLawsChain
import PyProof.Rows.StrItems
import PyProof.Rows.ReprOcc
import PyProof.Rows.StrSplitAre
import PyProof.Rows.SetFrom
import KE.KUnpackStar
import HandS.Text
import HandS.StrMore
import HandS.FStr
import HandS.SetFor
import HandS.Strs
import PyProof.EqLayable
import HandS.Comp
import HandS.SetBool
import HandS.TupLe
import KE.KSortAsk
import HandS.WordsExc
import PySem.Challenge.RW_ownhues_k73_webs_written_and_read
set_option Elab.async false
set_option linter.all false
set_option maxRecDepth 100000
set_option maxHeartbeats 0
set_option pp.maxSteps 500
set_option pp.proofs false
namespace G
open PySem PySem.Spec PyProof.Rows L2
/-! ### the head with properties: each is a datum -/
structure PrD where
  cls : Str
  name : Str
  qual : Str
  params : Arguments
  body : List Stmt
  scope : Scope
def pA (K : PySem.W.Frag) (q : PrD) : Addr := He.ma K (He.ga K q.cls) q.name
def pG (K : PySem.W.Frag) (q : PrD) : Addr := match PySem.W.recIn K (pA K q) "property" with
  | some (.ref g :: _) => g
  | _ => 0
def fnAt (K : PySem.W.Frag) (f : Addr) : He.FnW := match K.lookup f with
  | some ⟨_, _, .func fd, _⟩ => some (fd.name, fd.qualname, fd.params, fd.body, fd.scope, fd.globals, fd.closure, fd.builtins)
  | _ => none
def PrD.val (q : PrD) : He.FnW := some (q.name, q.qual, q.params, .stmts q.body, q.scope, mainGlobals, [], builtinsNs)
def PrD.rec_ (K : PySem.W.Frag) (q : PrD) : Bool := match PySem.W.recIn K (pA K q) "property" with
  | some (.ref _ :: _) => true
  | _ => false
def PrD.fn (K : PySem.W.Frag) (q : PrD) : Bool := match K.lookup (pG K q) with
  | some ⟨_, _, .func fd, _⟩ => PySem.W.codeIn K fd.code q.qual && (He.dflB K fd.defaults [] && He.kwdB K fd.kwdefaults [])
  | _ => false
def PrD.ok (K : PySem.W.Frag) (q : PrD) : Bool := He.eqO (PySem.W.findIn K (.ref (He.ga K q.cls)) q.name) (some (some (.ref (pA K q)))) && (He.eqO (PySem.W.specialIn K (.ref (pA K q)) "__get__") (some (some (.builtin "property.__get__"))) &&
  (decide (PySem.W.takesIn K (.ref (pA K q)) = some true) && (q.rec_ K && (PySem.W.keepIn K (.ref (pG K q)) && q.fn K))))
theorem PrD.all {K : PySem.W.Frag} {q : PrD} (e : fnAt K (pG K q) = q.val) (c : q.ok K = true) : PropOf K (He.ga K q.cls) q.name (pA K q) (pG K q) ∧ ∃ fd, FunD K q.name q.qual q.params q.body q.scope [] [] (pG K q) fd := by
  obtain ⟨h1, c⟩ := He.ba c
  obtain ⟨h2, c⟩ := He.ba c
  obtain ⟨h3, c⟩ := He.ba c
  obtain ⟨h4, c⟩ := He.ba c
  obtain ⟨kp, c2⟩ := He.ba c
  refine ⟨⟨He.eqO_ok h1, He.eqO_ok h2, of_decide_eq_true h3, ?_⟩, ?_⟩
  · unfold PrD.rec_ at h4
    unfold pG
    split at h4
    · rename_i g r hr
      rw [hr]
      exact ⟨r, rfl⟩
    · cases h4
  · unfold PrD.fn at c2
    unfold fnAt at e
    cases hq : K.lookup (pG K q) with
    | none =>
      rw [hq] at c2
      cases c2
    | some o =>
      obtain ⟨oc, od, dt, osl⟩ := o
      rw [hq] at c2 e
      cases dt with
      | func fd =>
        obtain ⟨n1, n2, n3, n4, n5, n6, n7, n8, n9, n10, n11, n12, n13, n14, n15⟩ := fd
        have e2 : (some (n1, n2, n3, n4, n5, n6, n7, n15) : He.FnW) = some (q.name, q.qual, q.params, .stmts q.body, q.scope, mainGlobals, [], builtinsNs) := e
        simp only [Option.some.injEq, Prod.mk.injEq] at e2
        obtain ⟨h1, h2, h3, h4, h5, h6, h7, h8⟩ := e2
        subst h1 h2 h3 h4 h5 h6 h7 h8
        have c3 : (PySem.W.codeIn K n13 q.qual && (He.dflB K n8 [] && He.kwdB K n9 [])) = true := c2
        obtain ⟨k1, k2⟩ := He.ba c3
        obtain ⟨k3, k4⟩ := He.ba k2
        exact ⟨_, ⟨oc, od, n8, n9, n10, n11, n12, n13, n14, osl, rfl, hq, k1, He.dflB_ok k3, He.kwdB_ok k4⟩, kp⟩
      | _ => cases c2
abbrev AlP : Type := He.AlD × He.AlD
def obsP (xf : PySem.W.Frag → Bool) (fa : List He.Fa) (fn : List He.DefD) (pr : List PrD) (K : PySem.W.Frag) : AlP := (He.obsD fa fn K, ((pr.all fun q => q.ok K) && xf K, pr.map fun q => fnAt K (pG K q)))
def valP (fn : List He.DefD) (pr : List PrD) : AlP := (He.valD fn, (true, pr.map PrD.val))
def obsPG (xf : PySem.W.Frag → Bool) (n : Nat) (fa : List He.Fa) (fn : List He.DefD) (pr : List PrD) (g : Addr → Option Obj) : AlP := obsP xf fa fn pr (He.frG g (sysModules :: He.asD g n))
def SaysP (xf : PySem.W.Frag → Bool) (fa : List He.Fa) (fn : List He.DefD) (pr : List PrD) (K : PySem.W.Frag) : Prop := obsP xf fa fn pr K = valP fn pr
def hookP (xf : PySem.W.Frag → Bool) (n : Nat) (fa : List He.Fa) (fn : List He.DefD) (pr : List PrD) : PySem.W.Hook where
  α := AlP
  obs := fun s => obsPG xf n fa fn pr s.heap.get?
  val := fun _ => valP fn pr
  says := fun _ h => ∃ K : PySem.W.Frag, K.In h ∧ SaysP xf fa fn pr K
  of := fun _ _ e => ⟨_, He.frG_in, e⟩
  keeps := fun _ _ _ ⟨K, hK, c⟩ k => ⟨K, PySem.W.Frag.In.keeps hK k, c⟩
theorem obsPG_eq {xf : PySem.W.Frag → Bool} {n : Nat} {fa : List He.Fa} {fn : List He.DefD} {pr : List PrD} {g : Addr → Option Obj} {s : Shared} (h : ∀ a, g a = s.heap.get? a) : obsPG xf n fa fn pr g = (hookP xf n fa fn pr).obs s := by
  have e : g = s.heap.get? := funext h
  rw [e] <;> rfl
theorem SaysP.d {xf : PySem.W.Frag → Bool} {fa : List He.Fa} {fn : List He.DefD} {pr : List PrD} {K : PySem.W.Frag} (c : SaysP xf fa fn pr K) : He.SaysD fa fn K := congrArg (fun z : AlP => z.1) c
theorem SaysP.p {xf : PySem.W.Frag → Bool} {fa : List He.Fa} {fn : List He.DefD} {pr : List PrD} {K : PySem.W.Frag} (c : SaysP xf fa fn pr K) (i : Nat) {q : PrD} (h : pr[i]? = some q) :
    PropOf K (He.ga K q.cls) q.name (pA K q) (pG K q) ∧ ∃ fd, FunD K q.name q.qual q.params q.body q.scope [] [] (pG K q) fd := by
  have c2 : (pr.all fun q => q.ok K) = true := (He.ba (show ((pr.all fun q => q.ok K) && xf K) = true from congrArg (fun z : AlP => z.2.1) c)).1
  have e : pr.map (fun q => fnAt K (pG K q)) = pr.map PrD.val := congrArg (fun z : AlP => z.2.2) c
  have e2 : (pr.map fun q => fnAt K (pG K q))[i]? = (pr.map PrD.val)[i]? := by rw [e]
  rw [List.getElem?_map, List.getElem?_map, h] at e2
  exact PrD.all (Option.some.inj e2) (List.all_eq_true.mp c2 q (List.mem_of_getElem? h))
theorem SaysP.x {xf : PySem.W.Frag → Bool} {fa : List He.Fa} {fn : List He.DefD} {pr : List PrD} {K : PySem.W.Frag} (c : SaysP xf fa fn pr K) : xf K = true := (He.ba (show ((pr.all fun q => q.ok K) && xf K) = true from congrArg (fun z : AlP => z.2.1) c)).2
end G

/-! A small logic over the readings: slots hold assertions, each with a region of its own (a colour). 0 what stands still, 1 the frame, 2 what an expression has made, i + 3 the slot i's own. -/
namespace G
open PySem L2

abbrev Col := Addr → Nat
def vw (ω : Col) (H : Hp) (c : Nat) : Hp := fun b => if ω b = c then H b else none
theorem vw_iff {ω : Col} {H : Hp} {c : Nat} {a : Addr} {o : HO} : vw ω H c a = some o ↔ ω a = c ∧ H a = some o := by
  unfold vw
  by_cases h : ω a = c
  · rw [if_pos h]; exact ⟨fun e => ⟨h, e⟩, fun e => e.2⟩
  · rw [if_neg h]; exact ⟨(fun e => nomatch e), (fun e => absurd e.1 h)⟩
theorem vw_mk {ω : Col} {H : Hp} {c : Nat} {a : Addr} {o : HO} (h : ω a = c) (e : H a = some o) : vw ω H c a = some o := vw_iff.mpr ⟨h, e⟩
theorem vw_H {ω : Col} {H : Hp} {c : Nat} {a : Addr} {o : HO} (e : vw ω H c a = some o) : H a = some o := (vw_iff.mp e).2
theorem vw_c {ω : Col} {H : Hp} {c : Nat} {a : Addr} {o : HO} (e : vw ω H c a = some o) : ω a = c := (vw_iff.mp e).1

/-! ### data in the heap, its lists tracked -/
mutual
inductive DR (H : Hp) : V → PyData → Prop
  | non : DR H .non .none
  | bl (b : Bool) : DR H (.bl b) (.bool b)
  | int (i : Int) : DR H (.int i) (.int i)
  | str (x : Str) : DR H (.str x) (.str x)
  | lst {a : Addr} {xs : List V} {ds : List PyData} : H a = some (.lst xs) → DRs H xs ds → DR H (.ref a) (.list ds)
  | tup {a : Addr} {xs : List V} {ds : List PyData} : H a = some (.tup xs) → DRs H xs ds → DR H (.ref a) (.tuple ds)
  | dic {a : Addr} {ps : List (Int × Int)} : H a = some (.dK (ps.map fun p => (Sum.inl p.1, V.int p.2))) → DR H (.ref a) (.dict (ps.map fun p => (.int p.1, .int p.2)))
inductive DRs (H : Hp) : List V → List PyData → Prop
  | nil : DRs H [] []
  | cons {v : V} {vs : List V} {d : PyData} {ds : List PyData} : DR H v d → DRs H vs ds → DRs H (v :: vs) (d :: ds)
end
mutual
theorem DR.mono {H H' : Hp} (s : Same H H') : ∀ (d : PyData) {v : V}, DR H v d → DR H' v d
  | .none, _, h => by cases h; exact .non
  | .bool b, _, h => by cases h; exact .bl b
  | .int i, _, h => by cases h; exact .int i
  | .str x, _, h => by cases h; exact .str x
  | .list ds, _, h => by cases h with | lst e t => exact .lst (s _ _ e) (DRs.mono s ds t)
  | .tuple ds, _, h => by cases h with | tup e t => exact .tup (s _ _ e) (DRs.mono s ds t)
  | .dict _, _, h => by cases h with | dic e => exact .dic (s _ _ e)
theorem DRs.mono {H H' : Hp} (s : Same H H') : ∀ (ds : List PyData) {vs : List V}, DRs H vs ds → DRs H' vs ds
  | [], _, h => by cases h; exact .nil
  | d :: ds, _, h => by cases h with | cons a b => exact .cons (DR.mono s d a) (DRs.mono s ds b)
end
mutual
theorem DR.dp {K : PySem.W.Frag} {H : Hp} : ∀ (d : PyData) {v : V}, d.canLay0 = true → DR H v d → Dp K H v d
  | .none, _, _, h => by cases h; exact .non
  | .bool b, _, _, h => by cases h; exact .bl b
  | .int i, _, _, h => by cases h; exact .int i
  | .str x, _, _, h => by cases h; exact .str x
  | .list ds, _, l, h => by cases h with | lst e t => exact .lst (SqL.of e) (DRs.dp ds l t)
  | .tuple ds, _, l, h => by cases h with | tup e t => exact .tup (SqT.of e) (DRs.dp ds l t)
  | .dict _, _, l, _ => Bool.noConfusion l
theorem DRs.dp {K : PySem.W.Frag} {H : Hp} : ∀ (ds : List PyData) {vs : List V}, PyData.canLayAll0 ds = true → DRs H vs ds → DpAll K H vs ds
  | [], _, _, h => by cases h; exact .nil
  | d :: ds, _, l, h => by
    obtain ⟨l1, l2⟩ := Bool.and_eq_true_iff.mp (show (d.canLay0 && PyData.canLayAll0 ds) = true from l)
    cases h with | cons a b => exact .cons (DR.dp d l1 a) (DRs.dp ds l2 b)
end
section
variable {K : PySem.W.Frag} {H : Hp}
theorem DRs.length : ∀ {ds : List PyData} {vs : List V}, DRs H vs ds → vs.length = ds.length
  | [], _, h => by cases h; rfl
  | d :: ds, _, h => by cases h with | cons a b => simp [DRs.length b]
theorem DRs.get : ∀ {ds : List PyData} {vs : List V} {i : Nat} {v : V}, DRs H vs ds → vs[i]? = some v → ∃ d, ds[i]? = some d ∧ DR H v d
  | [], _, _, _, h, e => by cases h; simp at e
  | d :: ds, _, 0, _, h, e => by cases h with | cons a b => simp at e; subst e; exact ⟨d, rfl, a⟩
  | d :: ds, _, i + 1, _, h, e => by cases h with | cons a b => exact DRs.get (i := i) b (by simpa using e)
theorem DRs.at : ∀ {ds : List PyData} {vs : List V} {i : Nat} {d : PyData}, DRs H vs ds → ds[i]? = some d → ∃ v, vs[i]? = some v ∧ DR H v d
  | [], _, _, _, h, e => by simp at e
  | d :: ds, _, 0, _, h, e => by cases h with | cons a b => simp at e; subst e; exact ⟨_, rfl, a⟩
  | d :: ds, _, i + 1, _, h, e => by cases h with | cons a b => exact DRs.at (i := i) b (by simpa using e)
theorem DRs.append : ∀ {ds es : List PyData} {vs ws : List V}, DRs H vs ds → DRs H ws es → DRs H (vs ++ ws) (ds ++ es)
  | [], _, _, _, h, h' => by cases h; exact h'
  | d :: ds, _, _, _, h, h' => by cases h with | cons a b => exact .cons a (DRs.append b h')
theorem DRs.snoc {ds : List PyData} {d : PyData} {vs : List V} {v : V} (h : DRs H vs ds) (h' : DR H v d) : DRs H (vs ++ [v]) (ds ++ [d]) := h.append (.cons h' .nil)
theorem DRs.drop : ∀ {ds : List PyData} {vs : List V} (n : Nat), DRs H vs ds → DRs H (vs.drop n) (ds.drop n)
  | _, _, 0, h => h
  | [], _, n + 1, h => by cases h; exact .nil
  | d :: ds, _, n + 1, h => by cases h with | cons a b => exact DRs.drop n b
theorem DRs.take : ∀ {ds : List PyData} {vs : List V} (n : Nat), DRs H vs ds → DRs H (vs.take n) (ds.take n)
  | _, _, 0, h => .nil
  | [], _, n + 1, h => by cases h; exact .nil
  | d :: ds, _, n + 1, h => by cases h with | cons a b => exact .cons a (DRs.take n b)
theorem DRs.erase : ∀ {ds : List PyData} {vs : List V} (n : Nat), DRs H vs ds → DRs H (vs.eraseIdx n) (ds.eraseIdx n)
  | [], _, _, h => by cases h; simp; exact .nil
  | d :: ds, _, 0, h => by cases h with | cons a b => exact b
  | d :: ds, _, n + 1, h => by cases h with | cons a b => exact .cons a (DRs.erase n b)
theorem DRs.set : ∀ {ds : List PyData} {vs : List V} (n : Nat) {d : PyData} {v : V}, DRs H vs ds → DR H v d → DRs H (vs.set n v) (ds.set n d)
  | [], _, _, _, _, h, _ => by cases h; exact .nil
  | d :: ds, _, 0, _, _, h, h' => by cases h with | cons a b => exact .cons h' b
  | d :: ds, _, n + 1, _, _, h, h' => by cases h with | cons a b => exact .cons a (DRs.set n b h')
theorem DRs.reverse : ∀ {ds : List PyData} {vs : List V}, DRs H vs ds → DRs H vs.reverse ds.reverse
  | [], _, h => by cases h; exact .nil
  | d :: ds, _, h => by cases h with | cons a b => simp only [List.reverse_cons]; exact (DRs.reverse b).snoc a
theorem DRs.ints : ∀ {ns : List Int} {vs : List V}, DRs H vs (ns.map PyData.int) → vs = ns.map V.int
  | [], _, h => by cases h; rfl
  | n :: ns, _, h => by
    cases h with | cons a b => cases a; rw [DRs.ints b]; rfl
theorem DRs.of_ints : ∀ {ns : List Int}, DRs H (ns.map V.int) (ns.map PyData.int)
  | [] => .nil
  | n :: ns => .cons (.int n) DRs.of_ints
theorem DR.int_inv {v : V} {i : Int} (h : DR H v (.int i)) : v = .int i := by cases h; rfl
theorem DR.bl_inv {v : V} {b : Bool} (h : DR H v (.bool b)) : v = .bl b := by cases h; rfl
theorem DR.str_inv {v : V} {b : Str} (h : DR H v (.str b)) : v = .str b := by cases h; rfl
theorem DR.non_inv {v : V} (h : DR H v .none) : v = .non := by cases h; rfl
theorem DR.lst_inv {v : V} {ds : List PyData} (h : DR H v (.list ds)) : ∃ a xs, v = .ref a ∧ H a = some (.lst xs) ∧ DRs H xs ds := by
  cases h with | lst e t => exact ⟨_, _, rfl, e, t⟩
theorem DR.tup_inv {v : V} {ds : List PyData} (h : DR H v (.tuple ds)) : ∃ a xs, v = .ref a ∧ H a = some (.tup xs) ∧ DRs H xs ds := by
  cases h with | tup e t => exact ⟨_, _, rfl, e, t⟩
end

/-! ### what a slot holds -/
structure Gp where
  p : Hp → V → Hp → Prop
  mono : ∀ {A A' : Hp} {v : V} {R R' : Hp}, Same A A' → Same R R' → p A v R → p A' v R'
/-- what stands still -/
structure Per where
  q : Hp → V → Prop
  mono : ∀ {A A' : Hp} {v : V}, Same A A' → q A v → q A' v
def per (q : Per) : Gp := ⟨fun A v _ => q.q A v, fun a _ h => q.mono a h⟩
def dP (d : PyData) : Per := ⟨fun A v => DR A v d, fun a h => h.mono a⟩
abbrev dat (d : PyData) : Gp := per (dP d)
/-- a list of one's own, of data that stands still -/
def own (ds : List PyData) : Gp := ⟨fun A v R => ∃ a vs, v = .ref a ∧ R a = some (.lst vs) ∧ DRs A vs ds,
  fun a r ⟨x, vs, e, h, t⟩ => ⟨x, vs, e, r _ _ h, t.mono a⟩⟩
abbrev Ga := List (Option Gp)
def Sta (Γ : Ga) (ω : Col) (σ : L2.St) (H : Hp) : Prop := σ.length = Γ.length ∧ ∀ (i : Nat) (g : Gp), Γ[i]? = some (some g) → ∃ v, σ[i]? = some (some v) ∧ g.p (vw ω H 0) v (vw ω H (i + 3))
def Fr (ω ω' : Col) (H H' : Hp) : Prop := Same (vw ω H 0) (vw ω' H' 0) ∧ Same (vw ω H 1) (vw ω' H' 1)
theorem Fr.refl {ω : Col} {H : Hp} : Fr ω ω H H := ⟨Same.refl _, Same.refl _⟩
theorem Fr.trans {ω ω1 ω2 : Col} {H H1 H2 : Hp} (a : Fr ω ω1 H H1) (b : Fr ω1 ω2 H1 H2) : Fr ω ω2 H H2 := ⟨a.1.trans b.1, a.2.trans b.2⟩

/-! ### expressions -/
def WE (te : TE) (Γ : Ga) (k : Gp → Ga → Prop) : Prop := ∀ ω σ H, Sta Γ ω σ H → ∀ Q : VK,
  (∀ v g Γ' ω' H', k g Γ' → Sta Γ' ω' σ H' → g.p (vw ω' H' 0) v (vw ω' H' 2) → Fr ω ω' H H' → Q v H') → te σ H Q
def WQ (te : TE) (Γ : Ga) (k : Per → Ga → Prop) : Prop := ∀ ω σ H, Sta Γ ω σ H → ∀ Q : VK,
  (∀ v q Γ' ω' H', k q Γ' → Sta Γ' ω' σ H' → q.q (vw ω' H' 0) v → Fr ω ω' H H' → Q v H') → te σ H Q
def WT (tt : TT) (Γ : Ga) (k : Bool → Ga → Prop) : Prop := ∀ ω σ H, Sta Γ ω σ H → ∀ Q : Bool → Hp → Prop,
  (∀ b Γ' ω' H', k b Γ' → Sta Γ' ω' σ H' → Fr ω ω' H H' → Q b H') → tt σ H Q
inductive Arg where
  | s (i : Nat)
  | q (q : Per)
def ArgOk (σ : L2.St) (A : Hp) : Arg → V → Prop
  | .s i, v => σ[i]? = some (some v)
  | .q q, v => q.q A v
theorem ArgOk.mono {σ : L2.St} {A A' : Hp} (s : Same A A') : ∀ {a : Arg} {v : V}, ArgOk σ A a v → ArgOk σ A' a v
  | .s _, _, h => h
  | .q q, _, h => q.mono s h
inductive ArgsOk (σ : L2.St) (A : Hp) : List Arg → List V → Prop
  | nil : ArgsOk σ A [] []
  | cons {a : Arg} {as : List Arg} {v : V} {vs : List V} : ArgOk σ A a v → ArgsOk σ A as vs → ArgsOk σ A (a :: as) (v :: vs)
theorem ArgsOk.mono {σ : L2.St} {A A' : Hp} (s : Same A A') : ∀ {as : List Arg} {vs : List V}, ArgsOk σ A as vs → ArgsOk σ A' as vs
  | [], _, h => by cases h; exact .nil
  | a :: as, _, h => by cases h with | cons x y => exact .cons (x.mono s) (ArgsOk.mono s y)
def WA (ta : TA) (Γ : Ga) (k : List Arg → Ga → Prop) : Prop := ∀ ω σ H, Sta Γ ω σ H → ∀ Q : List V → Hp → Prop,
  (∀ vs as Γ' ω' H', k as Γ' → Sta Γ' ω' σ H' → ArgsOk σ (vw ω' H' 0) as vs → Fr ω ω' H H' → Q vs H') → ta σ H Q
/-- g may be shut: it stands still from now on -/
def Frz (g : Gp) (q : Per) : Prop := ∀ A v R A', Same A A' → Same R A' → g.p A v R → q.q A' v
theorem frz_per {q : Per} : Frz (per q) q := fun _ _ _ _ a _ h => q.mono a h
theorem frz_own {ds : List PyData} : Frz (own ds) (dP (.list ds)) := fun _ _ _ _ a r ⟨x, vs, e, h, t⟩ => by
  subst e
  exact .lst (r _ _ h) (t.mono a)

/-- recolouring c to 0 -/
def shut (ω : Col) (c : Nat) : Col := fun b => if ω b = c then 0 else ω b
theorem shut_0 {ω : Col} {H : Hp} {c : Nat} : Same (vw ω H 0) (vw (shut ω c) H 0) := fun a o h => by
  obtain ⟨h1, h2⟩ := vw_iff.mp h
  refine vw_mk ?_ h2
  unfold shut
  split
  · rfl
  · exact h1
theorem shut_c {ω : Col} {H : Hp} {c : Nat} : Same (vw ω H c) (vw (shut ω c) H 0) := fun a o h => by
  obtain ⟨h1, h2⟩ := vw_iff.mp h
  refine vw_mk ?_ h2
  unfold shut
  rw [if_pos h1]
theorem shut_ne {ω : Col} {H : Hp} {c d : Nat} (n : d ≠ c) : Same (vw ω H d) (vw (shut ω c) H d) := fun a o h => by
  obtain ⟨h1, h2⟩ := vw_iff.mp h
  refine vw_mk ?_ h2
  unfold shut
  rw [if_neg (by rw [h1]; exact n)]
  exact h1
theorem Sta.move {Γ : Ga} {ω ω' : Col} {σ : L2.St} {H H' : Hp} (S : Sta Γ ω σ H) (a : Same (vw ω H 0) (vw ω' H' 0)) (r : ∀ i g, Γ[i]? = some (some g) → Same (vw ω H (i + 3)) (vw ω' H' (i + 3))) : Sta Γ ω' σ H' :=
  ⟨S.1, fun i g h => by
    obtain ⟨v, e, p⟩ := S.2 i g h
    exact ⟨v, e, g.mono a (r i g h) p⟩⟩
theorem wq_of {te : TE} {Γ : Ga} {k : Per → Ga → Prop} (h : WE te Γ fun g Γ' => ∃ q, Frz g q ∧ k q Γ') : WQ te Γ k := fun ω σ H S Q c =>
  h ω σ H S Q fun v g Γ' ω' H' ⟨q, fz, kk⟩ S' p fr => by
    refine c v q Γ' (shut ω' 2) H' kk (S'.move shut_0 fun i _ _ => shut_ne (by omega)) (fz _ _ _ _ shut_0 shut_c p) (fr.trans ⟨shut_0, shut_ne (by decide)⟩)
section
variable {K : PySem.W.Frag} {Γ : Ga} {k : Gp → Ga → Prop} {kt : Bool → Ga → Prop} {ta tb tc te : TE} {t u : TT}
theorem we_var {i : Nat} {q : Per} (h : Γ[i]? = some (some (per q))) (c : k (per q) Γ) : WE (tVar i) Γ k := fun ω σ H S Q f => by
  obtain ⟨v, e, p⟩ := S.2 i _ h
  exact ⟨v, e, f v _ Γ ω H c S p Fr.refl⟩
theorem set_eq {α : Type} {l : List α} {i j : Nat} {x : α} : (l.set i x)[j]? = if i = j then (if i < l.length then some x else none) else l[j]? := by
  rw [List.getElem?_set]
/-- a slot's own is shut when it is read as a value -/
theorem we_varF {i : Nat} {g : Gp} {q : Per} (h : Γ[i]? = some (some g)) (z : Frz g q) (c : k (per q) (Γ.set i (some (per q)))) : WE (tVar i) Γ k := fun ω σ H S Q f => by
  obtain ⟨v, e, p⟩ := S.2 i _ h
  have pq : q.q (vw (shut ω (i + 3)) H 0) v := z _ _ _ _ shut_0 shut_c p
  refine ⟨v, e, f v (per q) _ (shut ω (i + 3)) H c ⟨by rw [List.length_set]; exact S.1, fun j g' hj => ?_⟩ pq ⟨shut_0, shut_ne (by omega)⟩⟩
  rw [set_eq] at hj
  by_cases hij : i = j
  · rw [if_pos hij] at hj
    split at hj
    · cases hj
      subst hij
      exact ⟨v, e, pq⟩
    · cases hj
  · rw [if_neg hij] at hj
    obtain ⟨w, e', p'⟩ := S.2 j _ hj
    exact ⟨w, e', g'.mono shut_0 (shut_ne (by omega)) p'⟩
theorem we_c {v : V} {q : Per} (h : ∀ A, q.q A v) (c : k (per q) Γ) : WE (tC v) Γ k := fun ω σ H S Q f => f v _ Γ ω H c S (h _) Fr.refl
theorem we_int {i : Int} (c : k (dat (.int i)) Γ) : WE (tC (.int i)) Γ k := we_c (q := dP (.int i)) (fun _ => DR.int i) c
theorem we_bl {i : Bool} (c : k (dat (.bool i)) Γ) : WE (tC (.bl i)) Γ k := we_c (q := dP (.bool i)) (fun _ => DR.bl i) c
theorem we_str {i : Str} (c : k (dat (.str i)) Γ) : WE (tC (.str i)) Γ k := we_c (q := dP (.str i)) (fun _ => DR.str i) c
theorem we_non (c : k (dat .none) Γ) : WE (tC .non) Γ k := we_c (q := dP .none) (fun _ => DR.non) c
theorem WE.imp {k k' : Gp → Ga → Prop} (h : WE te Γ k) (f : ∀ g Γ', k g Γ' → k' g Γ') : WE te Γ k' := fun ω σ H S Q c => h ω σ H S Q fun v g Γ' ω' H' kk => c v g Γ' ω' H' (f _ _ kk)
theorem WQ.imp {k k' : Per → Ga → Prop} (h : WQ te Γ k) (f : ∀ g Γ', k g Γ' → k' g Γ') : WQ te Γ k' := fun ω σ H S Q c => h ω σ H S Q fun v g Γ' ω' H' kk => c v g Γ' ω' H' (f _ _ kk)
theorem WT.imp {t : TT} {k k' : Bool → Ga → Prop} (h : WT t Γ k) (f : ∀ g Γ', k g Γ' → k' g Γ') : WT t Γ k' := fun ω σ H S Q c => h ω σ H S Q fun g Γ' ω' H' kk => c g Γ' ω' H' (f _ _ kk)

/-- a two-place operation upon what stands still -/
theorem we_op {r : R2} (h : WQ ta Γ fun q Γ1 => WQ tb Γ1 fun q' Γ2 => ∀ (ω : Col) (σ : L2.St) (H : Hp) (v w : V), Sta Γ2 ω σ H → q.q (vw ω H 0) v → q'.q (vw ω H 0) w → ∀ Q : VK,
    (∀ (v : V) (g : Gp) (Γ' : Ga) (ω' : Col) (H' : Hp), k g Γ' → Sta Γ' ω' σ H' → g.p (vw ω' H' 0) v (vw ω' H' 2) → Fr ω ω' H H' → Q v H') → r v w H Q) : WE (tOp r ta tb) Γ k := fun ω σ H S Q f =>
  h ω σ H S _ fun v q Γ1 ω1 H1 h1 S1 p1 f1 => h1 ω1 σ H1 S1 _ fun w q' Γ2 ω2 H2 h2 S2 p2 f2 =>
    h2 ω2 σ H2 v w S2 (q.mono f2.1 p1) p2 Q fun v g Γ' ω' H' kk S' p f3 => f v g Γ' ω' H' kk S' p ((f1.trans f2).trans f3)
theorem we_un {r : V → Hp → VK → Prop} (h : WQ ta Γ fun q Γ2 => ∀ (ω : Col) (σ : L2.St) (H : Hp) (v : V), Sta Γ2 ω σ H → q.q (vw ω H 0) v → ∀ Q : VK,
    (∀ (v : V) (g : Gp) (Γ' : Ga) (ω' : Col) (H' : Hp), k g Γ' → Sta Γ' ω' σ H' → g.p (vw ω' H' 0) v (vw ω' H' 2) → Fr ω ω' H H' → Q v H') → r v H Q) : WE (tUn r ta) Γ k := fun ω σ H S Q f =>
  h ω σ H S _ fun v q Γ1 ω1 H1 h1 S1 p1 f1 => h1 ω1 σ H1 v S1 p1 Q fun v g Γ' ω' H' kk S' p f3 => f v g Γ' ω' H' kk S' p (f1.trans f3)
end
end G

namespace G
open PySem L2

/-! ### something new -/
def paint (ω : Col) (p : Addr) (c : Nat) : Col := fun b => if b = p then c else ω b
theorem paint_same {ω : Col} {H : Hp} {p : Addr} {c : Nat} {o : HO} (n : H p = none) (d : Nat) : Same (vw ω H d) (vw (paint ω p c) (upd H p o) d) := fun a u h => by
  obtain ⟨h1, h2⟩ := vw_iff.mp h
  have e : a ≠ p := ne_of_none h2 n
  exact vw_mk (by unfold paint; rw [if_neg e]; exact h1) (by rw [upd_ne e]; exact h2)
theorem paint_at {ω : Col} {H : Hp} {p : Addr} {c : Nat} {o : HO} : vw (paint ω p c) (upd H p o) c p = some o := vw_mk (by unfold paint; rw [if_pos rfl]) upd_same
theorem paint_fr {ω : Col} {H : Hp} {p : Addr} {c : Nat} {o : HO} (n : H p = none) : Fr ω (paint ω p c) H (upd H p o) := ⟨paint_same n 0, paint_same n 1⟩
theorem Sta.new {Γ : Ga} {ω : Col} {σ : L2.St} {H : Hp} (S : Sta Γ ω σ H) {p : Addr} (c : Nat) {o : HO} (n : H p = none) : Sta Γ (paint ω p c) σ (upd H p o) :=
  S.move (paint_same n 0) fun _ _ _ => paint_same n _
/-- an own object is changed -/
theorem mut_same {ω : Col} {H : Hp} {p : Addr} {o : HO} {d : Nat} (n : ω p ≠ d) : Same (vw ω H d) (vw ω (upd H p o) d) := fun a u h => by
  obtain ⟨h1, h2⟩ := vw_iff.mp h
  have e : a ≠ p := fun q => n (by rw [← q]; exact h1)
  exact vw_mk h1 (by rw [upd_ne e]; exact h2)
theorem Sta.set {Γ : Ga} {ω ω' : Col} {σ : L2.St} {H H' : Hp} (S : Sta Γ ω σ H) {i : Nat} {v : V} {g : Gp} (a : Same (vw ω H 0) (vw ω' H' 0)) (r : ∀ j g, j ≠ i → Γ[j]? = some (some g) → Same (vw ω H (j + 3)) (vw ω' H' (j + 3)))
    (e : σ[i]? = some (some v)) (p : g.p (vw ω' H' 0) v (vw ω' H' (i + 3))) : Sta (Γ.set i (some g)) ω' σ H' := by
  refine ⟨by rw [List.length_set]; exact S.1, fun j g' hj => ?_⟩
  rw [set_eq] at hj
  by_cases hij : i = j
  · rw [if_pos hij] at hj
    split at hj
    · cases hj
      subst hij
      exact ⟨v, e, p⟩
    · cases hj
  · rw [if_neg hij] at hj
    obtain ⟨w, e', p'⟩ := S.2 j _ hj
    exact ⟨w, e', g'.mono a (r j _ (Ne.symm hij) hj) p'⟩
/-- the assignment x = e: the result's own goes to the slot -/
def give (ω : Col) (c d : Nat) : Col := fun b => if ω b = c then d else if ω b = d then c else ω b
theorem give_c {ω : Col} {H : Hp} {c d : Nat} : Same (vw ω H c) (vw (give ω c d) H d) := fun a o h => by
  obtain ⟨h1, h2⟩ := vw_iff.mp h
  exact vw_mk (by unfold give; rw [if_pos h1]) h2
theorem give_ne {ω : Col} {H : Hp} {c d e : Nat} (n : e ≠ c) (m : e ≠ d) : Same (vw ω H e) (vw (give ω c d) H e) := fun a o h => by
  obtain ⟨h1, h2⟩ := vw_iff.mp h
  exact vw_mk (by unfold give; rw [if_neg (by rw [h1]; exact n), if_neg (by rw [h1]; exact m)]; exact h1) h2
theorem Sta.asg {Γ : Ga} {ω : Col} {σ : L2.St} {H : Hp} (S : Sta Γ ω σ H) {i : Nat} {v : V} {g : Gp} (p : g.p (vw ω H 0) v (vw ω H 2)) : Sta (Γ.set i (some g)) (give ω 2 (i + 3)) (σ.set i (some v)) H := by
  refine ⟨by rw [List.length_set, List.length_set]; exact S.1, fun j g' hj => ?_⟩
  rw [set_eq] at hj
  by_cases hij : i = j
  · rw [if_pos hij] at hj
    split at hj
    next hl =>
      cases hj
      subst hij
      exact ⟨v, by rw [set_eq, if_pos rfl, if_pos (by rw [S.1]; exact hl)], g.mono (give_ne (by omega) (by omega)) give_c p⟩
    · cases hj
  · rw [if_neg hij] at hj
    obtain ⟨w, e', p'⟩ := S.2 j _ hj
    exact ⟨w, by rw [set_eq, if_neg hij]; exact e', g'.mono (give_ne (by omega) (by omega)) (give_ne (by omega) (by omega)) p'⟩
theorem give_fr {ω : Col} {H : Hp} {i : Nat} : Fr ω (give ω 2 (i + 3)) H H := ⟨give_ne (by omega) (by omega), give_ne (by omega) (by omega)⟩

section
variable {K : PySem.W.Frag} {Γ : Ga} {k : Gp → Ga → Prop} {kt : Bool → Ga → Prop} {ka : List Arg → Ga → Prop} {ta tb tc te : TE} {t u : TT} {tr : TA} {r r' : R2}

/-! ### tests -/
theorem wt_test (h : WQ te Γ fun q Γ1 => ∃ b, q = dP (.bool b) ∧ kt b Γ1) : WT (tTest te) Γ kt := fun ω σ H S Q f => h ω σ H S _ fun v q Γ1 ω1 H1 ⟨b, e, hk⟩ S1 p f1 => by
  subst e
  exact ⟨b, DR.bl_inv p, f b Γ1 ω1 H1 hk S1 f1⟩
theorem wt_B (h : WQ te Γ fun q Γ1 => ∃ b, q = dP (.bool b) ∧ kt b Γ1) : WT (tB te) Γ kt := fun ω σ H S Q f => h ω σ H S _ fun v q Γ1 ω1 H1 ⟨b, e, hk⟩ S1 p f1 => by
  subst e
  exact ⟨b, DR.bl_inv p, f b Γ1 ω1 H1 hk S1 f1⟩
theorem wt_not (h : WT t Γ fun b Γ1 => kt (!b) Γ1) : WT (tNot t) Γ kt := fun ω σ H S Q f => h ω σ H S _ fun b Γ1 ω1 H1 hk S1 f1 => f _ Γ1 ω1 H1 hk S1 f1
theorem wt_and (h : WT t Γ fun b Γ1 => if b = true then WT u Γ1 kt else kt false Γ1) : WT (tAnd t u) Γ kt := fun ω σ H S Q f => h ω σ H S _ fun b Γ1 ω1 H1 hk S1 f1 => by
  cases b with
  | true => exact iteT ((show WT u Γ1 kt from hk) ω1 σ H1 S1 Q fun b Γ2 ω2 H2 hk S2 f2 => f b Γ2 ω2 H2 hk S2 (f1.trans f2))
  | false => exact iteF (f false Γ1 ω1 H1 hk S1 f1)
theorem wt_or (h : WT t Γ fun b Γ1 => if b = true then kt true Γ1 else WT u Γ1 kt) : WT (tOr t u) Γ kt := fun ω σ H S Q f => h ω σ H S _ fun b Γ1 ω1 H1 hk S1 f1 => by
  cases b with
  | false => exact iteF ((show WT u Γ1 kt from hk) ω1 σ H1 S1 Q fun b Γ2 ω2 H2 hk S2 f2 => f b Γ2 ω2 H2 hk S2 (f1.trans f2))
  | true => exact iteT (f true Γ1 ω1 H1 hk S1 f1)
/-! ### and, or, not as values; a if t else b -/
theorem we_and (h : WQ ta Γ fun q Γ1 => ∃ b, q = dP (.bool b) ∧ if b = true then WE tb Γ1 k else k (dat (.bool false)) Γ1) : WE (tAndV ta tb) Γ k := fun ω σ H S Q f => h ω σ H S _ fun v q Γ1 ω1 H1 ⟨b, e, hk⟩ S1 p f1 => by
  subst e
  refine ⟨b, DR.bl_inv p, ?_⟩
  cases b with
  | true => exact iteT ((show WE tb Γ1 k from hk) ω1 σ H1 S1 Q fun v g Γ2 ω2 H2 hk S2 p2 f2 => f v g Γ2 ω2 H2 hk S2 p2 (f1.trans f2))
  | false => exact iteF (f _ _ Γ1 ω1 H1 hk S1 (DR.bl false) f1)
theorem we_or (h : WQ ta Γ fun q Γ1 => ∃ b, q = dP (.bool b) ∧ if b = true then k (dat (.bool true)) Γ1 else WE tb Γ1 k) : WE (tOrV ta tb) Γ k := fun ω σ H S Q f => h ω σ H S _ fun v q Γ1 ω1 H1 ⟨b, e, hk⟩ S1 p f1 => by
  subst e
  refine ⟨b, DR.bl_inv p, ?_⟩
  cases b with
  | false => exact iteF ((show WE tb Γ1 k from hk) ω1 σ H1 S1 Q fun v g Γ2 ω2 H2 hk S2 p2 f2 => f v g Γ2 ω2 H2 hk S2 p2 (f1.trans f2))
  | true => exact iteT (f _ _ Γ1 ω1 H1 hk S1 (DR.bl true) f1)
theorem we_not (h : WQ ta Γ fun q Γ1 => ∃ b, q = dP (.bool b) ∧ k (dat (.bool (!b))) Γ1) : WE (tNotV ta) Γ k := fun ω σ H S Q f => h ω σ H S _ fun v q Γ1 ω1 H1 ⟨b, e, hk⟩ S1 p f1 => by
  subst e
  exact ⟨b, DR.bl_inv p, f _ _ Γ1 ω1 H1 hk S1 (DR.bl _) f1⟩
theorem we_if (h : WT t Γ fun b Γ1 => if b = true then WE ta Γ1 k else WE tb Γ1 k) : WE (tIf t ta tb) Γ k := fun ω σ H S Q f => h ω σ H S _ fun b Γ1 ω1 H1 hk S1 f1 => by
  cases b with
  | true => exact iteT ((show WE ta Γ1 k from hk) ω1 σ H1 S1 Q fun v g Γ2 ω2 H2 hk S2 p2 f2 => f v g Γ2 ω2 H2 hk S2 p2 (f1.trans f2))
  | false => exact iteF ((show WE tb Γ1 k from hk) ω1 σ H1 S1 Q fun v g Γ2 ω2 H2 hk S2 p2 f2 => f v g Γ2 ω2 H2 hk S2 p2 (f1.trans f2))
/-! ### arguments -/
theorem wa_nil (h : ka [] Γ) : WA tNil Γ ka := fun ω σ H S Q f => f [] [] Γ ω H h S .nil Fr.refl
theorem wa_cons (h : WQ te Γ fun q Γ1 => WA tr Γ1 fun as Γ2 => ka (.q q :: as) Γ2) : WA (tCons te tr) Γ ka := fun ω σ H S Q f => h ω σ H S _ fun v q Γ1 ω1 H1 hk S1 p f1 =>
  hk ω1 σ H1 S1 _ fun vs as Γ2 ω2 H2 h2 S2 a f2 => f (v :: vs) (.q q :: as) Γ2 ω2 H2 h2 S2 (.cons (q.mono f2.1 p) a) (f1.trans f2)
theorem wa_slot {i : Nat} (hi : ∃ g, Γ[i]? = some (some g)) (h : WA tr Γ fun as Γ2 => ka (.s i :: as) Γ2) : WA (tCons (tVar i) tr) Γ ka := fun ω σ H S Q f => by
  obtain ⟨g, hg⟩ := hi
  obtain ⟨v, e, p⟩ := S.2 i g hg
  exact ⟨v, e, h ω σ H S _ fun vs as Γ2 ω2 H2 h2 S2 a f2 => f (v :: vs) (.s i :: as) Γ2 ω2 H2 h2 S2 (.cons e a) f2⟩
theorem WA.imp {ka' : List Arg → Ga → Prop} (h : WA tr Γ ka) (f : ∀ as Γ', ka as Γ' → ka' as Γ') : WA tr Γ ka' := fun ω σ H S Q c => h ω σ H S Q fun vs as Γ' ω' H' kk => c vs as Γ' ω' H' (f _ _ kk)
/-- arguments that are all data -/
def ArgD : List Arg → List PyData → Prop
  | [], [] => True
  | .q q :: as, d :: ds => q = dP d ∧ ArgD as ds
  | _, _ => False
theorem ArgD.drs {σ : L2.St} {A : Hp} : ∀ {as : List Arg} {ds : List PyData} {vs : List V}, ArgD as ds → ArgsOk σ A as vs → DRs A vs ds
  | [], [], _, _, h => by cases h; exact .nil
  | [], _ :: _, _, h, _ => h.elim
  | .q q :: as, [], _, h, _ => h.elim
  | .s i :: as, _, _, h, _ => by unfold ArgD at h; exact h.elim
  | .q q :: as, d :: ds, _, h, a => by
    obtain ⟨e, h⟩ := h
    subst e
    cases a with | cons x y => exact .cons x (ArgD.drs h y)
theorem we_tup (h : WA tr Γ fun as Γ1 => ∃ ds, ArgD as ds ∧ ds.length ≤ 100000 ∧ k (dat (.tuple ds)) Γ1) : WE (tTup tr) Γ k := fun ω σ H S Q f => h ω σ H S _ fun vs as Γ1 ω1 H1 ⟨ds, e, hl, hk⟩ S1 a f1 => by
  have hd := e.drs a
  refine ⟨by rw [hd.length]; exact Nat.le_trans hl (by decide), fun p hp => f _ _ Γ1 (paint ω1 p 0) _ hk (S1.new 0 hp) ?_ (f1.trans (paint_fr hp))⟩
  exact DR.tup paint_at (hd.mono (paint_same hp 0))
theorem we_lst (h : WA tr Γ fun as Γ1 => ∃ ds, ArgD as ds ∧ ds.length ≤ 100000 ∧ k (own ds) Γ1) : WE (tLst tr) Γ k := fun ω σ H S Q f => h ω σ H S _ fun vs as Γ1 ω1 H1 ⟨ds, e, hl, hk⟩ S1 a f1 => by
  have hd := e.drs a
  exact ⟨by rw [hd.length]; exact Nat.le_trans hl (by decide), fun p hp => f _ _ Γ1 (paint ω1 p 2) _ hk (S1.new 2 hp) ⟨p, vs, rfl, paint_at, hd.mono (paint_same hp 0)⟩ (f1.trans (paint_fr hp))⟩

/-! ### operations -/
def rOr (r r' : R2) : R2 := fun x y H Q => r x y H Q ∨ r' x y H Q
theorem op_or {X : Cx} {f : Value → Value → Sem Value} (h : OpR X f r) (h' : OpR X f r') : OpR X f (rOr r r') := fun pins s σ H x y v u Q I rx ry q => by
  rcases q with q | q
  · exact h pins s σ H x y v u Q I rx ry q
  · exact h' pins s σ H x y v u Q I rx ry q
/-- what r does upon two data -/
def OpD (r : R2) (d e : PyData) (q : Per) : Prop := ∀ (A H : Hp) (v w : V), Same A H → DR A v d → DR A w e → ∀ Q : VK, (∀ z, q.q A z → Q z H) → r v w H Q
theorem OpD.lft {d e : PyData} {q : Per} (h : OpD r d e q) : OpD (rOr r r') d e q := fun A H v w s a b Q c => .inl (h A H v w s a b Q c)
theorem od_I {C : Int → Int → Prop} {gi : Int → Int → Int} {i j : Int} (c : C i j) : OpD (rI C fun i j => .int (gi i j)) (.int i) (.int j) (dP (.int (gi i j))) := fun A H v w _ hv hw Q g => by
  cases hv.int_inv
  cases hw.int_inv
  exact ⟨i, j, rfl, rfl, c, g _ (DR.int _)⟩
theorem od_I0 {gi : Int → Int → Int} {i j : Int} : OpD (rI0 fun i j => .int (gi i j)) (.int i) (.int j) (dP (.int (gi i j))) := fun A H v w _ hv hw Q g => by
  cases hv.int_inv
  cases hw.int_inv
  exact ⟨i, j, rfl, rfl, g _ (DR.int _)⟩
theorem od_B0 {gi : Int → Int → Bool} {i j : Int} : OpD (rI0 fun i j => .bl (gi i j)) (.int i) (.int j) (dP (.bool (gi i j))) := fun A H v w _ hv hw Q g => by
  cases hv.int_inv
  cases hw.int_inv
  exact ⟨i, j, rfl, rfl, g _ (DR.bl _)⟩
theorem Dp.same {H H' : Hp} {v : V} {d : PyData} (z : SeqAt.shaped d = true) (s : Same H H') (h : DR H v d) : Dp K H' v d := DR.dp d (SeqAt.canLay_of_shaped z) (h.mono s)
theorem od_eq {d e : PyData} (hd : SeqAt.shaped d = true) (he : SeqAt.shaped e = true) : OpD (rEqD K) d e (dP (.bool (PyData.eqv d e))) := fun A H v w s a b Q g => ⟨d, e, Dp.same hd s a, Dp.same he s b, hd, he, g _ (DR.bl _)⟩
theorem od_ne {d e : PyData} (hd : SeqAt.shaped d = true) (he : SeqAt.shaped e = true) : OpD (rNeD K) d e (dP (.bool (!PyData.eqv d e))) := fun A H v w s a b Q g => ⟨d, e, Dp.same hd s a, Dp.same he s b, hd, he, g _ (DR.bl _)⟩
theorem od_in {d : PyData} {ds : List PyData} (hd : SeqAt.shaped d = true) (he : SeqAt.shaped (.list ds) = true) : OpD (rInD K) d (.list ds) (dP (.bool (ds.any fun z => PyData.eqv z d))) := fun A H v w s a b Q g =>
  ⟨d, ds, Dp.same hd s a, Dp.same he s b, hd, he, g _ (DR.bl _)⟩
theorem od_notIn {d : PyData} {ds : List PyData} (hd : SeqAt.shaped d = true) (he : SeqAt.shaped (.list ds) = true) : OpD (rNotInD K) d (.list ds) (dP (.bool (!ds.any fun z => PyData.eqv z d))) := fun A H v w s a b Q g =>
  ⟨d, ds, Dp.same hd s a, Dp.same he s b, hd, he, g _ (DR.bl _)⟩
theorem od_ixL {ds : List PyData} {i : Int} {d : PyData} (h : atI ds i = some d) : OpD (rIx K) (.list ds) (.int i) (dP d) := fun A H v w s a b Q g => by
  obtain ⟨x, xs, rfl, hx, hd⟩ := a.lst_inv
  cases b.int_inv
  obtain ⟨z, hz, dz⟩ : ∃ z, atI xs i = some z ∧ DR A z d := by
    unfold atI at h ⊢
    rw [← hd.length] at h
    cases e : ixN xs.length i with
    | none => rw [e] at h; cases h
    | some j =>
      rw [e] at h
      obtain ⟨z, hz, dz⟩ := hd.at (i := j) h
      exact ⟨z, hz, dz⟩
  exact .inl ⟨x, xs, i, z, rfl, rfl, SqL.of (s _ _ hx), hz, g _ dz⟩
theorem at_nat {α : Type} {xs : List α} {i : Int} {d : α} (j : Nat) (e : i = j) (h : xs[j]? = some d) : atI xs i = some d := by
  rw [e]
  exact atI_nat h
/-- a slot's own list read by its place -/
theorem we_ixS {i : Nat} {ds : List PyData} (h : Γ[i]? = some (some (own ds))) (hb : WQ tb Γ fun q Γ1 => ∃ j d, q = dP (.int j) ∧ Γ1[i]? = some (some (own ds)) ∧ atI ds j = some d ∧ k (dat d) Γ1) : WE (tOp (rIx K) (tVar i) tb) Γ k := fun ω σ H S Q f => by
  obtain ⟨v, e, p⟩ := S.2 i _ h
  refine ⟨v, e, hb ω σ H S _ fun w q Γ1 ω1 H1 ⟨j, d, eq, hi, ha, hk⟩ S1 pq f1 => ?_⟩
  subst eq
  cases DR.int_inv pq
  obtain ⟨v', e', p'⟩ := S1.2 i _ hi
  rw [e] at e'
  cases e'
  obtain ⟨a, vs, rfl, hr, hd⟩ := p'
  obtain ⟨z, hz, dz⟩ : ∃ z, atI vs j = some z ∧ DR (vw ω1 H1 0) z d := by
    unfold atI at ha ⊢
    rw [← hd.length] at ha
    cases e : ixN vs.length j with
    | none => rw [e] at ha; cases ha
    | some j =>
      rw [e] at ha
      obtain ⟨z, hz, dz⟩ := hd.at (i := j) ha
      exact ⟨z, hz, dz⟩
  exact .inl ⟨a, vs, j, z, rfl, rfl, SqL.of (vw_H hr), hz, f _ _ Γ1 ω1 H1 hk S1 dz f1⟩
/-! ### calls of built-ins upon data -/
def CbD (r : List V → Hp → VK → Prop) (ds : List PyData) (q : Per) : Prop := ∀ (A H : Hp) (vs : List V), Same A H → DRs A vs ds → ∀ Q : VK, (∀ z, q.q A z → Q z H) → r vs H Q
/-- .. that gives a new list -/
def CbL (r : List V → Hp → VK → Prop) (ds : List PyData) (P : List PyData → Prop) : Prop := ∀ (A H : Hp) (vs : List V), Same A H → DRs A vs ds → ∀ Q : VK, (∀ es xs p, P es → DRs A xs es → H p = none → Q (.ref p) (upd H p (.lst xs))) → r vs H Q
/-- len of a slot's own list -/
theorem we_lenS {i : Nat} {ds : List PyData} (h : Γ[i]? = some (some (own ds))) (hk : k (dat (.int ds.length)) Γ) : WE (tCB (fun xs H Q => ∃ x n, xs = [x] ∧ LenV K x H n ∧ Q (.int n) H) (tCons (tVar i) tNil)) Γ k := fun ω σ H S Q f => by
  obtain ⟨v, e, p⟩ := S.2 i _ h
  obtain ⟨a, vs, rfl, hr, hd⟩ := id p
  exact ⟨_, e, _, vs.length, rfl, .inl ⟨vs, SqL.of (vw_H hr), rfl⟩, by rw [hd.length]; exact f _ _ Γ ω H hk S (DR.int _) Fr.refl⟩
end
end G

namespace G
open PySem L2

/-! ### statements -/
structure Pe where
  nx : Ga → Prop
  rt : Gp → Ga → Prop
  bk : Ga → Prop
  ct : Ga → Prop
/-- what follows another statement; what a loop's body is to reach -/
abbrev Pe.to (D : Pe) (n : Ga → Prop) : Pe := ⟨n, D.rt, D.bk, D.ct⟩
abbrev Pe.lp (D : Pe) (n : Ga → Prop) : Pe := ⟨n, D.rt, D.nx, n⟩
def Pin (P : Nat → Bool) (σ σ' : L2.St) : Prop := σ'.length = σ.length ∧ ∀ i, P i = true → σ'[i]? = σ[i]?
theorem Pin.refl {P : Nat → Bool} {σ : L2.St} : Pin P σ σ := ⟨rfl, fun _ _ => rfl⟩
theorem Pin.trans {P : Nat → Bool} {σ σ1 σ2 : L2.St} (a : Pin P σ σ1) (b : Pin P σ1 σ2) : Pin P σ σ2 := ⟨b.1.trans a.1, fun i h => (b.2 i h).trans (a.2 i h)⟩
structure Met (P : Nat → Bool) (D : Pe) (ω : Col) (σ : L2.St) (H : Hp) (E : Ends) : Prop where
  nx : ∀ Γ' ω' σ' H', D.nx Γ' → Sta Γ' ω' σ' H' → Fr ω ω' H H' → Pin P σ σ' → E.nx σ' H'
  rt : ∀ v g Γ' ω' σ' H', D.rt g Γ' → Sta Γ' ω' σ' H' → Gp.p g (vw ω' H' 0) v (vw ω' H' 2) → Fr ω ω' H H' → Pin P σ σ' → E.rt v H'
  bk : ∀ Γ' ω' σ' H', D.bk Γ' → Sta Γ' ω' σ' H' → Fr ω ω' H H' → Pin P σ σ' → E.bk σ' H'
  ct : ∀ Γ' ω' σ' H', D.ct Γ' → Sta Γ' ω' σ' H' → Fr ω ω' H H' → Pin P σ σ' → E.ct σ' H'
theorem Met.after {P : Nat → Bool} {D : Pe} {ω ω1 : Col} {σ σ1 : L2.St} {H H1 : Hp} {E : Ends} (m : Met P D ω σ H E) (f : Fr ω ω1 H H1) (p : Pin P σ σ1) : Met P D ω1 σ1 H1 E :=
  ⟨fun Γ' ω' σ' H' h S g q => m.nx Γ' ω' σ' H' h S (f.trans g) (p.trans q), fun v g Γ' ω' σ' H' h S x y q => m.rt v g Γ' ω' σ' H' h S x (f.trans y) (p.trans q),
   fun Γ' ω' σ' H' h S g q => m.bk Γ' ω' σ' H' h S (f.trans g) (p.trans q), fun Γ' ω' σ' H' h S g q => m.ct Γ' ω' σ' H' h S (f.trans g) (p.trans q)⟩
def WS (P : Nat → Bool) (t : TS) (Γ : Ga) (D : Pe) : Prop := ∀ ω σ H, Sta Γ ω σ H → ∀ E : Ends, Met P D ω σ H E → t E σ H
def WG (P : Nat → Bool) (g : TG) (q : Per) (Γ : Ga) (k : Ga → Prop) : Prop := ∀ ω σ H v, Sta Γ ω σ H → q.q (vw ω H 0) v → ∀ R : L2.St → Hp → Prop,
  (∀ Γ' ω' σ' H', k Γ' → Sta Γ' ω' σ' H' → Fr ω ω' H H' → Pin P σ σ' → R σ' H') → g v σ H R
section
variable {K : PySem.W.Frag} {P : Nat → Bool} {Γ : Ga} {D : Pe} {k : Gp → Ga → Prop} {kt : Bool → Ga → Prop} {kg : Ga → Prop} {te tl : TE} {c : TT} {t u tb : TS} {ta : TA} {g : TG}
theorem ws_seq (h : WS P t Γ (D.to fun Γ' => WS P u Γ' D)) : WS P (tSeq t u) Γ D := fun ω σ H S E m =>
  h ω σ H S { E with nx := u E } ⟨fun Γ' ω' σ' H' hk S' f p => (show WS P u Γ' D from hk) ω' σ' H' S' E (m.after f p), m.rt, m.bk, m.ct⟩
theorem ws_next (h : D.nx Γ) : WS P tNext Γ D := fun ω σ H S E m => m.nx Γ ω σ H h S Fr.refl Pin.refl
theorem pin_set {σ : L2.St} {i : Nat} {x : Option V} (h : P i = false) : Pin P σ (σ.set i x) := ⟨by rw [List.length_set], fun j hj => by
  rw [set_eq, if_neg]
  intro e
  subst e
  rw [h] at hj
  cases hj⟩
theorem ws_asg {i : Nat} (hp : P i = false) (h : WE te Γ fun g Γ' => D.nx (Γ'.set i (some g))) : WS P (tAsg te (gName i)) Γ D := fun ω σ H S E m => h ω σ H S _ fun v g Γ' ω' H' hk S' p f =>
  m.nx _ _ _ H' hk (S'.asg p) (f.trans give_fr) (pin_set hp)
theorem ws_asgG (h : WQ te Γ fun q Γ' => WG P g q Γ' D.nx) : WS P (tAsg te g) Γ D := fun ω σ H S E m => h ω σ H S _ fun v q Γ' ω' H' hk S' p f =>
  hk ω' σ H' v S' p _ fun Γ2 ω2 σ2 H2 h2 S2 f2 p2 => m.nx Γ2 ω2 σ2 H2 h2 S2 (f.trans f2) p2
theorem Sta.setq {ω : Col} {σ : L2.St} {H : Hp} (S : Sta Γ ω σ H) {i : Nat} {v : V} {q : Per} (p : q.q (vw ω H 0) v) : Sta (Γ.set i (some (per q))) ω (σ.set i (some v)) H := by
  refine ⟨by rw [List.length_set, List.length_set]; exact S.1, fun j g' hj => ?_⟩
  rw [set_eq] at hj
  by_cases hij : i = j
  · rw [if_pos hij] at hj
    split at hj
    next hl =>
      cases hj
      subst hij
      exact ⟨v, by rw [set_eq, if_pos rfl, if_pos (by rw [S.1]; exact hl)], p⟩
    · cases hj
  · rw [if_neg hij] at hj
    obtain ⟨w, e', p'⟩ := S.2 j _ hj
    exact ⟨w, by rw [set_eq, if_neg hij]; exact e', p'⟩
theorem wg_name {i : Nat} {q : Per} (hp : P i = false) (h : kg (Γ.set i (some (per q)))) : WG P (gName i) q Γ kg := fun ω σ H v S p R f => f _ ω _ H h (S.setq p) Fr.refl (pin_set hp)
def WGs (P : Nat → Bool) (g : TGs) (ds : List PyData) (Γ : Ga) (k : Ga → Prop) : Prop := ∀ ω σ H vs, Sta Γ ω σ H → DRs (vw ω H 0) vs ds → ∀ R : L2.St → Hp → Prop,
  (∀ Γ' ω' σ' H', k Γ' → Sta Γ' ω' σ' H' → Fr ω ω' H H' → Pin P σ σ' → R σ' H') → g vs σ H R
theorem wgs_nil (h : kg Γ) : WGs P gNil [] Γ kg := fun ω σ H vs S p R f => by
  cases p
  exact ⟨rfl, f Γ ω σ H h S Fr.refl Pin.refl⟩
theorem wgs_cons {gs : TGs} {d : PyData} {ds : List PyData} (h : WG P g (dP d) Γ fun Γ1 => WGs P gs ds Γ1 kg) : WGs P (gCons g gs) (d :: ds) Γ kg := fun ω σ H vs S p R f => by
  cases p with | cons a b =>
  exact ⟨_, _, rfl, h ω σ H _ S a _ fun Γ1 ω1 σ1 H1 h1 S1 f1 p1 => h1 ω1 σ1 H1 _ S1 (b.mono f1.1) R fun Γ2 ω2 σ2 H2 h2 S2 f2 p2 => f Γ2 ω2 σ2 H2 h2 S2 (f1.trans f2) (p1.trans p2)⟩
theorem wg_tup {gs : TGs} {n : Nat} {ds : List PyData} (hn : ds.length = n) (h : WGs P gs ds Γ kg) : WG P (gTup K n gs) (dP (.tuple ds)) Γ kg := fun ω σ H v S p R f => by
  obtain ⟨a, xs, rfl, ha, hd⟩ := DR.tup_inv p
  exact ⟨a, xs, rfl, SqT.of (vw_H ha), by rw [hd.length]; exact hn, h ω σ H xs S hd R f⟩
/-- xs[i] = e, xs a slot's own -/
theorem wg_set {i : Nat} {ds : List PyData} {ti : TE} {d : PyData} (hi : Γ[i]? = some (some (own ds))) (h : WQ ti Γ fun q Γ1 => ∃ j m ds', q = dP (.int j) ∧ Γ1[i]? = some (some (own ds')) ∧ ixN ds'.length j = some m ∧ kg (Γ1.set i (some (own (ds'.set m d))))) :
    WG P (gSub (tVar i) ti rSetL) (dP d) Γ kg := fun ω σ H v S p R f => by
  obtain ⟨x, e, p0⟩ := S.2 i _ hi
  refine ⟨x, e, h ω σ H S _ fun w q Γ1 ω1 H1 ⟨j, m, ds', eq, hi1, hj, hk⟩ S1 pq f1 => ?_⟩
  subst eq
  cases DR.int_inv pq
  obtain ⟨x', e', p1⟩ := S1.2 i _ hi1
  rw [e] at e'
  cases e'
  obtain ⟨a, vs, rfl, hr, hd⟩ := p1
  have ca := vw_c hr
  refine ⟨a, vs, j, m, rfl, rfl, vw_H hr, by rw [hd.length]; exact hj, ?_⟩
  have m0 : Same (vw ω1 H1 0) (vw ω1 (upd H1 a (.lst (vs.set m v))) 0) := mut_same (by rw [ca]; omega)
  refine f _ ω1 σ _ hk (S1.set m0 (fun j' g' hne _ => mut_same (by rw [ca]; omega)) e ⟨a, _, rfl, vw_mk ca upd_same, ?_⟩) (f1.trans ⟨m0, mut_same (by rw [ca]; omega)⟩) Pin.refl
  exact (hd.mono m0).set m ((DR.mono f1.1 d p).mono m0)
theorem ws_drop (h : WE te Γ fun _ Γ' => D.nx Γ') : WS P (tDrop te) Γ D := fun ω σ H S E m => h ω σ H S _ fun v g Γ' ω' H' hk S' p f => m.nx Γ' ω' σ H' hk S' f Pin.refl
theorem ws_ret (h : WE te Γ fun g Γ' => D.rt g Γ') : WS P (tRet te) Γ D := fun ω σ H S E m => h ω σ H S _ fun v g Γ' ω' H' hk S' p f => m.rt v g Γ' ω' σ H' hk S' p f Pin.refl
theorem ws_retN (h : D.rt (dat .none) Γ) : WS P tRetN Γ D := fun ω σ H S E m => m.rt .non _ Γ ω σ H h S DR.non Fr.refl Pin.refl
theorem ws_if (h : WT c Γ fun b Γ' => if b = true then WS P t Γ' D else WS P u Γ' D) : WS P (tIfS c t u) Γ D := fun ω σ H S E m => h ω σ H S _ fun b Γ' ω' H' hk S' f => by
  cases b with
  | true => exact iteT ((show WS P t Γ' D from hk) ω' σ H' S' E (m.after f Pin.refl))
  | false => exact iteF ((show WS P u Γ' D from hk) ω' σ H' S' E (m.after f Pin.refl))
/-! ### loops -/
def Walks (J : It) (A : Hp) (n : Nat) (it : Nat → Per) : Prop := ∀ i H', Same A H' →
  (i < n → J.go i H' ∧ ∀ x H'', J.yld i H' x H'' → (H'' = H' ∧ (it i).q A x) ∨ ∃ T vs ds, H' T = none ∧ H'' = upd H' T (.tup vs) ∧ x = .ref T ∧ it i = dP (.tuple ds) ∧ DRs A vs ds) ∧ (n ≤ i → J.stop i H')
def WI (wi : TI) (Γ : Ga) (k : Nat → (Nat → Per) → Ga → Prop) : Prop := ∀ ω σ H, Sta Γ ω σ H → ∀ R : It → Hp → Prop,
  (∀ J n it Γ' ω' H', k n it Γ' → Sta Γ' ω' σ H' → Walks J (vw ω' H' 0) n it → Fr ω ω' H H' → R J H') → wi σ H R
/-- an item has come: it stands still -/
theorem yld_ok {J : It} {A : Hp} {n i : Nat} {it : Nat → Per} (W : Walks J A n it) {ω ω0 : Col} {σ : L2.St} {H0 H H'' : Hp} {x : V} (hA : A = vw ω0 H0 0) (f : Fr ω0 ω H0 H) (S : Sta Γ ω σ H) (hi : i < n) (y : J.yld i H x H'') :
    ∃ ω', Sta Γ ω' σ H'' ∧ Fr ω ω' H H'' ∧ (it i).q (vw ω' H'' 0) x := by
  have sA : Same A H := fun a o e => vw_H (f.1 a o (by rw [← hA]; exact e))
  rcases ((W i H sA).1 hi).2 x H'' y with ⟨e, q⟩ | ⟨T, vs, ds, hT, e, ex, ei, hd⟩
  · subst e
    exact ⟨ω, S, Fr.refl, (it i).mono f.1 (by rw [← hA]; exact q)⟩
  · subst e ex
    refine ⟨paint ω T 0, S.new 0 hT, paint_fr hT, ?_⟩
    rw [ei]
    refine DR.tup paint_at ?_
    rw [hA] at hd
    exact (hd.mono f.1).mono (paint_same hT 0)
theorem ws_for {wi : TI} (Pv : Nat → Ga → Prop) (h : WI wi Γ fun n it Γ1 => Pv 0 Γ1 ∧ (∀ Γ2, Pv n Γ2 → D.nx Γ2) ∧ ∀ i Γ2, i < n → Pv i Γ2 →
    WG P g (it i) Γ2 fun Γ3 => WS P tb Γ3 (D.lp (Pv (i + 1)))) : WS P (tFor wi g tb) Γ D := fun ω σ H S E m => h ω σ H S _ fun J n it Γ1 ω1 H1 ⟨h0, hd, hs⟩ S1 W f1 => by
  refine ⟨fun i μ σ' H' => μ = n - i ∧ i ≤ n ∧ ∃ Γ2 ω2, Pv i Γ2 ∧ Sta Γ2 ω2 σ' H' ∧ Fr ω1 ω2 H1 H' ∧ Pin P σ σ', ⟨n, by simp, Nat.zero_le _, Γ1, ω1, h0, S1, Fr.refl, Pin.refl⟩, ?_⟩
  rintro i μ σ' H' ⟨rfl, hi, Γ2, ω2, p2, S2, f2, q2⟩
  have sA : Same (vw ω1 H1 0) H' := fun a o e => vw_H (f2.1 a o e)
  by_cases hlt : i < n
  · refine .inr ⟨((W i H' sA).1 hlt).1, fun σ'' H'' => ∃ Γ2 ω2, Pv (i + 1) Γ2 ∧ Sta Γ2 ω2 σ'' H'' ∧ Fr ω1 ω2 H1 H'' ∧ Pin P σ σ'', fun σ'' H'' z => ⟨n - (i + 1), by omega, rfl, hlt, z⟩, fun x H'' y => ?_⟩
    obtain ⟨ω3, S3, f3, q3⟩ := yld_ok W rfl f2 S2 hlt y
    refine hs i Γ2 hlt p2 ω3 σ' H'' x S3 q3 _ fun Γ4 ω4 σ4 H4 h4 S4 f4 q4 => ?_
    have f14 : Fr ω1 ω4 H1 H4 := (f2.trans f3).trans f4
    refine h4 ω4 σ4 H4 S4 _ ⟨fun Γ' ω' σ5 H5 hk S5 f5 q5 => ⟨Γ', ω', hk, S5, f14.trans f5, (q2.trans q4).trans q5⟩,
      fun v gg Γ' ω' σ5 H5 hk S5 p5 f5 q5 => m.rt v gg Γ' ω' σ5 H5 hk S5 p5 (f1.trans (f14.trans f5)) ((q2.trans q4).trans q5),
      fun Γ' ω' σ5 H5 hk S5 f5 q5 => m.nx Γ' ω' σ5 H5 hk S5 (f1.trans (f14.trans f5)) ((q2.trans q4).trans q5),
      fun Γ' ω' σ5 H5 hk S5 f5 q5 => ⟨Γ', ω', hk, S5, f14.trans f5, (q2.trans q4).trans q5⟩⟩
  · have e : i = n := by omega
    subst e
    exact .inl ⟨(W i H' sA).2 (Nat.le_refl _), m.nx Γ2 ω2 σ' H' (hd Γ2 p2) S2 (f1.trans f2) q2⟩
/-! ### what is walked -/
theorem wi_list {ki : Nat → (Nat → Per) → Ga → Prop} (h : WQ tl Γ fun q Γ1 => ∃ ds, q = dP (.list ds) ∧ ki ds.length (fun i => dP (ds.getD i .none)) Γ1) : WI (iList K tl) Γ ki := fun ω σ H S R f => h ω σ H S _ fun v q Γ1 ω1 H1 ⟨ds, e, hk⟩ S1 p f1 => by
  subst e
  obtain ⟨a, xs, rfl, ha, hd⟩ := DR.lst_inv p
  refine ⟨a, rfl, ⟨xs, SqL.of (vw_H ha)⟩, f (Itl K a) ds.length _ Γ1 ω1 H1 hk S1 (fun i H' s => ?_) f1⟩
  have hq : H' a = some (.lst xs) := s _ _ ha
  refine ⟨fun hi => ?_, fun hi => ⟨xs, SqL.of hq, by rw [hd.length]; exact hi⟩⟩
  have hix : i < xs.length := by rw [hd.length]; exact hi
  refine ⟨⟨xs, xs[i], SqL.of hq, by simp [hix]⟩, fun x H'' y => .inl ?_⟩
  obtain ⟨e, y⟩ := y
  refine ⟨e, ?_⟩
  have hx := y xs (SqL.of hq)
  obtain ⟨d, h1, h2⟩ := hd.get hx
  show DR _ x (ds.getD i .none)
  rw [List.getD_eq_getElem?_getD, h1]
  exact h2
theorem walks_r {lo : Int} {n : Nat} {A : Hp} : Walks (Itr lo n) A n fun i => dP (.int (lo + i)) := fun i H' s =>
  ⟨fun hi => ⟨hi, fun x H'' y => .inl ⟨y.1, by rw [y.2]; exact DR.int _⟩⟩, fun hi => hi⟩
theorem wi_range1 {ki : Nat → (Nat → Per) → Ga → Prop} (h : WA ta Γ fun as Γ1 => ∃ j : Int, as = [.q (dP (.int j))] ∧ -(2 ^ 62) ≤ j ∧ j < 2 ^ 62 ∧ ki j.toNat (fun i => dP (.int (0 + i))) Γ1) : WI (iRng1 ta) Γ ki := fun ω σ H S R f => h ω σ H S _ fun vs as Γ1 ω1 H1 ⟨j, e, l, u, hk⟩ S1 a f1 => by
  subst e
  cases a with | cons x y =>
  cases y
  cases DR.int_inv x
  exact ⟨j, rfl, l, u, f _ _ _ Γ1 ω1 H1 hk S1 walks_r f1⟩
theorem wi_range2 {ki : Nat → (Nat → Per) → Ga → Prop} (h : WA ta Γ fun as Γ1 => ∃ i j : Int, as = [.q (dP (.int i)), .q (dP (.int j))] ∧ (-(2 ^ 62) ≤ i ∧ i < 2 ^ 62 ∧ -(2 ^ 62) ≤ j ∧ j < 2 ^ 62) ∧ ki (j - i).toNat (fun m => dP (.int (i + m))) Γ1) : WI (iRng2 ta) Γ ki := fun ω σ H S R f => h ω σ H S _ fun vs as Γ1 ω1 H1 ⟨i, j, e, l, hk⟩ S1 a f1 => by
  subst e
  cases a with | cons x y =>
  cases y with | cons x' y' =>
  cases y'
  cases DR.int_inv x
  cases DR.int_inv x'
  exact ⟨i, j, rfl, l, f _ _ _ Γ1 ω1 H1 hk S1 walks_r f1⟩
end
end G

namespace G
open PySem L2

/-! ### comprehensions -/
def wipeG (Γ : Ga) : List Nat → Ga
  | [] => Γ
  | v :: vs => (wipeG Γ vs).set v none
theorem wipe_get {σ : L2.St} : ∀ {vs : List Nat} {i : Nat}, (wipe σ vs)[i]? = if i ∈ vs then (if i < σ.length then some none else none) else σ[i]?
  | [], i => by simp [wipe]
  | v :: vs, i => by
    unfold wipe
    rw [set_eq, wipe_length]
    by_cases h : v = i
    · subst h; simp
    · rw [if_neg h, wipe_get]
      have : (i ∈ v :: vs) ↔ i ∈ vs := by simp [Ne.symm h]
      simp only [this]
theorem wipeG_length {Γ : Ga} : ∀ vs : List Nat, (wipeG Γ vs).length = Γ.length
  | [] => rfl
  | v :: vs => by unfold wipeG; rw [List.length_set, wipeG_length vs]
theorem wipeG_get {Γ : Ga} : ∀ {vs : List Nat} {i : Nat} {g : Gp}, (wipeG Γ vs)[i]? = some (some g) → i ∉ vs ∧ Γ[i]? = some (some g)
  | [], i, g, h => ⟨by simp, h⟩
  | v :: vs, i, g, h => by
    unfold wipeG at h
    rw [set_eq] at h
    by_cases e : v = i
    · rw [if_pos e] at h
      split at h <;> cases h
    · rw [if_neg e] at h
      obtain ⟨h1, h2⟩ := wipeG_get h
      exact ⟨by simp [Ne.symm e, h1], h2⟩
theorem Sta.wipe {Γ : Ga} {ω : Col} {σ : L2.St} {H : Hp} (S : Sta Γ ω σ H) (vs : List Nat) : Sta (wipeG Γ vs) ω (L2.wipe σ vs) H := by
  refine ⟨by rw [wipe_length, wipeG_length]; exact S.1, fun i g h => ?_⟩
  obtain ⟨h1, h2⟩ := wipeG_get h
  obtain ⟨v, e, p⟩ := S.2 i g h2
  exact ⟨v, by rw [wipe_get, if_neg h1]; exact e, p⟩
/-- back at the whole frame: only the block's own names may be other -/
theorem Sta.unwipe {Γ : Ga} {ω : Col} {σ σ2 : L2.St} {H : Hp} {vs : List Nat} (S : Sta Γ ω σ2 H) (p : Pin (fun i => !vs.contains i) (L2.wipe σ vs) σ2) : Sta (wipeG Γ vs) ω σ H ∧ L2.wipe σ2 vs = L2.wipe σ vs := by
  have hl : σ2.length = σ.length := by rw [p.1, wipe_length]
  refine ⟨⟨by rw [wipeG_length, ← S.1]; exact hl.symm, fun i g h => ?_⟩, ?_⟩
  · obtain ⟨h1, h2⟩ := wipeG_get h
    obtain ⟨v, e, q⟩ := S.2 i g h2
    refine ⟨v, ?_, q⟩
    rw [← e, p.2 i (by simp [h1]), wipe_get, if_neg h1]
  · apply List.ext_getElem?
    intro i
    rw [wipe_get, wipe_get, hl]
    by_cases h1 : i ∈ vs
    · simp only [h1, if_true]
    · simp only [h1, if_false]
      rw [p.2 i (by simp [h1]), wipe_get, if_neg h1]
section
variable {K : PySem.W.Frag} {P : Nat → Bool} {Γ : Ga} {D : Pe} {k : Gp → Ga → Prop} {kt : Bool → Ga → Prop} {kg : Ga → Prop} {te tl : TE} {tt : TT} {t u tb : TS} {ta : TA} {g : TG}
theorem wt_yes (h : kt true Γ) : WT tYes Γ kt := fun ω σ H S Q f => f true Γ ω H h S Fr.refl
/-- a new list by a comprehension; Pv: turn, what is made, slots -/
theorem we_lc {wi : TI} {vs : List Nat} (Pv : Nat → List PyData → Ga → Prop) (h : WI wi Γ fun n it Γ1 => Pv 0 [] Γ1 ∧ (∀ acc Γ2, Pv n acc Γ2 → k (own acc) Γ2) ∧ ∀ i acc Γ2, i < n → Pv i acc Γ2 → Γ2.length = Γ.length →
    WG (fun i => !vs.contains i) g (it i) (wipeG Γ2 vs) fun Γ3 => WT tt Γ3 fun b Γ4 => if b = true then WQ te Γ4 fun q Γ5 => ∃ d, q = dP d ∧ acc.length < 100000 ∧ Pv (i + 1) (acc ++ [d]) (wipeG Γ5 vs) else Pv (i + 1) acc (wipeG Γ4 vs)) :
    WE (tLc wi g tt te vs) Γ k := fun ω σ H S Q f => h ω σ H S _ fun J n it Γ1 ω1 H1 ⟨h0, hd, hs⟩ S1 W f1 => by
  intro L hL
  have hlen : ∀ {Γ2 : Ga} {ω2 : Col} {σ2 : L2.St} {H2 : Hp}, Sta Γ2 ω2 σ2 H2 → σ2.length = σ.length → Γ2.length = Γ.length := fun {Γ2 ω2 σ2 H2} S2 e => by rw [← S2.1, e, S.1]
  refine ⟨fun i μ H' => μ = n - i ∧ i ≤ n ∧ ∃ acc xs Γ2 ω2, Pv i acc Γ2 ∧ Sta Γ2 ω2 σ H' ∧ Fr ω1 ω2 H1 H' ∧ ω2 L = 1 ∧ H' L = some (.lst xs) ∧ DRs (vw ω2 H' 0) xs acc,
    ⟨n, by simp, Nat.zero_le _, [], [], Γ1, paint ω1 L 1, h0, S1.new 1 hL, paint_fr hL, by unfold paint; rw [if_pos rfl], upd_same, .nil⟩, ?_⟩
  rintro i μ H' ⟨rfl, hi, acc, xs, Γ2, ω2, p2, S2, f2, c2, e2, d2⟩
  have sA : Same (vw ω1 H1 0) H' := fun a o e => vw_H (f2.1 a o e)
  by_cases hlt : i < n
  · refine .inr ⟨((W i H' sA).1 hlt).1, fun H'' => ∃ acc xs Γ2 ω2, Pv (i + 1) acc Γ2 ∧ Sta Γ2 ω2 σ H'' ∧ Fr ω1 ω2 H1 H'' ∧ ω2 L = 1 ∧ H'' L = some (.lst xs) ∧ DRs (vw ω2 H'' 0) xs acc, fun H'' z => ⟨n - (i + 1), by omega, rfl, hlt, z⟩, fun x H'' y => ?_⟩
    obtain ⟨ω3, S3, f3, q3⟩ := yld_ok W rfl f2 S2 hlt y
    refine hs i acc Γ2 hlt p2 (hlen S2 rfl) ω3 _ H'' x (S3.wipe vs) q3 _ fun Γ4 ω4 σ4 H4 h4 S4 f4 q4 => ?_
    obtain ⟨S5, ew⟩ := S4.unwipe q4
    refine ⟨ew, h4 ω4 σ4 H4 S4 _ fun b Γ6 ω6 H6 hk S6 f6 => ?_⟩
    have f16 : Fr ω1 ω6 H1 H6 := ((f2.trans f3).trans f4).trans f6
    have f26 : Fr ω2 ω6 H' H6 := (f3.trans f4).trans f6
    have keep : ∀ {ω7 : Col} {H7 : Hp}, Fr ω2 ω7 H' H7 → ω7 L = 1 ∧ H7 L = some (.lst xs) ∧ DRs (vw ω7 H7 0) xs acc := fun {ω7 H7} f7 => by
      have z := f7.2 L _ (vw_mk c2 e2)
      exact ⟨vw_c z, vw_H z, d2.mono f7.1⟩
    cases b with
    | false =>
      refine iteF ?_
      obtain ⟨k1, k2, k3⟩ := keep f26
      exact ⟨acc, xs, _, ω6, hk, (S6.unwipe q4).1, f16, k1, k2, k3⟩
    | true =>
      refine iteT ((show WQ te Γ6 _ from hk) ω6 σ4 H6 S6 _ fun w q Γ7 ω7 H7 ⟨d, eq, hl, h7⟩ S7 p7 f7 => ?_)
      subst eq
      obtain ⟨k1, k2, k3⟩ := keep (f26.trans f7)
      have m0 : Same (vw ω7 H7 0) (vw ω7 (upd H7 L (.lst (xs ++ [w]))) 0) := mut_same (by rw [k1]; decide)
      refine ⟨xs, k2, by rw [k3.length]; exact Nat.lt_of_lt_of_le hl (by decide), acc ++ [d], xs ++ [w], _, ω7, h7, ?_, ?_, k1, upd_same, (k3.mono m0).snoc (DR.mono m0 d p7)⟩
      · exact ((S7.unwipe q4).1).move m0 fun i g _ => mut_same (by rw [k1]; omega)
      · exact ⟨(f16.trans f7).1.trans m0, fun a o h => by
          have z := (f16.trans f7).2 a o h
          exact vw_mk (vw_c z) (by rw [upd_ne (ne_of_none (vw_H h) hL)]; exact vw_H z)⟩
  · have e : i = n := by omega
    subst e
    refine .inl ⟨(W i H' sA).2 (Nat.le_refl _), ?_⟩
    have pn : ∀ c, c ≠ 1 → Same (vw ω2 H' c) (vw (paint ω2 L 2) H' c) := fun c hc a o h => by
      refine vw_mk ?_ (vw_H h)
      unfold paint
      rw [if_neg]
      · exact vw_c h
      · intro e
        rw [e] at h
        exact hc ((vw_c h).symm.trans c2)
    refine f (.ref L) (own acc) Γ2 (paint ω2 L 2) H' (hd acc Γ2 p2) (S2.move (pn 0 (by decide)) fun i _ _ => pn _ (by omega)) ⟨L, xs, rfl, vw_mk (by unfold paint; rw [if_pos rfl]) e2, d2.mono (pn 0 (by decide))⟩ (f1.trans ⟨f2.1.trans (pn 0 (by decide)), fun a o h => ?_⟩)
    have z := f2.2 a o h
    refine vw_mk ?_ (vw_H z)
    unfold paint
    rw [if_neg (ne_of_none (vw_H h) hL)]
    exact vw_c z

/-! ### methods of a slot's own list -/
def MtO (r : V → List V → Hp → VK → Prop) (ds : List PyData) (es : List PyData) (ds' : List PyData) (res : PyData) : Prop := ∀ (A H : Hp) (a : Addr) (vs xs : List V), Same A H → A a = none → H a = some (.lst vs) → DRs A vs ds → DRs A xs es →
  ∀ Q : VK, (∀ ws z, DRs A ws ds' → DR A z res → Q z (upd H a (.lst ws))) → r (.ref a) xs H Q
theorem we_mt {i : Nat} {r : V → List V → Hp → VK → Prop} {ds0 : List PyData} (h : Γ[i]? = some (some (own ds0))) (ha : WA ta Γ fun as Γ1 => ∃ ds es ds' res, Γ1[i]? = some (some (own ds)) ∧ ArgD as es ∧ MtO r ds es ds' res ∧ k (dat res) (Γ1.set i (some (own ds')))) :
    WE (tBM K "list" r (tVar i) ta) Γ k := fun ω σ H S Q f => by
  obtain ⟨v, e, p⟩ := S.2 i _ h
  obtain ⟨a, vs, rfl, hr, hd⟩ := id p
  refine ⟨_, e, .inl ⟨rfl, vs, SqL.of (vw_H hr)⟩, ha ω σ H S _ fun xs as Γ1 ω1 H1 ⟨ds, es, ds', res, hi, hes, hm, hk⟩ S1 ax f1 => ?_⟩
  obtain ⟨v', e', p'⟩ := S1.2 i _ hi
  rw [e] at e'
  cases e'
  obtain ⟨a', vs', ea, hr', hd'⟩ := p'
  cases ea
  have ca := vw_c hr'
  have an : vw ω1 H1 0 a = none := by
    unfold vw
    rw [if_neg (by rw [ca]; omega)]
  refine hm (vw ω1 H1 0) H1 a vs' xs (fun _ _ z => vw_H z) an (vw_H hr') hd' (hes.drs ax) Q fun ws z hws hz => ?_
  have m0 : Same (vw ω1 H1 0) (vw ω1 (upd H1 a (.lst ws)) 0) := mut_same (by rw [ca]; omega)
  exact f z _ _ ω1 _ hk (S1.set m0 (fun j' g' hne _ => mut_same (by rw [ca]; omega)) e ⟨a, ws, rfl, vw_mk ca upd_same, hws.mono m0⟩) (hz.mono m0) (f1.trans ⟨m0, mut_same (by rw [ca]; omega)⟩)
theorem mo_append {ds : List PyData} {d : PyData} (hl : ds.length < 100000) : MtO rAppend ds [d] (ds ++ [d]) .none := fun A H a vs xs s an ha hd he Q f => by
  cases he with | cons x y =>
  cases y
  exact ⟨a, vs, _, rfl, rfl, ha, by rw [hd.length]; exact Nat.lt_of_lt_of_le hl (by decide), f _ _ (hd.snoc x) DR.non⟩
theorem mo_extend {ds es : List PyData} (hl : ds.length + es.length ≤ 100000) : MtO rExtend ds [.list es] (ds ++ es) .none := fun A H a vs xs s an ha hd he Q f => by
  cases he with | cons x y =>
  cases y
  obtain ⟨b, zs, rfl, hb, hz⟩ := x.lst_inv
  exact ⟨a, b, vs, zs, rfl, rfl, ha, s _ _ hb, by rw [hd.length, hz.length]; exact Nat.le_trans hl (by decide), f _ _ (hd.append hz) DR.non⟩
theorem mo_popAt {ds : List PyData} {d : PyData} {i : Int} (j : Nat) (e : i = j) (hl : ds[j]? = some d) (hs : ds.length ≤ 100000) : MtO rPopAt ds [.int i] (ds.eraseIdx j) d := fun A H a vs xs s an ha hd he Q f => by
  cases he with | cons x y =>
  cases y
  cases x.int_inv
  obtain ⟨z, hz, dz⟩ := hd.at hl
  have hj := (List.getElem?_eq_some_iff.mp hl).1
  refine ⟨a, vs, i, j, z, rfl, rfl, ha, by omega, by omega, ?_, hz, f _ _ (hd.erase j) dz⟩
  rw [e, hd.length]
  unfold seqIndex?
  simp
  omega
end
end G

namespace G
open PySem L2

/-! ### promises of defs by what their slots hold -/
abbrev Fw := List Gp → (Gp → Ga → Prop) → (Value → Ga → Prop) → Prop
def ParOk (gs : List Gp) (ω : Col) (H : Hp) (vs : List V) : Prop := gs.length = vs.length ∧ ∀ (i : Nat) (g : Gp) (v : V), gs[i]? = some g → vs[i]? = some v → g.p (vw ω H 0) v (vw ω H (i + 3))
def EndOk (Γp : Ga) (ω : Col) (H : Hp) (vs : List V) : Prop := ∀ (i : Nat) (g : Gp) (v : V), Γp[i]? = some (some g) → vs[i]? = some v → g.p (vw ω H 0) v (vw ω H (i + 3))
def SpG (n : Nat) (F : Fw) : Sp := fun vs H Q E => ∃ gs kk xx ω, vs.length = n ∧ F gs kk xx ∧ ParOk gs ω H vs ∧
  (∀ (v : V) (g : Gp) (Γp : Ga) (ω' : Col) (H' : Hp), kk g Γp → EndOk Γp ω' H' vs → g.p (vw ω' H' 0) v (vw ω' H' 2) → Fr ω ω' H H' → Q v H') ∧
  (∀ (c : Value) (Γp : Ga) (ω' : Col) (H' : Hp), xx c Γp → EndOk Γp ω' H' vs → Fr ω ω' H H' → E c none H')
theorem SpG.len {n : Nat} {F : Fw} : ∀ vs H Q E, SpG n F vs H Q E → vs.length = n := fun vs H Q E ⟨_, _, _, _, h, _⟩ => h
def mask (P : Nat → Bool) (n : Nat) (Γ : Ga) : Ga := (List.range n).map fun i => if P i = true then (Γ[i]?).join else none
theorem mask_get {P : Nat → Bool} {n : Nat} {Γ : Ga} {i : Nat} {g : Gp} (h : (mask P n Γ)[i]? = some (some g)) : i < n ∧ P i = true ∧ Γ[i]? = some (some g) := by
  unfold mask at h
  rw [List.getElem?_map] at h
  by_cases hi : i < n
  · rw [List.getElem?_range hi] at h
    simp only [Option.map_some, Option.some.injEq] at h
    by_cases hp : P i = true
    · rw [if_pos hp] at h
      refine ⟨hi, hp, ?_⟩
      cases e : Γ[i]? with
      | none => rw [e] at h; cases h
      | some o => rw [e] at h; exact congrArg some h
    · rw [if_neg hp] at h; cases h
  · rw [List.getElem?_eq_none (by simp; omega)] at h
    cases h
theorem par_sta {gs : List Gp} {ω : Col} {H : Hp} {vs : List V} {N : List Str} (h : ParOk gs ω H vs) : Sta (gs.map some ++ List.replicate (N.length - vs.length) none) ω (start N vs) H := by
  refine ⟨by simp [L2.start, h.1], fun i g hg => ?_⟩
  by_cases hi : i < gs.length
  · rw [List.getElem?_append_left (by simpa using hi), List.getElem?_map] at hg
    have hiv : i < vs.length := by rw [← h.1]; exact hi
    rw [List.getElem?_eq_getElem hi] at hg
    cases hg
    refine ⟨vs[i], ?_, h.2 i _ _ (List.getElem?_eq_getElem hi) (List.getElem?_eq_getElem hiv)⟩
    unfold L2.start
    rw [List.getElem?_append_left (by simpa using hiv), List.getElem?_map, List.getElem?_eq_getElem hiv]
    rfl
  · rw [List.getElem?_append_right (by simpa using Nat.le_of_not_lt hi)] at hg
    rw [List.getElem?_replicate] at hg
    split at hg <;> cases hg
/-- g holds, so g' -/
def Ent (g g' : Gp) : Prop := ∀ A v R, g.p A v R → g'.p A v R
theorem Ent.refl {g : Gp} : Ent g g := fun _ _ _ h => h
def Les : Ga → Ga → Prop
  | [], [] => True
  | _ :: Γ, none :: Γp => Les Γ Γp
  | some g :: Γ, some g' :: Γp => Ent g g' ∧ Les Γ Γp
  | _, _ => False
theorem Les.get : ∀ {Γ Γp : Ga} {i : Nat} {g' : Gp}, Les Γ Γp → Γp[i]? = some (some g') → ∃ g, Γ[i]? = some (some g) ∧ Ent g g'
  | [], [], _, _, _, h => by simp at h
  | [], _ :: _, _, _, l, _ => by simp [Les] at l
  | _ :: Γ, [], _, _, _, h => by simp at h
  | o :: Γ, none :: Γp, 0, _, _, h => by simp at h
  | o :: Γ, none :: Γp, i + 1, g', l, h => by
    have l' : Les Γ Γp := by cases o <;> exact l
    exact Les.get (i := i) l' (by simpa using h)
  | none :: Γ, some _ :: Γp, _, _, l, _ => l.elim
  | some g :: Γ, some g1 :: Γp, 0, g', l, h => by
    obtain ⟨e, _⟩ := l
    simp at h
    subst h
    exact ⟨g, rfl, e⟩
  | some g :: Γ, some g1 :: Γp, i + 1, g', l, h => by
    obtain ⟨_, l⟩ := l
    exact Les.get (i := i) l (by simpa using h)
theorem EndOk.les {Γ Γp : Ga} {ω : Col} {H : Hp} {vs : List V} (h : EndOk Γ ω H vs) (l : Les Γ Γp) : EndOk Γp ω H vs := fun i g' v hg hv => by
  obtain ⟨g, e, z⟩ := l.get hg
  exact z _ _ _ (h i g v e hv)
theorem body_ok {n : Nat} {F : Fw} (P : Nat → Bool) {t : TS} {N : List Str} {vs : List V} {H : Hp} {Q : VK} {E : XK}
    (h : ∀ gs kk xx, F gs kk xx → gs.length = n → WS P t (gs.map some ++ List.replicate (N.length - n) none) ⟨fun Γ => ∃ Γp, Les (mask P n Γ) Γp ∧ kk (dat .none) Γp, fun g Γ => ∃ g' Γp, Ent g g' ∧ Les (mask P n Γ) Γp ∧ kk g' Γp, fun _ => False, fun _ => False⟩) (hs : SpG n F vs H Q E) :
    t { nx := fun _ H' => Q .non H', rt := Q } (start N vs) H := by
  obtain ⟨gs, kk, xx, ω, hn, hF, hp, hq, _⟩ := hs
  have S := par_sta (N := N) hp
  rw [hn] at S
  have stv : ∀ (i : Nat) (v : V), vs[i]? = some v → (start N vs)[i]? = some (some v) := fun i v e => by
    have hi := (List.getElem?_eq_some_iff.mp e).1
    unfold L2.start
    rw [List.getElem?_append_left (by simpa using hi), List.getElem?_map, e]
    rfl
  have en : ∀ (Γ' : Ga) (ω' : Col) (σ' : L2.St) (H' : Hp), Sta Γ' ω' σ' H' → Pin P (start N vs) σ' → EndOk (mask P n Γ') ω' H' vs := fun Γ' ω' σ' H' S' pi i g v hg hv => by
    obtain ⟨_, hP, hg⟩ := mask_get hg
    obtain ⟨v', e, p⟩ := S'.2 i g hg
    rw [pi.2 i hP, stv i v hv] at e
    cases e
    exact p
  refine h gs kk xx hF (by rw [hp.1, hn]) ω _ H S _ ⟨fun Γ' ω' σ' H' ⟨Γp, l, hk⟩ S' f pi => ?_, fun v g Γ' ω' σ' H' ⟨g', Γp, eg, l, hk⟩ S' p f pi => ?_, fun _ _ _ _ hk => hk.elim, fun _ _ _ _ hk => hk.elim⟩
  · exact hq .non _ _ ω' H' hk ((en Γ' ω' σ' H' S' pi).les l) DR.non f
  · exact hq v g' _ ω' H' hk ((en Γ' ω' σ' H' S' pi).les l) (eg _ _ _ p) f

/-! ### a call -/
def anyG : Gp := ⟨fun _ _ _ => True, fun _ _ h => h⟩
def gsOf (Γ : Ga) : List Arg → List Gp
  | [] => []
  | .s i :: as => ((Γ[i]?).join).getD anyG :: gsOf Γ as
  | .q q :: as => per q :: gsOf Γ as
def back (Γ : Ga) : List Arg → Ga → Ga
  | [], _ => Γ
  | .s i :: as, [] => (back Γ as []).set i none
  | .s i :: as, o :: r => (back Γ as r).set i o
  | .q _ :: as, [] => back Γ as []
  | .q _ :: as, _ :: r => back Γ as r
def slots : List Arg → List Nat
  | [] => []
  | .s i :: as => i :: slots as
  | .q _ :: as => slots as
def inn' : List Arg → Nat → Nat → Nat
  | [], _, _ => 1
  | .s i :: as, j, c => if c = i + 3 then j + 3 else inn' as (j + 1) c
  | .q _ :: as, j, c => inn' as (j + 1) c
def inn (as : List Arg) (c : Nat) : Nat := if c = 0 then 0 else inn' as 0 c
def outt (as : List Arg) (c : Nat) : Nat := if c = 2 then 2 else if c < 3 then 0 else match as[c - 3]? with
  | some (Arg.s i) => i + 3
  | _ => 0
theorem back_len {Γ : Ga} : ∀ (as : List Arg) (Γp : Ga), (back Γ as Γp).length = Γ.length
  | [], _ => rfl
  | .s i :: as, [] => by unfold back; rw [List.length_set, back_len as]
  | .s i :: as, o :: r => by unfold back; rw [List.length_set, back_len as]
  | .q _ :: as, [] => by unfold back; rw [back_len as]
  | .q _ :: as, _ :: r => by unfold back; rw [back_len as]
theorem back_get {Γ : Ga} : ∀ {as : List Arg} {Γp : Ga} {i : Nat} {g : Gp}, (back Γ as Γp)[i]? = some (some g) → (∃ j : Nat, as[j]? = some (Arg.s i) ∧ Γp[j]? = some (some g)) ∨ (i ∉ slots as ∧ Γ[i]? = some (some g))
  | [], _, i, g, h => .inr ⟨by simp [slots], h⟩
  | .s i0 :: as, [], i, g, h => by
    unfold back at h
    rw [set_eq] at h
    by_cases e : i0 = i
    · rw [if_pos e] at h
      split at h <;> cases h
    · rw [if_neg e] at h
      rcases back_get h with ⟨j, _, h2⟩ | ⟨h1, h2⟩
      · simp at h2
      · exact .inr ⟨by simp [slots, Ne.symm e, h1], h2⟩
  | .s i0 :: as, o :: r, i, g, h => by
    unfold back at h
    rw [set_eq] at h
    by_cases e : i0 = i
    · rw [if_pos e] at h
      split at h
      · cases h
        exact .inl ⟨0, by simp [e], rfl⟩
      · cases h
    · rw [if_neg e] at h
      rcases back_get h with ⟨j, h1, h2⟩ | ⟨h1, h2⟩
      · exact .inl ⟨j + 1, by simpa using h1, by simpa using h2⟩
      · exact .inr ⟨by simp [slots, Ne.symm e, h1], h2⟩
  | .q _ :: as, [], i, g, h => by
    unfold back at h
    rcases back_get h with ⟨j, _, h2⟩ | ⟨h1, h2⟩
    · simp at h2
    · exact .inr ⟨by simpa [slots] using h1, h2⟩
  | .q _ :: as, o :: r, i, g, h => by
    unfold back at h
    rcases back_get h with ⟨j, h1, h2⟩ | ⟨h1, h2⟩
    · exact .inl ⟨j + 1, by simpa using h1, by simpa using h2⟩
    · exact .inr ⟨by simpa [slots] using h1, h2⟩
theorem slots_mem : ∀ {as : List Arg} {i j : Nat}, as[j]? = some (Arg.s i) → i ∈ slots as
  | [], _, _, h => by simp at h
  | .s i0 :: as, i, 0, h => by simp at h; simp [slots, h]
  | .s i0 :: as, i, j + 1, h => by simp [slots, slots_mem (as := as) (i := i) (j := j) (by simpa using h)]
  | .q _ :: as, i, 0, h => by simp at h
  | .q _ :: as, i, j + 1, h => by simp [slots, slots_mem (as := as) (i := i) (j := j) (by simpa using h)]
theorem inn'_at : ∀ {as : List Arg} {i j m : Nat}, (slots as).Nodup → as[j]? = some (Arg.s i) → inn' as m (i + 3) = m + j + 3
  | [], _, _, _, _, h => by simp at h
  | .s i0 :: as, i, 0, m, nd, h => by simp at h; simp [inn', h]
  | .s i0 :: as, i, j + 1, m, nd, h => by
    have h' : as[j]? = some (Arg.s i) := by simpa using h
    have hm := slots_mem h'
    have nd' : i0 ∉ slots as ∧ (slots as).Nodup := List.nodup_cons.mp nd
    have ne : ¬ i + 3 = i0 + 3 := fun e => nd'.1 (by have : i = i0 := by omega
                                                     rw [← this]; exact hm)
    unfold inn'
    rw [if_neg ne, inn'_at nd'.2 h']
    omega
  | .q _ :: as, i, 0, m, nd, h => by simp at h
  | .q _ :: as, i, j + 1, m, nd, h => by
    unfold inn'
    rw [inn'_at (as := as) (j := j) (by simpa [slots] using nd) (by simpa using h)]
    omega
theorem inn'_not : ∀ {as : List Arg} {c m : Nat}, (∀ i ∈ slots as, c ≠ i + 3) → inn' as m c = 1
  | [], _, _, _ => rfl
  | .s i0 :: as, c, m, h => by
    unfold inn'
    rw [if_neg (h i0 (by simp [slots])), inn'_not fun i hi => h i (by simp [slots, hi])]
  | .q _ :: as, c, m, h => by
    unfold inn'
    rw [inn'_not fun i hi => h i (by simpa [slots] using hi)]
def cIn (as : List Arg) (ω : Col) : Col := fun b => inn as (ω b)
def cOut (as : List Arg) (ω ω' : Col) (H : Hp) : Col := fun b => if (H b).isSome = true ∧ inn as (ω b) = 1 then ω b else outt as (ω' b)
section
variable {as : List Arg} {ω ω' : Col} {H H' : Hp}
theorem cIn_0 : Same (vw ω H 0) (vw (cIn as ω) H 0) := fun a o h => vw_mk (by unfold cIn; rw [vw_c h]; rfl) (vw_H h)
theorem cIn_s (nd : (slots as).Nodup) {i j : Nat} (hj : as[j]? = some (Arg.s i)) : Same (vw ω H (i + 3)) (vw (cIn as ω) H (j + 3)) := fun a o h => vw_mk (by
  unfold cIn inn
  rw [vw_c h, if_neg (by omega), inn'_at nd hj]
  omega) (vw_H h)
theorem cOut_0 (f : Fr (cIn as ω) ω' H H') : Same (vw ω H 0) (vw (cOut as ω ω' H) H' 0) := fun a o h => by
  have z := f.1 a o (cIn_0 a o h)
  refine vw_mk ?_ (vw_H z)
  unfold cOut
  have e : inn as (ω a) = 0 := by rw [vw_c h]; rfl
  rw [if_neg (by rw [e]; intro q; cases q.2), vw_c z]
  rfl
/-- what the callee doesn't know stays as it was -/
theorem cOut_k {c : Nat} (hc : c ≠ 0) (hs : ∀ i ∈ slots as, c ≠ i + 3) (f : Fr (cIn as ω) ω' H H') : Same (vw ω H c) (vw (cOut as ω ω' H) H' c) := fun a o h => by
  have e : inn as (ω a) = 1 := by
    unfold inn
    rw [vw_c h, if_neg hc]
    exact inn'_not hs
  have z := f.2 a o (vw_mk (by unfold cIn; exact e) (vw_H h))
  refine vw_mk ?_ (vw_H z)
  unfold cOut
  rw [if_pos ⟨by rw [vw_H h]; rfl, e⟩]
  exact vw_c h
theorem cOut_of {c d : Nat} (h1 : c ≠ 1) (ho : outt as c = d) (f : Fr (cIn as ω) ω' H H') : Same (vw ω' H' c) (vw (cOut as ω ω' H) H' d) := fun a o h => by
  refine vw_mk ?_ (vw_H h)
  unfold cOut
  rw [if_neg, vw_c h]
  · exact ho
  · intro ⟨q1, q2⟩
    obtain ⟨u, hu⟩ := Option.isSome_iff_exists.mp q1
    have z := f.2 a u (vw_mk (by unfold cIn; exact q2) hu)
    exact h1 ((vw_c h).symm.trans (vw_c z))
end
theorem gsOf_get {Γ : Ga} {σ : L2.St} {A : Hp} : ∀ {as : List Arg} {vs : List V} {j : Nat} {g : Gp} {v : V}, ArgsOk σ A as vs → (gsOf Γ as)[j]? = some g → vs[j]? = some v →
    (∃ i, as[j]? = some (Arg.s i) ∧ σ[i]? = some (some v) ∧ (g = anyG ∨ Γ[i]? = some (some g))) ∨ ∃ q, as[j]? = some (Arg.q q) ∧ g = per q ∧ q.q A v
  | [], _, _, _, _, _, h, _ => by simp [gsOf] at h
  | .s i :: as, _, 0, g, v, a, h, hv => by
    cases a with | cons x y =>
    simp [gsOf] at h hv
    subst hv
    refine .inl ⟨i, rfl, x, ?_⟩
    cases e : Γ[i]? with
    | none => rw [e] at h; left; exact h.symm
    | some o =>
      cases o with
      | none => rw [e] at h; left; exact h.symm
      | some g' => rw [e] at h; right; cases h; rfl
  | .q q :: as, _, 0, g, v, a, h, hv => by
    cases a with | cons x y =>
    simp [gsOf] at h hv
    subst hv
    exact .inr ⟨q, rfl, h.symm, x⟩
  | .s i :: as, _, j + 1, g, v, a, h, hv => by
    cases a with | cons x y =>
    rcases gsOf_get (as := as) (j := j) y (by simpa [gsOf] using h) (by simpa using hv) with ⟨i', h1, h2⟩ | ⟨q, h1, h2⟩
    · exact .inl ⟨i', by simpa using h1, h2⟩
    · exact .inr ⟨q, by simpa using h1, h2⟩
  | .q _ :: as, _, j + 1, g, v, a, h, hv => by
    cases a with | cons x y =>
    rcases gsOf_get (as := as) (j := j) y (by simpa [gsOf] using h) (by simpa using hv) with ⟨i', h1, h2⟩ | ⟨q, h1, h2⟩
    · exact .inl ⟨i', by simpa using h1, h2⟩
    · exact .inr ⟨q, by simpa using h1, h2⟩
theorem gsOf_len {Γ : Ga} : ∀ as : List Arg, (gsOf Γ as).length = as.length
  | [] => rfl
  | .s i :: as => by simp [gsOf, gsOf_len as]
  | .q _ :: as => by simp [gsOf, gsOf_len as]
theorem ArgsOk.len {σ : L2.St} {A : Hp} : ∀ {as : List Arg} {vs : List V}, ArgsOk σ A as vs → vs.length = as.length
  | [], _, h => by cases h; rfl
  | a :: as, _, h => by cases h with | cons x y => simp [ArgsOk.len y]
theorem ArgsOk.slot {σ : L2.St} {A : Hp} : ∀ {as : List Arg} {vs : List V} {i j : Nat}, ArgsOk σ A as vs → as[j]? = some (Arg.s i) → ∃ v, vs[j]? = some v ∧ σ[i]? = some (some v)
  | [], _, _, _, _, h => by simp at h
  | a :: as, _, i, 0, h, e => by cases h with | cons x y => simp at e; subst e; exact ⟨_, rfl, x⟩
  | a :: as, _, i, j + 1, h, e => by cases h with | cons x y => exact ArgsOk.slot (j := j) y (by simpa using e)
section
variable {K : PySem.W.Frag} {Γ : Ga} {k : Gp → Ga → Prop} {ta : TA} {n : Nat} {F : Fw} {E : XK}
/-- the promise is kept at a call -/
theorem call_core {Γ1 : Ga} {ω1 : Col} {σ : L2.St} {H1 : Hp} {as : List Arg} {vs : List V} {Q : VK} {kx : Value → Ga → Prop} (S1 : Sta Γ1 ω1 σ H1) (a : ArgsOk σ (vw ω1 H1 0) as vs) (hn : as.length = n) (nd : (slots as).Nodup)
    (hF : F (gsOf Γ1 as) (fun g Γp => k g (back Γ1 as Γp)) fun c Γp => kx c (back Γ1 as Γp))
    (c : ∀ v g Γ' ω' H', k g Γ' → Sta Γ' ω' σ H' → Gp.p g (vw ω' H' 0) v (vw ω' H' 2) → Fr ω1 ω' H1 H' → Q v H')
    (cx : ∀ cl Γ' ω' H', kx cl Γ' → Sta Γ' ω' σ H' → Fr ω1 ω' H1 H' → E cl none H') : SpG n F vs H1 Q E := by
  have fin : ∀ (Γp : Ga) (ω' : Col) (H' : Hp), EndOk Γp ω' H' vs → Fr (cIn as ω1) ω' H1 H' → Sta (back Γ1 as Γp) (cOut as ω1 ω' H1) σ H' := fun Γp ω' H' he f => by
    refine ⟨by rw [back_len]; exact S1.1, fun i g hg => ?_⟩
    rcases back_get hg with ⟨j, hj, hp⟩ | ⟨hni, hg⟩
    · obtain ⟨v, hv, hs⟩ := a.slot hj
      refine ⟨v, hs, g.mono (cOut_of (by decide) rfl f) (cOut_of (by omega) ?_ f) (he j g v hp hv)⟩
      unfold outt
      rw [if_neg (by omega), if_neg (by omega)]
      have : j + 3 - 3 = j := by omega
      rw [this, hj]
    · obtain ⟨v, hs, p⟩ := S1.2 i g hg
      have hc : ∀ i' ∈ slots as, i + 3 ≠ i' + 3 := fun i' hi' e => hni ((show i' = i by omega) ▸ hi')
      exact ⟨v, hs, g.mono (cOut_0 f) (cOut_k (by omega) hc f) p⟩
  have fr : ∀ (ω' : Col) (H' : Hp), Fr (cIn as ω1) ω' H1 H' → Fr ω1 (cOut as ω1 ω' H1) H1 H' := fun ω' H' f => ⟨cOut_0 f, cOut_k (by decide) (fun i _ => by omega) f⟩
  refine ⟨gsOf Γ1 as, _, _, cIn as ω1, by rw [a.len]; exact hn, hF, ⟨by rw [gsOf_len, a.len], fun j g v hg hv => ?_⟩, fun v g Γp ω' H' hk he p f => ?_, fun cl Γp ω' H' hk he f => ?_⟩
  · rcases gsOf_get a hg hv with ⟨i, hj, hs, e | e⟩ | ⟨q, hj, e, hq⟩
    · subst e; trivial
    · obtain ⟨v', e', p⟩ := S1.2 i g e
      rw [hs] at e'
      cases e'
      exact g.mono cIn_0 (cIn_s nd hj) p
    · subst e
      exact q.mono cIn_0 hq
  · exact c v g _ (cOut as ω1 ω' H1) H' hk (fin Γp ω' H' he f) (g.mono (cOut_of (by decide) rfl f) (cOut_of (by decide) rfl f) p) (fr ω' H' f)
  · exact cx cl _ (cOut as ω1 ω' H1) H' hk (fin Γp ω' H' he f) (fr ω' H' f)
theorem we_call (h : WA ta Γ fun as Γ1 => as.length = n ∧ (slots as).Nodup ∧ F (gsOf Γ1 as) (fun g Γp => k g (back Γ1 as Γp)) fun _ _ => False) : WE (tCall (SpG n F) [] E ta) Γ k := fun ω σ H S Q f => h ω σ H S _ fun vs as Γ1 ω1 H1 ⟨hn, nd, hF⟩ S1 a f1 => by
  show SpG n F (vs ++ []) H1 Q E
  rw [List.append_nil]
  exact call_core (kx := fun _ _ => False) S1 a hn nd hF (fun v g Γ' ω' H' hk S' p f2 => f v g Γ' ω' H' hk S' p (f1.trans f2)) fun _ _ _ _ hx => hx.elim
/-- the only argument is made on the way: it becomes the callee's own -/
def cIn1 (ω : Col) : Col := fun b => if ω b = 0 then 0 else if ω b = 2 then 3 else 1
def cOut1 (ω ω' : Col) (H : Hp) : Col := fun b => if (H b).isSome = true ∧ ω b ≠ 0 ∧ ω b ≠ 2 then ω b else if ω' b = 2 then 2 else 0
theorem we_call1 {te : TE} (h : WE te Γ fun g Γ1 => F [g] (fun g' _ => k g' Γ1) fun _ _ => False) : WE (tCall (SpG 1 F) [] E (tCons te tNil)) Γ k := fun ω σ H S Q f => h ω σ H S _ fun v g Γ1 ω1 H1 hF S1 p f1 => by
  show SpG 1 F ([v] ++ []) H1 Q E
  rw [List.append_nil]
  have i0 : Same (vw ω1 H1 0) (vw (cIn1 ω1) H1 0) := fun a o h => vw_mk (by unfold cIn1; rw [if_pos (vw_c h)]) (vw_H h)
  have i2 : Same (vw ω1 H1 2) (vw (cIn1 ω1) H1 3) := fun a o h => vw_mk (by unfold cIn1; rw [vw_c h]; rfl) (vw_H h)
  refine ⟨[g], _, _, cIn1 ω1, rfl, hF, ⟨rfl, fun j g' v' hg hv => ?_⟩, fun v' g' Γp ω' H' hk he p' f2 => ?_, fun _ _ _ _ hx => hx.elim⟩
  · match j, hg, hv with
    | 0, hg, hv =>
      cases hg
      cases hv
      exact g.mono i0 i2 p
    | j + 1, hg, _ => simp at hg
  · have keep : ∀ c, c ≠ 0 → c ≠ 2 → Same (vw ω1 H1 c) (vw (cOut1 ω1 ω' H1) H' c) := fun c h0 h2 a o h => by
      have e := vw_c h
      have z := f2.2 a o (vw_mk (by unfold cIn1; rw [if_neg (by rw [e]; exact h0), if_neg (by rw [e]; exact h2)]) (vw_H h))
      refine vw_mk ?_ (vw_H z)
      unfold cOut1
      rw [if_pos ⟨by rw [vw_H h]; rfl, by rw [e]; exact h0, by rw [e]; exact h2⟩]
      exact e
    have k0 : Same (vw ω1 H1 0) (vw (cOut1 ω1 ω' H1) H' 0) := fun a o h => by
      have z := f2.1 a o (i0 a o h)
      refine vw_mk ?_ (vw_H z)
      unfold cOut1
      rw [if_neg (by rw [vw_c h]; intro q; exact q.2.1 rfl), vw_c z]
      rfl
    have ofc : ∀ c d, c ≠ 1 → (if c = 2 then 2 else 0) = d → Same (vw ω' H' c) (vw (cOut1 ω1 ω' H1) H' d) := fun c d h1 hd a o h => by
      refine vw_mk ?_ (vw_H h)
      unfold cOut1
      rw [if_neg, vw_c h]
      · exact hd
      · intro ⟨q1, q2, q3⟩
        obtain ⟨u, hu⟩ := Option.isSome_iff_exists.mp q1
        have z := f2.2 a u (vw_mk (by unfold cIn1; rw [if_neg q2, if_neg q3]) hu)
        exact h1 ((vw_c h).symm.trans (vw_c z))
    exact f v' g' Γ1 (cOut1 ω1 ω' H1) H' hk (S1.move k0 fun i _ _ => keep _ (by omega) (by omega)) (g'.mono (ofc 0 0 (by decide) rfl) (ofc 2 2 (by decide) rfl) p') (f1.trans ⟨k0, keep 1 (by decide) (by decide)⟩)
end

/-! ### assertions with something left open -/
def exG {α : Type} (f : α → Gp) : Gp := ⟨fun A v R => ∃ x, (f x).p A v R, fun a r ⟨x, h⟩ => ⟨x, (f x).mono a r h⟩⟩
def whenG (φ : Prop) (g : Gp) : Gp := ⟨fun A v R => φ ∧ g.p A v R, fun a r h => ⟨h.1, g.mono a r h.2⟩⟩
theorem Sta.sub {Γ : Ga} {ω : Col} {σ : L2.St} {H : Hp} (S : Sta Γ ω σ H) {i : Nat} {v : V} {g : Gp} (e : σ[i]? = some (some v)) (p : g.p (vw ω H 0) v (vw ω H (i + 3))) : Sta (Γ.set i (some g)) ω σ H :=
  S.set (Same.refl _) (fun _ _ _ _ => Same.refl _) e p
section
variable {Γ : Ga} {P : Nat → Bool} {t : TS} {D : Pe}
theorem ws_open {α : Type} {f : α → Gp} {i : Nat} (h : Γ[i]? = some (some (exG f))) (c : ∀ x, WS P t (Γ.set i (some (f x))) D) : WS P t Γ D := fun ω σ H S E m => by
  obtain ⟨v, e, x, p⟩ := S.2 i _ h
  exact c x ω σ H (S.sub e p) E m
theorem ws_when {φ : Prop} {g : Gp} {i : Nat} (h : Γ[i]? = some (some (whenG φ g))) (c : φ → WS P t (Γ.set i (some g)) D) : WS P t Γ D := fun ω σ H S E m => by
  obtain ⟨v, e, x, p⟩ := S.2 i _ h
  exact c x ω σ H (S.sub e p) E m
end
end G

namespace G
open PySem L2

/-! ### the readings by name -/
abbrev rAddI : R2 := rI0 fun i j => .int (i + j)
def rAddS : R2 := fun x y H Q => ∃ i j, x = .str i ∧ y = .str j ∧ i.length + j.length ≤ sizeLine ∧ Q (.str (i ++ j)) H
def rPlus (K : PySem.W.Frag) : R2 := rOr rAddI (rOr rCat (rOr rAddS (rCatT K)))
abbrev rSubI : R2 := rI0 fun i j => .int (i - j)
abbrev rMulI : R2 := rI CMul fun i j => .int (i * j)
abbrev rDivI : R2 := rI CDivW fun i j => .int (i / j)
abbrev rModI : R2 := rI (fun _ j => 0 < j) fun i j => .int (i % j)
abbrev rPowI : R2 := rI CPow fun i j => .int (i ^ j.toNat)
abbrev rLtI : R2 := rI0 fun i j => .bl (decide (i < j))
abbrev rLeI : R2 := rI0 fun i j => .bl (decide (i ≤ j))
abbrev rGtI : R2 := rI0 fun i j => .bl (decide (j < i))
abbrev rGeI : R2 := rI0 fun i j => .bl (decide (j ≤ i))
abbrev rNegI : V → Hp → VK → Prop := rU fun i => .int (-i)
def rIsN0 : R2 := fun x y H Q => y = .non ∧ Q (.bl (decide (x = .non))) H
def rNotN0 : R2 := fun x y H Q => y = .non ∧ Q (.bl (!decide (x = .non))) H
def rLenA (K : PySem.W.Frag) : List V → Hp → VK → Prop := fun xs H Q => ∃ x n, xs = [x] ∧ LenV K x H n ∧ Q (.int n) H
def rInt1 : List V → Hp → VK → Prop := fun xs H Q => (∃ i, xs = [.int i] ∧ Q (.int i) H) ∨ ∃ k, xs = [.bl k] ∧ Q (.int (if k then 1 else 0)) H
def rMax2 : List V → Hp → VK → Prop := fun xs H Q => ∃ i j, xs = [.int i, .int j] ∧ Q (.int (if j > i then j else i)) H
def rMin2 : List V → Hp → VK → Prop := fun xs H Q => ∃ i j, xs = [.int i, .int j] ∧ Q (.int (if j < i then j else i)) H
def rListOf (K : PySem.W.Frag) : List V → Hp → VK → Prop := fun xs H Q => ∃ p ys, xs = [.ref p] ∧ (SqL K H p ys ∨ SqT K H p ys) ∧ ∀ l, H l = none → Q (.ref l) (upd H l (.lst ys))
def cOr (r r' : List V → Hp → VK → Prop) : List V → Hp → VK → Prop := fun xs H Q => r xs H Q ∨ r' xs H Q
def rSortA (K : PySem.W.Frag) : List V → Hp → VK → Prop := cOr (rSortedI K) (rSortedPO K)
section
variable {X : Cx}
theorem c_or {f : Value} {r r' : List V → Hp → VK → Prop} (h : CallR X f r) (h' : CallR X f r') : CallR X f (cOr r r') := fun pins s σ H xs us Q I r q => by
  rcases q with q | q
  · exact h pins s σ H xs us Q I r q
  · exact h' pins s σ H xs us Q I r q
theorem op_plus : OpR X (binaryOp .Add) (rPlus X.K) := op_or op_add (op_or op_cat (op_or op_add_str op_catT))
theorem op_isN0 : OpR X (compareOp .Is) rIsN0 := op_isN
theorem c_len : CallR X (.builtin "len") (rLenA X.K) := call_len
theorem c_int : CallR X (.type "int") rInt1 := call_int1
theorem c_max (hc : X.calm = true) : CallR X (.builtin "max") rMax2 := call_max2 hc
theorem c_min (hc : X.calm = true) : CallR X (.builtin "min") rMin2 := call_min2 hc
theorem c_list : CallR X (.type "list") (rListOf X.K) := call_list_of
theorem c_sorted : CallR X (.builtin "sorted") (rSortA X.K) := c_or cr_sortedI cr_sortedPO
end
section
variable {K : PySem.W.Frag} {Γ : Ga} {k : Gp → Ga → Prop} {ta tb te : TE} {tr : TA} {kt : Bool → Ga → Prop}
/-! ### what they do upon data -/
theorem od_addI {i j : Int} : OpD (rPlus K) (.int i) (.int j) (dP (.int (i + j))) := OpD.lft od_I0
theorem we_neg (h : WQ ta Γ fun q Γ1 => ∃ i, q = dP (.int i) ∧ k (dat (.int (-i))) Γ1) : WE (tUn rNegI ta) Γ k := we_un (h.imp fun q Γ1 ⟨i, e, hk⟩ => by
  subst e
  intro ω σ H v S p Q f
  cases DR.int_inv p
  exact ⟨i, rfl, f _ _ Γ1 ω H hk S (DR.int _) Fr.refl⟩)
/-! ### built-ins -/
/-- arguments that are all data, told one by one -/
theorem argD1 {d : PyData} : ArgD [.q (dP d)] [d] := ⟨rfl, trivial⟩
theorem argD2 {d e : PyData} : ArgD [.q (dP d), .q (dP e)] [d, e] := ⟨rfl, rfl, trivial⟩
theorem cb_lenL {ds : List PyData} : CbD (rLenA K) [.list ds] (dP (.int ds.length)) := fun A H vs s h Q f => by
  cases h with | cons x y =>
  cases y
  obtain ⟨a, xs, rfl, ha, hd⟩ := x.lst_inv
  exact ⟨_, xs.length, rfl, .inl ⟨xs, SqL.of (s _ _ ha), rfl⟩, by rw [hd.length]; exact f _ (DR.int _)⟩
theorem cb_lenT {ds : List PyData} : CbD (rLenA K) [.tuple ds] (dP (.int ds.length)) := fun A H vs s h Q f => by
  cases h with | cons x y =>
  cases y
  obtain ⟨a, xs, rfl, ha, hd⟩ := x.tup_inv
  exact ⟨_, xs.length, rfl, .inr ⟨xs, SqT.of (s _ _ ha), rfl⟩, by rw [hd.length]; exact f _ (DR.int _)⟩
theorem cb_int {i : Int} : CbD rInt1 [.int i] (dP (.int i)) := fun A H vs s h Q f => by
  cases h with | cons x y =>
  cases y
  cases x.int_inv
  exact .inl ⟨i, rfl, f _ (DR.int _)⟩
theorem cb_intB {b : Bool} : CbD rInt1 [.bool b] (dP (.int (if b then 1 else 0))) := fun A H vs s h Q f => by
  cases h with | cons x y =>
  cases y
  cases x.bl_inv
  exact .inr ⟨b, rfl, f _ (DR.int _)⟩
theorem cb_max {i j : Int} : CbD rMax2 [.int i, .int j] (dP (.int (if j > i then j else i))) := fun A H vs s h Q f => by
  cases h with | cons x y =>
  cases y with | cons z y =>
  cases y
  cases x.int_inv
  cases z.int_inv
  exact ⟨i, j, rfl, f _ (DR.int _)⟩
theorem cb_min {i j : Int} : CbD rMin2 [.int i, .int j] (dP (.int (if j < i then j else i))) := fun A H vs s h Q f => by
  cases h with | cons x y =>
  cases y with | cons z y =>
  cases y
  cases x.int_inv
  cases z.int_inv
  exact ⟨i, j, rfl, f _ (DR.int _)⟩
theorem cb_list {ds : List PyData} : CbL (rListOf K) [.list ds] (fun es => es = ds) := fun A H vs s h Q f => by
  cases h with | cons x y =>
  cases y
  obtain ⟨a, xs, rfl, ha, hd⟩ := x.lst_inv
  exact ⟨a, xs, rfl, .inl (SqL.of (s _ _ ha)), fun l hl => f ds xs l rfl hd hl⟩
end
end G

namespace G
open PySem L2
/-! ### operations upon data, one rule for all -/
def OpK (r : R2) (d e : PyData) (k : Gp → Ga → Prop) (Γ : Ga) : Prop := ∀ (ω : Col) (σ : L2.St) (H : Hp) (v w : V), Sta Γ ω σ H → DR (vw ω H 0) v d → DR (vw ω H 0) w e → ∀ Q : VK,
  (∀ (v : V) (g : Gp) (Γ' : Ga) (ω' : Col) (H' : Hp), k g Γ' → Sta Γ' ω' σ H' → g.p (vw ω' H' 0) v (vw ω' H' 2) → Fr ω ω' H H' → Q v H') → r v w H Q
def CbK (r : List V → Hp → VK → Prop) (ds : List PyData) (k : Gp → Ga → Prop) (Γ : Ga) : Prop := ∀ (ω : Col) (σ : L2.St) (H : Hp) (vs : List V), Sta Γ ω σ H → DRs (vw ω H 0) vs ds → ∀ Q : VK,
  (∀ (v : V) (g : Gp) (Γ' : Ga) (ω' : Col) (H' : Hp), k g Γ' → Sta Γ' ω' σ H' → g.p (vw ω' H' 0) v (vw ω' H' 2) → Fr ω ω' H H' → Q v H') → r vs H Q
section
variable {K : PySem.W.Frag} {Γ : Ga} {k : Gp → Ga → Prop} {ta tb te : TE} {tr : TA} {kt : Bool → Ga → Prop} {ka : List Arg → Ga → Prop}
theorem we_opK {r : R2} (h : WQ ta Γ fun q Γ1 => ∃ d, q = dP d ∧ WQ tb Γ1 fun q' Γ2 => ∃ e, q' = dP e ∧ OpK r d e k Γ2) : WE (tOp r ta tb) Γ k :=
  we_op (h.imp fun q Γ1 ⟨d, e1, h1⟩ => h1.imp fun q' Γ2 ⟨e, e2, hk⟩ => by
    subst e1 e2
    exact hk)
theorem ok_of {r : R2} {d e : PyData} {q : Per} (h : OpD r d e q) (hk : k (per q) Γ) : OpK r d e k Γ := fun ω σ H v w S a b Q f => h (vw ω H 0) H v w (fun _ _ z => vw_H z) a b Q fun z hz => f z (per q) Γ ω H hk S hz Fr.refl
theorem ok_plusI {i j : Int} (hk : k (dat (.int (i + j))) Γ) : OpK (rPlus K) (.int i) (.int j) k Γ := ok_of od_addI hk
theorem ok_plusL {d e : List PyData} (hl : d.length + e.length ≤ 100000) (hk : k (own (d ++ e)) Γ) : OpK (rPlus K) (.list d) (.list e) k Γ := fun ω σ H v w S pv pw Q f => by
  obtain ⟨a, xs, rfl, ha, hd⟩ := DR.lst_inv pv
  obtain ⟨b, ys, rfl, hb, he⟩ := DR.lst_inv pw
  exact .inr (.inl ⟨a, b, xs, ys, rfl, rfl, vw_H ha, vw_H hb, by rw [hd.length, he.length]; exact Nat.le_trans hl (by decide), fun p hp =>
    f _ _ Γ (paint ω p 2) _ hk (S.new 2 hp) ⟨p, xs ++ ys, rfl, paint_at, (hd.append he).mono (paint_same hp 0)⟩ (paint_fr hp)⟩)
theorem ok_sub {i j : Int} (hk : k (dat (.int (i - j))) Γ) : OpK rSubI (.int i) (.int j) k Γ := ok_of od_I0 hk
theorem ok_mul {i j : Int} (c : CMul i j) (hk : k (dat (.int (i * j))) Γ) : OpK rMulI (.int i) (.int j) k Γ := ok_of (od_I c) hk
theorem ok_div {i j : Int} (c : CDivW i j) (hk : k (dat (.int (i / j))) Γ) : OpK rDivI (.int i) (.int j) k Γ := ok_of (od_I c) hk
theorem ok_mod {i j : Int} (c : 0 < j) (hk : k (dat (.int (i % j))) Γ) : OpK rModI (.int i) (.int j) k Γ := ok_of (od_I c) hk
theorem ok_pow {i j : Int} (c : CPow i j) (hk : k (dat (.int (i ^ j.toNat))) Γ) : OpK rPowI (.int i) (.int j) k Γ := ok_of (od_I c) hk
theorem ok_lt {i j : Int} (hk : k (dat (.bool (decide (i < j)))) Γ) : OpK rLtI (.int i) (.int j) k Γ := ok_of od_B0 hk
theorem ok_le {i j : Int} (hk : k (dat (.bool (decide (i ≤ j)))) Γ) : OpK rLeI (.int i) (.int j) k Γ := ok_of od_B0 hk
theorem ok_gt {i j : Int} (hk : k (dat (.bool (decide (j < i)))) Γ) : OpK rGtI (.int i) (.int j) k Γ := ok_of od_B0 hk
theorem ok_ge {i j : Int} (hk : k (dat (.bool (decide (j ≤ i)))) Γ) : OpK rGeI (.int i) (.int j) k Γ := ok_of od_B0 hk
theorem shaped_int {i : Int} : SeqAt.shaped (.int i) = true := by rfl
theorem eqv_int {i j : Int} : PyData.eqv (.int i) (.int j) = decide (i = j) := by
  show (i == j) = decide (i = j)
  exact Bool.beq_eq_decide_eq i j
theorem ok_eqI {i j : Int} (hk : k (dat (.bool (decide (i = j)))) Γ) : OpK (rEqD K) (.int i) (.int j) k Γ := ok_of (od_eq shaped_int shaped_int) (by rw [eqv_int]; exact hk)
theorem ok_neI {i j : Int} (hk : k (dat (.bool (!decide (i = j)))) Γ) : OpK (rNeD K) (.int i) (.int j) k Γ := ok_of (od_ne shaped_int shaped_int) (by rw [eqv_int]; exact hk)
theorem ok_eq {d e : PyData} (hd : SeqAt.shaped d = true) (he : SeqAt.shaped e = true) (hk : k (dat (.bool (PyData.eqv d e))) Γ) : OpK (rEqD K) d e k Γ := ok_of (od_eq hd he) hk
theorem ok_ne {d e : PyData} (hd : SeqAt.shaped d = true) (he : SeqAt.shaped e = true) (hk : k (dat (.bool (!PyData.eqv d e))) Γ) : OpK (rNeD K) d e k Γ := ok_of (od_ne hd he) hk
theorem ok_in {d : PyData} {ds : List PyData} (hd : SeqAt.shaped d = true) (he : SeqAt.shaped (.list ds) = true) (hk : k (dat (.bool (ds.any fun z => PyData.eqv z d))) Γ) : OpK (rInD K) d (.list ds) k Γ := ok_of (od_in hd he) hk
theorem ok_ixL {ds : List PyData} {i : Int} {d : PyData} (h : atI ds i = some d) (hk : k (dat d) Γ) : OpK (rIx K) (.list ds) (.int i) k Γ := ok_of (od_ixL h) hk
/-- an own list looked at, on the right, on the left -/
theorem we_opR {r : R2} {i : Nat} (h : WQ ta Γ fun q Γ1 => ∃ d, q = dP d ∧ ∃ ds b, Γ1[i]? = some (some (own ds)) ∧ OpD r d (.list ds) (dP (.bool b)) ∧ k (dat (.bool b)) Γ1) : WE (tOp r ta (tVar i)) Γ k := fun ω σ H S Q f => h ω σ H S _ fun v q Γ1 ω1 H1 ⟨d, e, ds, b, hi, ho, hk⟩ S1 p f1 => by
  subst e
  obtain ⟨w, ew, a, vs, rfl, hr, hd⟩ := S1.2 i _ hi
  exact ⟨_, ew, ho H1 H1 v _ (Same.refl _) (DR.mono (fun _ _ z => vw_H z) d p) (.lst (vw_H hr) (hd.mono fun _ _ z => vw_H z)) Q fun z hz => by
    cases DR.bl_inv hz
    exact f _ _ Γ1 ω1 H1 hk S1 (DR.bl b) f1⟩
theorem we_opL {r : R2} {i : Nat} {ds : List PyData} (hi : Γ[i]? = some (some (own ds))) (h : WQ tb Γ fun q Γ1 => ∃ d, q = dP d ∧ ∃ b, Γ1[i]? = some (some (own ds)) ∧ OpD r (.list ds) d (dP (.bool b)) ∧ k (dat (.bool b)) Γ1) : WE (tOp r (tVar i) tb) Γ k := fun ω σ H S Q f => by
  obtain ⟨w, ew, p0⟩ := S.2 i _ hi
  refine ⟨_, ew, h ω σ H S _ fun v q Γ1 ω1 H1 ⟨d, e, b, hi, ho, hk⟩ S1 p f1 => ?_⟩
  subst e
  obtain ⟨w', ew', a, vs, e2, hr, hd⟩ := S1.2 i _ hi
  rw [ew] at ew'
  cases ew'
  subst e2
  exact ho H1 H1 _ v (Same.refl _) (.lst (vw_H hr) (hd.mono fun _ _ z => vw_H z)) (DR.mono (fun _ _ z => vw_H z) d p) Q fun z hz => by
    cases DR.bl_inv hz
    exact f _ _ Γ1 ω1 H1 hk S1 (DR.bl b) f1
/-! ### built-ins -/
theorem we_cbK {rc : List V → Hp → VK → Prop} (h : WA tr Γ fun as Γ1 => ∃ ds, ArgD as ds ∧ CbK rc ds k Γ1) : WE (tCB rc tr) Γ k := fun ω σ H S Q f => h ω σ H S _ fun vs as Γ1 ω1 H1 ⟨ds, e, hc⟩ S1 a f1 =>
  hc ω1 σ H1 vs S1 (e.drs a) Q fun v g Γ' ω' H' hk S' p f2 => f v g Γ' ω' H' hk S' p (f1.trans f2)
theorem ck_of {rc : List V → Hp → VK → Prop} {ds : List PyData} {q : Per} (h : CbD rc ds q) (hk : k (per q) Γ) : CbK rc ds k Γ := fun ω σ H vs S a Q f => h (vw ω H 0) H vs (fun _ _ z => vw_H z) a Q fun z hz => f z (per q) Γ ω H hk S hz Fr.refl
theorem ck_L {rc : List V → Hp → VK → Prop} {ds : List PyData} {P : List PyData → Prop} (h : CbL rc ds P) (hk : ∀ es, P es → k (own es) Γ) : CbK rc ds k Γ := fun ω σ H vs S a Q f => h (vw ω H 0) H vs (fun _ _ z => vw_H z) a Q fun es xs p hP hx hp =>
  f _ _ Γ (paint ω p 2) _ (hk es hP) (S.new 2 hp) ⟨p, xs, rfl, paint_at, hx.mono (paint_same hp 0)⟩ (paint_fr hp)
theorem ck_lenL {ds : List PyData} (hk : k (dat (.int ds.length)) Γ) : CbK (rLenA K) [.list ds] k Γ := ck_of cb_lenL hk
theorem ck_lenT {ds : List PyData} (hk : k (dat (.int ds.length)) Γ) : CbK (rLenA K) [.tuple ds] k Γ := ck_of cb_lenT hk
theorem ck_int {i : Int} (hk : k (dat (.int i)) Γ) : CbK rInt1 [.int i] k Γ := ck_of cb_int hk
theorem ck_intB {i : Bool} (hk : k (dat (.int (if i then 1 else 0))) Γ) : CbK rInt1 [.bool i] k Γ := ck_of cb_intB hk
theorem ck_max {i j : Int} (hk : k (dat (.int (if j > i then j else i))) Γ) : CbK rMax2 [.int i, .int j] k Γ := ck_of cb_max hk
theorem ck_min {i j : Int} (hk : k (dat (.int (if j < i then j else i))) Γ) : CbK rMin2 [.int i, .int j] k Γ := ck_of cb_min hk
theorem ck_list {ds : List PyData} (hk : k (own ds) Γ) : CbK (rListOf K) [.list ds] k Γ := ck_L cb_list fun es e => by subst e; exact hk
theorem argD0 : ArgD [] [] := trivial
theorem argD3 {d e f : PyData} : ArgD [.q (dP d), .q (dP e), .q (dP f)] [d, e, f] := ⟨rfl, rfl, rfl, trivial⟩
theorem argD4 {d e f g : PyData} : ArgD [.q (dP d), .q (dP e), .q (dP f), .q (dP g)] [d, e, f, g] := ⟨rfl, rfl, rfl, rfl, trivial⟩
theorem we_lenS' {i : Nat} {ds : List PyData} (h : Γ[i]? = some (some (own ds))) (hk : k (dat (.int ds.length)) Γ) : WE (tCB (rLenA K) (tCons (tVar i) tNil)) Γ k := we_lenS h hk
/-- no argument is one's own -/
def urn (m : Nat) : Gp := exG fun x : Int × Int × Int => whenG (0 ≤ x.2.2 ∧ x.2.2 + (m : Int) ≤ 2 ^ 60) (own [.int x.1, .int x.2.1, .int x.2.2])
theorem urn_mk {a b c : Int} {m : Nat} (h0 : 0 ≤ c) (h1 : c + (m : Int) ≤ 2 ^ 60) : Ent (own [.int a, .int b, .int c]) (urn m) := fun _ _ _ h => ⟨(a, b, c), ⟨h0, h1⟩, h⟩
/-- a list of ints that is only read: the script -/
def scrP (K : PySem.W.Frag) (ns : List Int) : Per := ⟨fun A v => ∃ a, v = .ref a ∧ SqL K A a (ns.map V.int), fun s ⟨a, e, h⟩ => ⟨a, e, Same.seq s h⟩⟩
theorem we_lenScr {i : Nat} {ns : List Int} (h : Γ[i]? = some (some (per (scrP K ns)))) (hk : k (dat (.int ns.length)) Γ) : WE (tCB (rLenA K) (tCons (tVar i) tNil)) Γ k := fun ω σ H S Q f => by
  obtain ⟨v, e, a, rfl, hs⟩ := S.2 i _ h
  exact ⟨_, e, _, (ns.map V.int).length, rfl, .inl ⟨_, Same.seq (fun _ _ z => vw_H z) hs, rfl⟩, by rw [List.length_map]; exact f _ _ Γ ω H hk S (DR.int _) Fr.refl⟩
theorem we_ixScr {i : Nat} {ns : List Int} (h : Γ[i]? = some (some (per (scrP K ns)))) (hb : WQ tb Γ fun q Γ1 => ∃ j n, q = dP (.int j) ∧ atI ns j = some n ∧ k (dat (.int n)) Γ1) : WE (tOp (rIx K) (tVar i) tb) Γ k := fun ω σ H S Q f => by
  obtain ⟨v, e, a, rfl, hs⟩ := S.2 i _ h
  refine ⟨_, e, hb ω σ H S _ fun w q Γ1 ω1 H1 ⟨j, n, eq, ha, hk⟩ S1 pq f1 => ?_⟩
  subst eq
  cases DR.int_inv pq
  refine .inl ⟨a, _, j, .int n, rfl, rfl, Same.seq (fun x o z => vw_H (f1.1 x o z)) hs, ?_, f _ _ Γ1 ω1 H1 hk S1 (DR.int _) f1⟩
  unfold atI at ha ⊢
  rw [List.length_map]
  cases e : ixN ns.length j with
  | none => rw [e] at ha; cases ha
  | some m =>
    rw [e] at ha
    show (ns.map V.int)[m]? = _
    rw [List.getElem?_map, show ns[m]? = some n from ha]
    rfl
end
end G
namespace G
open PySem L2
theorem ite_dec {c A B : Prop} [Decidable c] (h1 : c → A) (h2 : ¬ c → B) : if decide c = true then A else B := by
  by_cases h : c
  · rw [if_pos (decide_eq_true h)]; exact h1 h
  · rw [if_neg (by simp [h])]; exact h2 h
theorem ite_ndec {c A B : Prop} [Decidable c] (h1 : ¬ c → A) (h2 : c → B) : if (!decide c) = true then A else B := by
  by_cases h : c
  · rw [if_neg (by simp [h])]; exact h2 h
  · rw [if_pos (by simp [h])]; exact h1 h
theorem ite_b {b : Bool} {A B : Prop} (h1 : b = true → A) (h2 : b = false → B) : if b = true then A else B := by
  cases b with
  | true => exact iteT (h1 rfl)
  | false => exact iteF (h2 rfl)
theorem cmul_l {i j : Int} (h : -(2 ^ 64) < i) (h' : i < 2 ^ 64) : CMul i j := .inl ⟨h, h'⟩
theorem cmul_r {i j : Int} (h : -(2 ^ 64) < j) (h' : j < 2 ^ 64) : CMul i j := .inr ⟨h, h'⟩
theorem cdiv_of {i j : Int} {b : Nat} (h : 0 < j) (hb : j < 2 ^ b) (h0 : 0 < b) (h9 : b ≤ 9000) : CDivW i j := by
  refine wide_div h (b := b) ?_ h0 h9
  have e : ((2 : Int) ^ b) = ((2 ^ b : Nat) : Int) := by simp
  rw [e] at hb
  omega
end G
namespace G
open PySem L2
theorem les_nil : Les [] [] := trivial
theorem les_none {o : Option Gp} {Γ Γp : Ga} (l : Les Γ Γp) : Les (o :: Γ) (none :: Γp) := by cases o <;> exact l
theorem les_some {g g' : Gp} {Γ Γp : Ga} (e : Ent g g') (l : Les Γ Γp) : Les (some g :: Γ) (some g' :: Γp) := ⟨e, l⟩
end G
namespace G
open PySem L2
theorem ws_urn {Γ : Ga} {P : Nat → Bool} {t : TS} {D : Pe} {i m : Nat} (h : Γ[i]? = some (some (urn m))) (c : ∀ a b c : Int, 0 ≤ c → c + (m : Int) ≤ 2 ^ 60 → WS P t (Γ.set i (some (own [.int a, .int b, .int c]))) D) : WS P t Γ D := by
  refine ws_open h fun ⟨a, b, d⟩ => ?_
  refine ws_when (i := i) (φ := 0 ≤ d ∧ d + (m : Int) ≤ 2 ^ 60) (g := own [.int a, .int b, .int d]) ?_ fun z => ?_
  · rw [set_eq, if_pos rfl, if_pos (List.getElem?_eq_some_iff.mp h).1]
  · rw [List.set_set]
    exact c a b d z.1 z.2
end G

namespace G
open PySem L2
/-! ### pairs of ints -/
def tieD (t : Int × Int) : PyData := .tuple [.int t.1, .int t.2]
theorem canLay_all : ∀ {ds : List PyData}, (∀ d ∈ ds, d.canLay0 = true) → PyData.canLayAll0 ds = true
  | [], _ => by simp [PyData.canLayAll0]
  | d :: ds, h => by
    have h1 := h d (by simp)
    have h2 := canLay_all (ds := ds) fun e he => h e (List.mem_cons_of_mem _ he)
    simp [PyData.canLayAll0, h1, h2]
theorem depth_all {n : Nat} : ∀ {ds : List PyData}, (∀ d ∈ ds, d.depth ≤ n) → PyData.depthAll ds ≤ n
  | [], _ => by simp [PyData.depthAll]
  | d :: ds, h => by
    have h1 := h d (by simp)
    have h2 := depth_all (n := n) (ds := ds) fun e he => h e (by simp [he])
    simp only [PyData.depthAll]
    omega
/-- what may be compared: no dict within, so deep -/
structure Lay (n : Nat) (d : PyData) : Prop where
  lay : d.canLay0 = true
  dep : d.depth ≤ n
theorem Lay.shaped {n : Nat} {d : PyData} (h : Lay n d) (hn : n ≤ 64 := by decide) : SeqAt.shaped d = true := by
  show (d.canLay0 && decide (d.depth ≤ 64)) = true
  rw [Bool.and_eq_true]
  exact ⟨h.lay, decide_eq_true (Nat.le_trans h.dep hn)⟩
theorem lay_list {n : Nat} {ds : List PyData} (h : ∀ d ∈ ds, Lay n d) : Lay (n + 1) (.list ds) := ⟨by simp only [PyData.canLay0]; exact canLay_all fun d hd => (h d hd).lay, by
  simp only [PyData.depth]
  have := depth_all (n := n) (ds := ds) fun d hd => (h d hd).dep
  omega⟩
theorem lay_tuple {n : Nat} {ds : List PyData} (h : ∀ d ∈ ds, Lay n d) : Lay (n + 1) (.tuple ds) := ⟨by simp only [PyData.canLay0]; exact canLay_all fun d hd => (h d hd).lay, by
  simp only [PyData.depth]
  have := depth_all (n := n) (ds := ds) fun d hd => (h d hd).dep
  omega⟩
theorem Lay.up {n m : Nat} {d : PyData} (h : Lay n d) (hm : n ≤ m) : Lay m d := ⟨h.lay, Nat.le_trans h.dep hm⟩
theorem lay_int {i : Int} : Lay 0 (.int i) := ⟨by simp [PyData.canLay0], by simp [PyData.depth]⟩
theorem lay_none : Lay 0 .none := ⟨by simp [PyData.canLay0], by simp [PyData.depth]⟩
theorem lay_str {i : Str} (h : PyData.strOk i = true) : Lay 0 (.str i) := ⟨by simp [PyData.canLay0, h], by simp [PyData.depth]⟩
theorem lay_tie {t : Int × Int} : Lay 1 (tieD t) := lay_tuple fun d hd => by
  simp at hd
  rcases hd with rfl | rfl <;> exact lay_int
theorem lay_ties {ts : List (Int × Int)} : Lay 2 (.list (ts.map tieD)) := lay_list fun d hd => by
  obtain ⟨t, _, rfl⟩ := List.mem_map.mp hd
  exact lay_tie
theorem lay_ints {ns : List Int} : Lay 1 (.list (ns.map .int)) := lay_list fun d hd => by
  obtain ⟨t, _, rfl⟩ := List.mem_map.mp hd
  exact lay_int
theorem eqv_tie {s t : Int × Int} : PyData.eqv (tieD s) (tieD t) = decide (s = t) := by
  obtain ⟨a, b⟩ := s
  obtain ⟨c, d⟩ := t
  show (PyData.eqv (.tuple [.int a, .int b]) (.tuple [.int c, .int d])) = _
  simp only [PyData.eqv, PyData.eqvAll, Bool.and_true]
  by_cases h1 : a = c <;> by_cases h2 : b = d <;> simp [h1, h2]
theorem eqvAll_inj {α : Type} [DecidableEq α] {f : α → PyData} (h : ∀ x y, PyData.eqv (f x) (f y) = decide (x = y)) : ∀ {xs ys : List α}, PyData.eqvAll (xs.map f) (ys.map f) = decide (xs = ys)
  | [], [] => by simp [PyData.eqvAll]
  | [], _ :: _ => by simp [PyData.eqvAll]
  | _ :: _, [] => by simp [PyData.eqvAll]
  | x :: xs, y :: ys => by
    simp only [List.map_cons, PyData.eqvAll, h, eqvAll_inj h]
    by_cases h1 : x = y <;> by_cases h2 : xs = ys <;> simp [h1, h2]
theorem eqv_list_inj {α : Type} [DecidableEq α] {f : α → PyData} (h : ∀ x y, PyData.eqv (f x) (f y) = decide (x = y)) {xs ys : List α} : PyData.eqv (.list (xs.map f)) (.list (ys.map f)) = decide (xs = ys) := by
  simp only [PyData.eqv]
  exact eqvAll_inj h
theorem eqv_ints {xs ys : List Int} : PyData.eqv (.list (xs.map .int)) (.list (ys.map .int)) = decide (xs = ys) := eqv_list_inj fun _ _ => eqv_int
theorem any_inj {α : Type} [BEq α] [LawfulBEq α] [DecidableEq α] {f : α → PyData} (h : ∀ x y, PyData.eqv (f x) (f y) = decide (x = y)) {xs : List α} {y : α} : ((xs.map f).any fun z => PyData.eqv z (f y)) = decide (y ∈ xs) := by
  induction xs with
  | nil => simp
  | cons x xs ih =>
    rw [List.map_cons, List.any_cons, ih, h]
    by_cases h1 : x = y
    · simp [h1]
    · have : ¬ y = x := fun e => h1 e.symm
      simp [h1, this]
theorem any_ties {ts : List (Int × Int)} {t : Int × Int} : ((ts.map tieD).any fun z => PyData.eqv z (tieD t)) = decide (t ∈ ts) := by rw [any_inj fun _ _ => eqv_tie]
/-! ### sorted of pairs -/
def LexLe (a b : Int × Int) : Prop := a.1 < b.1 ∨ (a.1 = b.1 ∧ a.2 ≤ b.2)
def LexLt (a b : Int × Int) : Prop := a.1 < b.1 ∨ (a.1 = b.1 ∧ a.2 < b.2)
def keyP (A : Hp) : V → Int × Int
  | .ref t => match A t with
    | some (.tup [.int i, .int j]) => (i, j)
    | _ => (0, 0)
  | _ => (0, 0)
theorem key_tie {A : Hp} {v : V} {t : Int × Int} (h : DR A v (tieD t)) : keyP A v = t ∧ ∃ a, v = .ref a ∧ A a = some (.tup [.int t.1, .int t.2]) := by
  obtain ⟨a, xs, rfl, ha, hx⟩ := DR.tup_inv h
  cases hx with | cons x y =>
  cases y with | cons z y =>
  cases y
  cases x.int_inv
  cases z.int_inv
  refine ⟨?_, a, rfl, ha⟩
  show (match A a with | some (.tup [.int i, .int j]) => (i, j) | _ => (0, 0)) = t
  rw [ha]
theorem key_ties {A : Hp} : ∀ {vs : List V} {ts : List (Int × Int)}, DRs A vs (ts.map tieD) → vs.map (keyP A) = ts
  | _, [], h => by cases h; rfl
  | _, t :: ts, h => by cases h with | cons x y => rw [List.map_cons, (key_tie x).1, key_ties y]
theorem DRs.mem {H : Hp} : ∀ {ds : List PyData} {vs : List V} {v : V}, DRs H vs ds → v ∈ vs → ∃ d ∈ ds, DR H v d
  | [], _, _, h, e => by cases h; simp at e
  | d :: ds, _, v, h, e => by
    cases h with | cons a b =>
    rcases List.mem_cons.mp e with rfl | e
    · exact ⟨d, by simp, a⟩
    · obtain ⟨d', h1, h2⟩ := DRs.mem b e
      exact ⟨d', by simp [h1], h2⟩
theorem cb_sortP {ts : List (Int × Int)} {K : PySem.W.Frag} : CbL (rSortA K) [.list (ts.map tieD)] (fun es => ∃ ts' : List (Int × Int), es = ts'.map tieD ∧ ts'.Perm ts ∧ ts'.Pairwise LexLe) := fun A H vs s h Q f => by
  cases h with | cons x y =>
  cases y
  obtain ⟨a, xs, rfl, ha, hd⟩ := x.lst_inv
  have hk : ∀ x ∈ xs, ∃ t : Int × Int, DR A x (tieD t) := fun x hx => by
    obtain ⟨d, h1, h2⟩ := hd.mem hx
    obtain ⟨t, _, rfl⟩ := List.mem_map.mp h1
    exact ⟨t, h2⟩
  refine .inr ⟨a, xs, keyP A, rfl, SqL.of (s _ _ ha), fun x hx => ?_, fun ys p hs hst hp => ?_⟩
  · obtain ⟨t, ht⟩ := hk x hx
    obtain ⟨e, b, eb, hb⟩ := key_tie ht
    rw [e]
    exact ⟨b, eb, s _ _ hb⟩
  · have hp' := hst.perm
    have hy : ∀ y ∈ ys, ∃ t : Int × Int, DR A y (tieD t) := fun y hy => hk y (hp'.mem_iff.mp hy)
    have hdr : ∀ {zs : List V}, (∀ y ∈ zs, ∃ t : Int × Int, DR A y (tieD t)) → DRs A zs ((zs.map (keyP A)).map tieD) := fun {zs} hz => by
      induction zs with
      | nil => exact .nil
      | cons z zs ih =>
        obtain ⟨t, ht⟩ := hz z (by simp)
        refine .cons ?_ (ih fun y h => hz y (by simp [h]))
        rw [(key_tie ht).1]
        exact ht
    refine f _ ys p ⟨ys.map (keyP A), rfl, ?_, ?_⟩ (hdr hy) hp
    · rw [← key_ties hd]
      exact hp'.map _
    · rw [List.pairwise_map]
      refine hs.imp fun {x y} hxy => ?_
      have e := SrtO.lexB_no.mp hxy
      unfold LexLe
      omega
section
variable {Γ : Ga} {k : Gp → Ga → Prop} {ta tb te : TE} {K : PySem.W.Frag}
theorem ck_sortP {ts : List (Int × Int)} (hk : ∀ ts' : List (Int × Int), ts'.Perm ts → ts'.Pairwise LexLe → k (own (ts'.map tieD)) Γ) : CbK (rSortA K) [.list (ts.map tieD)] k Γ := ck_L cb_sortP fun es ⟨ts', e, h1, h2⟩ => by subst e; exact hk ts' h1 h2
/-- list(range(n)) -/
def upTo (n : Int) : List Int := (List.range n.toNat).map fun (i : Nat) => (i : Int)
theorem we_upTo (h : WQ ta Γ fun q Γ1 => ∃ n : Int, q = dP (.int n) ∧ (0 ≤ n ∧ n ≤ 1000000) ∧ k (own ((upTo n).map .int)) Γ1) : WE (tLstRg (tRg1 ta)) Γ k := fun ω σ H S Q f => h ω σ H S _ fun v q Γ1 ω1 H1 ⟨n, e, ⟨h0, h1⟩, hk⟩ S1 p f1 => by
  subst e
  cases DR.int_inv p
  refine ⟨n, rfl, ⟨by omega, by omega, by omega, by omega, by omega⟩, fun l hl => ?_⟩
  have er : rgV 0 n = (upTo n).map V.int := by
    unfold rgV upTo
    rw [List.map_map, Int.sub_zero]
    refine List.map_congr_left fun i _ => ?_
    show V.int (0 + (i : Int)) = V.int (i : Int)
    rw [Int.zero_add]
  rw [er]
  exact f _ _ Γ1 (paint ω1 l 2) _ hk (S1.new 2 hl) ⟨l, _, rfl, paint_at, DRs.of_ints⟩ (f1.trans (paint_fr hl))
theorem mem_upTo {n x : Int} : x ∈ upTo n ↔ 0 ≤ x ∧ x < n := by
  unfold upTo
  rw [List.mem_map]
  constructor
  · rintro ⟨i, hi, rfl⟩
    have := List.mem_range.mp hi
    omega
  · rintro ⟨h0, h1⟩
    exact ⟨x.toNat, List.mem_range.mpr (by omega), by omega⟩
theorem upTo_length {n : Int} : (upTo n).length = n.toNat := by unfold upTo; rw [List.length_map, List.length_range]
theorem upTo_nodup {n : Int} : (upTo n).Nodup := by
  unfold upTo
  exact List.Pairwise.map _ (fun (a b : Nat) h e => h (by omega)) List.nodup_range
end
/-- sorted and all different: strictly sorted -/
theorem lex_strict {ts : List (Int × Int)} (h : ts.Pairwise LexLe) (n : ts.Nodup) : ts.Pairwise LexLt := by
  have := h.and n
  refine this.imp fun {a b} ⟨h1, h2⟩ => ?_
  unfold LexLe at h1
  unfold LexLt
  rcases h1 with h1 | ⟨h1, h3⟩
  · exact .inl h1
  · refine .inr ⟨h1, ?_⟩
    have : a.2 ≠ b.2 := fun e => h2 (Prod.ext h1 e)
    omega
/-- two strictly sorted lists of the same items are one -/
theorem lex_uniq {ts us : List (Int × Int)} (h : ts.Pairwise LexLe) (h' : us.Pairwise LexLe) (p : ts.Perm us) : ts = us :=
  List.Perm.eq_of_pairwise (fun a b _ _ h1 h2 => by
    unfold LexLe at h1 h2
    refine Prod.ext ?_ ?_ <;> omega) h h' p
theorem LexLt.le {a b : Int × Int} (h : LexLt a b) : LexLe a b := by
  unfold LexLt at h
  unfold LexLe
  omega
/-- the ties of a web with so many places -/
structure Ties (p : Int) (ts : List (Int × Int)) : Prop where
  srt : ts.Pairwise LexLt
  ok : ∀ t ∈ ts, 0 ≤ t.1 ∧ t.1 < t.2 ∧ t.2 < p
end G
namespace G
open PySem L2
/-- what a slot owns is handed on -/
theorem we_varM {Γ : Ga} {k : Gp → Ga → Prop} {i : Nat} {g : Gp} (h : Γ[i]? = some (some g)) (c : k g (Γ.set i none)) : WE (tVar i) Γ k := fun ω σ H S Q f => by
  obtain ⟨v, e, p⟩ := S.2 i _ h
  have s0 : Same (vw ω H 0) (vw (give ω (i + 3) 2) H 0) := give_ne (by omega) (by omega)
  refine ⟨v, e, f v g _ (give ω (i + 3) 2) H c ⟨by rw [List.length_set]; exact S.1, fun j g' hj => ?_⟩ (g.mono s0 give_c p) ⟨s0, give_ne (by omega) (by omega)⟩⟩
  rw [set_eq] at hj
  by_cases hij : i = j
  · rw [if_pos hij] at hj
    split at hj <;> cases hj
  · rw [if_neg hij] at hj
    obtain ⟨w, e', p'⟩ := S.2 j _ hj
    exact ⟨w, e', g'.mono s0 (give_ne (by omega) (by omega)) p'⟩
theorem cpow_of {i j : Int} (h0 : 0 ≤ j) (h1 : j ≤ 1000000) (h2 : i.natAbs < 2 ^ 64) : CPow i j := ⟨h0, h1, h2⟩
end G
namespace G
open PySem L2
theorem nd0 : ([] : List Nat).Nodup := List.nodup_nil
theorem nd1 {i : Nat} : [i].Nodup := by simp
theorem erase_perm {α : Type} : ∀ {l : List α} {j : Nat} {d : α}, l[j]? = some d → (d :: l.eraseIdx j).Perm l
  | [], _, _, h => by simp at h
  | a :: l, 0, d, h => by
    simp at h
    subst h
    exact List.Perm.refl _
  | a :: l, j + 1, d, h => by
    have ih := erase_perm (l := l) (j := j) (d := d) (by simpa using h)
    rw [List.eraseIdx_cons_succ]
    exact (List.Perm.swap a d _).trans (ih.cons a)
theorem perm_pick {α : Type} {found left ds : List α} {d : α} {j : Nat} (hp : (found ++ left).Perm ds) (hj : left[j]? = some d) : (found ++ [d] ++ left.eraseIdx j).Perm ds := by
  refine List.Perm.trans ?_ hp
  rw [List.append_assoc]
  refine List.Perm.append_left found ?_
  exact erase_perm hj
end G
namespace G
open PySem L2
theorem ws_cut {P : Nat → Bool} {t u : TS} {Γ : Ga} {D : Pe} (M : Ga → Prop) (h1 : WS P t Γ (D.to M)) (h2 : ∀ Γ', M Γ' → WS P u Γ' D) : WS P (tSeq t u) Γ D := fun ω σ H S E m =>
  h1 ω σ H S { E with nx := u E } ⟨fun Γ' ω' σ' H' hk S' f p => h2 Γ' hk ω' σ' H' S' E (m.after f p), m.rt, m.bk, m.ct⟩
theorem urn_le {m m' : Nat} (h : m' ≤ m) : Ent (urn m) (urn m') := fun A v R ⟨x, z, p⟩ => ⟨x, ⟨z.1, by have := z.2; omega⟩, p⟩
end G
namespace G
open PySem L2
theorem wa_slotU {Γ : Ga} {ka : List Arg → Ga → Prop} {tr : TA} {i m : Nat} (hi : Γ[i]? = some (some (urn m))) (h : WA tr Γ fun as Γ2 => ka (.s i :: as) Γ2) : WA (tCons (tVar i) tr) Γ ka := wa_slot ⟨_, hi⟩ h
end G
namespace G
open PySem L2
theorem ws_seqA {P : Nat → Bool} {te : TE} {g : TG} {u : TS} {Γ : Ga} {D : Pe} (h : WS P (tAsg te g) Γ (D.to fun Γ' => WS P u Γ' D)) : WS P (tSeq (tAsg te g) u) Γ D := ws_seq h
theorem ws_seqD {P : Nat → Bool} {te : TE} {u : TS} {Γ : Ga} {D : Pe} (h : WS P (tDrop te) Γ (D.to fun Γ' => WS P u Γ' D)) : WS P (tSeq (tDrop te) u) Γ D := ws_seq h
end G
namespace G
open PySem L2
section
variable {K : PySem.W.Frag} {Γ : Ga} {k : Gp → Ga → Prop} {ta tb : TE}
theorem we_inS {i : Nat} {ds0 : List PyData} (hi : Γ[i]? = some (some (own ds0))) (h : WQ ta Γ fun q Γ1 => ∃ d, q = dP d ∧ ∃ ds, Γ1[i]? = some (some (own ds)) ∧ (SeqAt.shaped d = true ∧ SeqAt.shaped (.list ds) = true) ∧ k (dat (.bool (ds.any fun z => PyData.eqv z d))) Γ1) : WE (tOp (rInD K) ta (tVar i)) Γ k :=
  we_opR (h.imp fun q Γ1 ⟨d, e, ds, h1, h2, h3⟩ => ⟨d, e, ds, _, h1, od_in h2.1 h2.2, h3⟩)
theorem we_notInS {i : Nat} {ds0 : List PyData} (hi : Γ[i]? = some (some (own ds0))) (h : WQ ta Γ fun q Γ1 => ∃ d, q = dP d ∧ ∃ ds, Γ1[i]? = some (some (own ds)) ∧ (SeqAt.shaped d = true ∧ SeqAt.shaped (.list ds) = true) ∧ k (dat (.bool (!ds.any fun z => PyData.eqv z d))) Γ1) : WE (tOp (rNotInD K) ta (tVar i)) Γ k :=
  we_opR (h.imp fun q Γ1 ⟨d, e, ds, h1, h2, h3⟩ => ⟨d, e, ds, _, h1, od_notIn h2.1 h2.2, h3⟩)
theorem we_eqS {i : Nat} {ds : List PyData} (hi : Γ[i]? = some (some (own ds))) (h : WQ tb Γ fun q Γ1 => ∃ d, q = dP d ∧ Γ1[i]? = some (some (own ds)) ∧ (SeqAt.shaped (.list ds) = true ∧ SeqAt.shaped d = true) ∧ k (dat (.bool (PyData.eqv (.list ds) d))) Γ1) : WE (tOp (rEqD K) (tVar i) tb) Γ k :=
  we_opL hi (h.imp fun q Γ1 ⟨d, e, h1, h2, h3⟩ => ⟨d, e, _, h1, od_eq h2.1 h2.2, h3⟩)
theorem we_neS {i : Nat} {ds : List PyData} (hi : Γ[i]? = some (some (own ds))) (h : WQ tb Γ fun q Γ1 => ∃ d, q = dP d ∧ Γ1[i]? = some (some (own ds)) ∧ (SeqAt.shaped (.list ds) = true ∧ SeqAt.shaped d = true) ∧ k (dat (.bool (!PyData.eqv (.list ds) d))) Γ1) : WE (tOp (rNeD K) (tVar i) tb) Γ k :=
  we_opL hi (h.imp fun q Γ1 ⟨d, e, h1, h2, h3⟩ => ⟨d, e, _, h1, od_ne h2.1 h2.2, h3⟩)
end
end G

namespace G
open PySem L2
theorem un65 {k : Nat} {A : Around} (hr : Room k A) : A.units + 65 < cLine := by have := hr.un; omega
theorem bt_len : bootBuiltins "len" = some (.builtin "len") := by decide +kernel
theorem bt_max : bootBuiltins "max" = some (.builtin "max") := by decide +kernel
theorem bt_min : bootBuiltins "min" = some (.builtin "min") := by decide +kernel
theorem bt_sorted : bootBuiltins "sorted" = some (.builtin "sorted") := by decide +kernel
theorem bt_all : bootBuiltins "all" = some (.builtin "all") := by decide +kernel
theorem bt_isinstance : bootBuiltins "isinstance" = some (.builtin "isinstance") := by decide +kernel
theorem bt_int : bootBuiltins "int" = some (.type "int") := by decide +kernel
theorem bt_bool : bootBuiltins "bool" = some (.type "bool") := by decide +kernel
theorem bt_list : bootBuiltins "list" = some (.type "list") := by decide +kernel
theorem bt_tuple : bootBuiltins "tuple" = some (.type "tuple") := by decide +kernel
/-! ### isinstance, all -/
abbrev rIsiA (K : PySem.W.Frag) : List V → Hp → VK → Prop := rIsi K
abbrev rAllA (K : PySem.W.Frag) : List V → Hp → VK → Prop := rAll K
theorem c_isi {X : Cx} : CallR X (.builtin "isinstance") (rIsiA X.K) := call_isi
theorem c_all {X : Cx} (hc : X.calm = true) : CallR X (.builtin "all") (rAllA X.K) := cr_all hc
def tyD : PyData → Option String
  | .none => some "NoneType"
  | .bool _ => some "bool"
  | .int _ => some "int"
  | .str _ => some "str"
  | .list _ => some "list"
  | .tuple _ => some "tuple"
  | .dict _ => some "dict"
theorem tyD_ok {K : PySem.W.Frag} {H : Hp} {v : V} {d : PyData} {n : String} (h : DR H v d) (e : tyD d = some n) : TyX K H v (.type n) := by
  cases h with
  | non => cases e; exact .base .non
  | bl b => cases e; exact .base (.bl b)
  | int i => cases e; exact .base (.int i)
  | str x => cases e; exact .base (.str x)
  | lst a b => cases e; exact .base (.lst a)
  | tup a b => cases e; exact .base (.tup a)
  | dic a => cases e; exact .base (.dK a)
section
variable {K : PySem.W.Frag} {Γ : Ga} {k : Gp → Ga → Prop} {ta tb te : TE} {tr : TA}
theorem we_isi {m : String} (h : WQ ta Γ fun q Γ1 => ∃ d, q = dP d ∧ ∃ n b, tyD d = some n ∧ kitB n m = some b ∧ k (dat (.bool b)) Γ1) : WE (tCB (rIsiA K) (tCons ta (tCons (tC (.ty m)) tNil))) Γ k := fun ω σ H S Q f => h ω σ H S _ fun v q Γ1 ω1 H1 ⟨d, e, n, b, e1, e2, hk⟩ S1 p f1 => by
  subst e
  exact ⟨v, .ty m, .type n, .type m, b, rfl, .ty m, tyD_ok (DR.mono (fun _ _ z => vw_H z) d p) e1, kit_ty e2, f _ _ Γ1 ω1 H1 hk S1 (DR.bl b) f1⟩
theorem kb_ii : kitB "int" "int" = some true := by decide +kernel
theorem kb_bi : kitB "bool" "int" = some true := by decide +kernel
theorem kb_ni : kitB "NoneType" "int" = some false := by decide +kernel
theorem kb_si : kitB "str" "int" = some false := by decide +kernel
theorem kb_li : kitB "list" "int" = some false := by decide +kernel
theorem kb_ti : kitB "tuple" "int" = some false := by decide +kernel
theorem kb_bb : kitB "bool" "bool" = some true := by decide +kernel
theorem kb_nl : kitB "NoneType" "list" = some false := by decide +kernel
theorem kb_bl : kitB "bool" "list" = some false := by decide +kernel
theorem kb_il : kitB "int" "list" = some false := by decide +kernel
theorem kb_sl : kitB "str" "list" = some false := by decide +kernel
theorem kb_ll : kitB "list" "list" = some true := by decide +kernel
theorem kb_tl : kitB "tuple" "list" = some false := by decide +kernel
theorem kb_nt : kitB "NoneType" "tuple" = some false := by decide +kernel
theorem kb_bt : kitB "bool" "tuple" = some false := by decide +kernel
theorem kb_it : kitB "int" "tuple" = some false := by decide +kernel
theorem kb_st : kitB "str" "tuple" = some false := by decide +kernel
theorem kb_lt : kitB "list" "tuple" = some false := by decide +kernel
theorem kb_tt : kitB "tuple" "tuple" = some true := by decide +kernel
def isInt : PyData → Bool
  | .int _ => true
  | .bool _ => true
  | _ => false
def isBl : PyData → Bool
  | .bool _ => true
  | _ => false
def isLst : PyData → Bool
  | .list _ => true
  | _ => false
def isTup : PyData → Bool
  | .tuple _ => true
  | _ => false
theorem kb_dint : kitB "dict" "int" = some false := by decide +kernel
theorem isi_int : ∀ {d : PyData}, (tyD d).isSome = true → ∃ n, tyD d = some n ∧ kitB n "int" = some (isInt d)
  | .none, _ => ⟨_, rfl, kb_ni⟩
  | .bool _, _ => ⟨_, rfl, kb_bi⟩
  | .int _, _ => ⟨_, rfl, kb_ii⟩
  | .str _, _ => ⟨_, rfl, kb_si⟩
  | .list _, _ => ⟨_, rfl, kb_li⟩
  | .tuple _, _ => ⟨_, rfl, kb_ti⟩
  | .dict _, _ => ⟨_, rfl, kb_dint⟩
theorem kb_dlist : kitB "dict" "list" = some false := by decide +kernel
theorem isi_list : ∀ {d : PyData}, (tyD d).isSome = true → ∃ n, tyD d = some n ∧ kitB n "list" = some (isLst d)
  | .none, _ => ⟨_, rfl, kb_nl⟩
  | .bool _, _ => ⟨_, rfl, kb_bl⟩
  | .int _, _ => ⟨_, rfl, kb_il⟩
  | .str _, _ => ⟨_, rfl, kb_sl⟩
  | .list _, _ => ⟨_, rfl, kb_ll⟩
  | .tuple _, _ => ⟨_, rfl, kb_tl⟩
  | .dict _, _ => ⟨_, rfl, kb_dlist⟩
theorem kb_dtuple : kitB "dict" "tuple" = some false := by decide +kernel
theorem isi_tuple : ∀ {d : PyData}, (tyD d).isSome = true → ∃ n, tyD d = some n ∧ kitB n "tuple" = some (isTup d)
  | .none, _ => ⟨_, rfl, kb_nt⟩
  | .bool _, _ => ⟨_, rfl, kb_bt⟩
  | .int _, _ => ⟨_, rfl, kb_it⟩
  | .str _, _ => ⟨_, rfl, kb_st⟩
  | .list _, _ => ⟨_, rfl, kb_lt⟩
  | .tuple _, _ => ⟨_, rfl, kb_tt⟩
  | .dict _, _ => ⟨_, rfl, kb_dtuple⟩
theorem DR.ty {H : Hp} {v : V} {d : PyData} (h : DR H v d) : (tyD d).isSome = true := by cases h <;> rfl
/-- isinstance(x, int), (.., list), (.., tuple) of any data: the answer -/
theorem we_isInt (h : WQ ta Γ fun q Γ1 => ∃ d, q = dP d ∧ k (dat (.bool (isInt d))) Γ1) : WE (tCB (rIsiA K) (tCons ta (tCons (tC (.ty "int")) tNil))) Γ k := fun ω σ H S Q f => h ω σ H S _ fun v q Γ1 ω1 H1 ⟨d, e, hk⟩ S1 p f1 => by
  subst e
  obtain ⟨n, e1, e2⟩ := isi_int (DR.ty p)
  exact ⟨v, .ty "int", .type n, .type "int", _, rfl, .ty "int", tyD_ok (DR.mono (fun _ _ z => vw_H z) d p) e1, kit_ty e2, f _ _ Γ1 ω1 H1 hk S1 (DR.bl _) f1⟩
theorem we_isLst (h : WQ ta Γ fun q Γ1 => ∃ d, q = dP d ∧ k (dat (.bool (isLst d))) Γ1) : WE (tCB (rIsiA K) (tCons ta (tCons (tC (.ty "list")) tNil))) Γ k := fun ω σ H S Q f => h ω σ H S _ fun v q Γ1 ω1 H1 ⟨d, e, hk⟩ S1 p f1 => by
  subst e
  obtain ⟨n, e1, e2⟩ := isi_list (DR.ty p)
  exact ⟨v, .ty "list", .type n, .type "list", _, rfl, .ty "list", tyD_ok (DR.mono (fun _ _ z => vw_H z) d p) e1, kit_ty e2, f _ _ Γ1 ω1 H1 hk S1 (DR.bl _) f1⟩
theorem we_isTup (h : WQ ta Γ fun q Γ1 => ∃ d, q = dP d ∧ k (dat (.bool (isTup d))) Γ1) : WE (tCB (rIsiA K) (tCons ta (tCons (tC (.ty "tuple")) tNil))) Γ k := fun ω σ H S Q f => h ω σ H S _ fun v q Γ1 ω1 H1 ⟨d, e, hk⟩ S1 p f1 => by
  subst e
  obtain ⟨n, e1, e2⟩ := isi_tuple (DR.ty p)
  exact ⟨v, .ty "tuple", .type n, .type "tuple", _, rfl, .ty "tuple", tyD_ok (DR.mono (fun _ _ z => vw_H z) d p) e1, kit_ty e2, f _ _ Γ1 ω1 H1 hk S1 (DR.bl _) f1⟩
theorem DRs.bools : ∀ {bs : List Bool} {vs : List V}, DRs H vs (bs.map PyData.bool) → vs = bs.map V.bl
  | [], _, h => by cases h; rfl
  | n :: ns, _, h => by
    cases h with | cons a b => cases a; rw [DRs.bools b]; rfl
theorem ck_all {bs : List Bool} (hk : k (dat (.bool (bs.all id))) Γ) : CbK (rAllA K) [.list (bs.map .bool)] k Γ := ck_of (q := dP (.bool (bs.all id))) (fun A H vs s h Q f => by
  cases h with | cons x y =>
  cases y
  obtain ⟨a, xs, rfl, ha, hd⟩ := x.lst_inv
  rw [hd.bools] at ha
  exact ⟨a, bs, rfl, SqL.of (s _ _ ha), f _ (DR.bl _)⟩) hk
end
end G

/-! ### len(o) by an own __len__ -/
namespace GLen
open PySem PySem.Spec PyProof.Rows L2 PySem.Builtin
theorem len_at {prog : Program} {w : World} {A : Around} {E : Value → Shared → Prop} {s : Shared} {K : PySem.W.Frag} {x C f : Addr} {ox : Obj} {odd : Option Obj} {Q : Value → Shared → Prop}
    (kin : K.In s.heap) (at_ : PySem.W.InstAt s.heap x ox C odd) (hs : PySem.W.findIn K (.ref C) "__len__" = some (some (.ref f))) (hf : PySem.W.isFn K (.ref f) = true)
    (h : wpAny (model prog w) A.in1 (call (.ref f) [.ref x]) (fun r s' => ∃ n u, r = .int n u ∧ 0 ≤ n ∧ n < 2 ^ 63 ∧ Q (.int n s'.toks) { s' with toks := s'.toks + 1 }) E s) :
    wpAny (model prog w) A (call (.builtin "len") [.ref x]) Q E s := by
  refine Calls.call_function_entry kind_len plain_len entry_len (args_len1 _) ?_
  unfold Builtin.«len»
  refine wpAny_bind (m := oneArg "len" _) (wpAny_pure ?_)
  refine wpAny_bind (m := callSpecial? (.ref x) (Str.ofString "__len__")) (PySem.W.special_fn kin at_ hs (beq_iff_eq.mp hf) (wpAny_mono h (fun r s' hr => ?_) fun _ _ y => y))
  obtain ⟨n, u, rfl, h0, h1, hq⟩ := hr
  refine wpAny_bind (wpAny_holding (wpAny_pure ?_))
  refine wpAny_bind (wpAny_letGo ?_)
  show wpAny _ _ (if n < 0 then _ else _) _ _ _
  rw [if_neg (by omega)]
  show wpAny _ _ (if n ≥ 2 ^ 63 then _ else _) _ _ _
  rw [if_neg (by omega)]
  exact wpAny_bind (wpAny_mkInt (wpAny_pure ⟨_, rfl, hq⟩))
end GLen
namespace G
open PySem L2
/-- len of an instance of the class at C, by its own def -/
def rLenOwn (C : Addr) (sp : Sp) (E : XK) : List V → Hp → VK → Prop := fun xs H Q => ∃ a dx fs, xs = [V.ref a] ∧ H a = some (.ins C dx fs) ∧ sp [.ref a] H (fun z H' => ∃ n : Int, z = .int n ∧ 0 ≤ n ∧ n < 2 ^ 63 ∧ Q (.int n) H') E
theorem c_lenOwn {X : Cx} {CX : CXT} {k : Nat} {C f : Addr} {fd : FuncData} {ps : List Str} {sp : Sp} {E : XK} (hs : PySem.W.findIn X.K (.ref C) "__len__" = some (some (.ref f))) (hf : PySem.W.isFn X.K (.ref f) = true)
    (F : FnOk X.prog X.w X.K X.mg X.base CX k f fd ps sp) (hr : Room (k + 1) X.A) (hb : Binds X.K fd ps []) (hx : Passes CX X E) : CallR X (.builtin "len") (rLenOwn C sp E) := by
  intro pins s σ H xs us Q I r h
  obtain ⟨a, dx, fs, rfl, ha, q⟩ := h
  obtain ⟨u, rfl, ru⟩ := r.one
  cases (show u = Value.ref a from ru)
  obtain ⟨mA, O, _⟩ := ins_get I.hok ha
  obtain ⟨od, J, _⟩ := O.look
  have hl : ([Value.ref a] ++ []).length = ps.length := (F.len _ _ _ _ q)
  refine GLen.len_at I.kIn J hs hf (wpAny_call (codeAny_mono (F.run X.A.in1 X.stack s H ⟨[.ref a], []⟩ ([.ref a] ++ []) [.ref a] _ E hr.in1 I.env0.in1 (hb s [.ref a] I.kIn hl) (show Vals [V.ref a] ([Value.ref a] ++ []) from .cons rfl .nil) q) fun r s' hq => ?_))
  cases r with
  | error e => exact hx pins σ H s e s' I hq
  | ok fl =>
    cases fl with
    | next => exact False.elim hq
    | brk => exact False.elim hq
    | cont => exact False.elim hq
    | ret u =>
      obtain ⟨z, H', I', rz, n, e, h0, h1, hQ⟩ := I.after hq
      subst e
      obtain ⟨t, e⟩ := (show ∃ t, u = Value.int n t from rz)
      subst e
      exact ⟨n, t, rfl, h0, h1, .int n, H', I'.tok _, ⟨_, rfl⟩, hQ⟩

/-! ### instances: their attributes are data -/
inductive Fds (A : Hp) : List (Str × V) → List (Str × PyData) → Prop
  | nil : Fds A [] []
  | cons {f : Str} {v : V} {d : PyData} {fs : List (Str × V)} {ds : List (Str × PyData)} : DR A v d → Fds A fs ds → Fds A ((f, v) :: fs) ((f, d) :: ds)
theorem Fds.mono {A A' : Hp} (s : Same A A') : ∀ {fs : List (Str × V)} {ds : List (Str × PyData)}, Fds A fs ds → Fds A' fs ds
  | _, _, .nil => .nil
  | _, _, .cons a b => .cons (a.mono s) (Fds.mono s b)
theorem Fds.len {A : Hp} : ∀ {fs : List (Str × V)} {ds : List (Str × PyData)}, Fds A fs ds → fs.length = ds.length
  | _, _, .nil => rfl
  | _, _, .cons _ b => congrArg Nat.succ (Fds.len b)
def lookD (f : Str) : List (Str × PyData) → Option PyData
  | [] => none
  | (g, d) :: r => if g = f then some d else lookD f r
def putD (f : Str) (d : PyData) : List (Str × PyData) → List (Str × PyData)
  | [] => [(f, d)]
  | (g, e) :: r => if g = f then (g, d) :: r else (g, e) :: putD f d r
theorem Fds.look {A : Hp} {f : Str} : ∀ {fs : List (Str × V)} {ds : List (Str × PyData)} {d : PyData}, Fds A fs ds → lookD f ds = some d → ∃ v, fs.lookup f = some v ∧ DR A v d
  | _, _, _, .nil, h => by simp [lookD] at h
  | _, _, d, .cons (f := g) (v := v) a b, h => by
    unfold lookD at h
    by_cases e : g = f
    · rw [if_pos e] at h
      cases h
      exact ⟨v, by rw [List.lookup_cons, e, beq_self_eq_true], a⟩
    · rw [if_neg e] at h
      obtain ⟨v', h1, h2⟩ := Fds.look b h
      exact ⟨v', by rw [List.lookup_cons, beq_eq_false_iff_ne.mpr (Ne.symm e)]; exact h1, h2⟩
theorem Fds.none {A : Hp} {f : Str} : ∀ {fs : List (Str × V)} {ds : List (Str × PyData)}, Fds A fs ds → lookD f ds = none → fs.lookup f = none
  | _, _, .nil, _ => rfl
  | _, _, .cons (f := g) (v := v) a b, h => by
    unfold lookD at h
    by_cases e : g = f
    · rw [if_pos e] at h
      cases h
    · rw [if_neg e] at h
      rw [List.lookup_cons, beq_eq_false_iff_ne.mpr (Ne.symm e)]
      exact Fds.none b h
theorem Fds.put {A : Hp} {f : Str} {v : V} {d : PyData} : ∀ {fs : List (Str × V)} {ds : List (Str × PyData)}, Fds A fs ds → DR A v d → Fds A (putF f v fs) (putD f d ds)
  | _, _, .nil, h => .cons h .nil
  | _, _, .cons (f := g) (v := u) (d := e) (fs := fs) (ds := ds) a b, h => by
    show Fds A (if g = f then (g, v) :: fs else (g, u) :: putF f v fs) (if g = f then (g, d) :: ds else (g, e) :: putD f d ds)
    by_cases e : g = f
    · rw [if_pos e, if_pos e]
      exact .cons h b
    · rw [if_neg e, if_neg e]
      exact .cons a (Fds.put b h)
/-- an instance of one's own | one that stands still -/
def insG (C : Addr) (ds : List (Str × PyData)) : Gp := ⟨fun A v R => ∃ a dx fs, v = .ref a ∧ R a = some (.ins C dx fs) ∧ Fds A fs ds, fun s r ⟨a, dx, fs, e, h, t⟩ => ⟨a, dx, fs, e, r _ _ h, t.mono s⟩⟩
def objP (C : Addr) (ds : List (Str × PyData)) : Per := ⟨fun A v => ∃ a dx fs, v = .ref a ∧ A a = some (.ins C dx fs) ∧ Fds A fs ds, fun s ⟨a, dx, fs, e, h, t⟩ => ⟨a, dx, fs, e, s _ _ h, t.mono s⟩⟩
theorem frz_ins {C : Addr} {ds : List (Str × PyData)} : Frz (insG C ds) (objP C ds) := fun _ _ _ _ s r ⟨a, dx, fs, e, h, t⟩ => ⟨a, dx, fs, e, r _ _ h, t.mono s⟩
section
variable {K : PySem.W.Frag} {P : Nat → Bool} {Γ : Ga} {D : Pe} {k : Gp → Ga → Prop} {te tv : TE} {ta : TA} {C : Addr} {ds : List (Str × PyData)} {f m : Str} {n : Nat} {F : Fw} {E : XK}
/-- o.f -/
theorem we_fldP {i : Nat} {d : PyData} (c : Cls K C) (nA : NoAttr K C f) (h : Γ[i]? = some (some (per (objP C ds)))) (hl : lookD f ds = some d) (hk : k (dat d) Γ) : WE (tFld K (tVar i) f) Γ k := fun ω σ H S Q q => by
  obtain ⟨v, e, a, dx, fs, rfl, ha, hf⟩ := S.2 i _ h
  obtain ⟨u, hu, du⟩ := hf.look hl
  exact ⟨_, e, a, C, dx, fs, u, rfl, vw_H ha, c, nA, hu, q u _ Γ ω H hk S du Fr.refl⟩
theorem we_fldI {i : Nat} {d : PyData} (c : Cls K C) (nA : NoAttr K C f) (h : Γ[i]? = some (some (insG C ds))) (hl : lookD f ds = some d) (hk : k (dat d) Γ) : WE (tFld K (tVar i) f) Γ k := fun ω σ H S Q q => by
  obtain ⟨v, e, a, dx, fs, rfl, ha, hf⟩ := S.2 i _ h
  obtain ⟨u, hu, du⟩ := hf.look hl
  exact ⟨_, e, a, C, dx, fs, u, rfl, vw_H ha, c, nA, hu, q u _ Γ ω H hk S du Fr.refl⟩
/-- o.f = e, o one's own -/
theorem ws_fld {i : Nat} (c : Cls K C) (nA : NoAttr K C f) (h : WQ tv Γ fun q Γ1 => ∃ d ds, q = dP d ∧ Γ1[i]? = some (some (insG C ds)) ∧ ds.length < 1000 ∧ D.nx (Γ1.set i (some (insG C (putD f d ds))))) : WS P (sFld K (tVar i) tv f) Γ D := fun ω σ H S E m => h ω σ H S _ fun y q Γ1 ω1 H1 ⟨d, ds, eq, hi, hl, hk⟩ S1 p f1 => by
  subst eq
  obtain ⟨v, e, a, dx, fs, rfl, ha, hf⟩ := S1.2 i _ hi
  have ca := vw_c ha
  refine ⟨_, e, a, C, dx, fs, rfl, vw_H ha, c, nA, by rw [hf.len]; exact hl, ?_⟩
  have m0 : Same (vw ω1 H1 0) (vw ω1 (upd H1 a (.ins C dx (putF f y fs))) 0) := mut_same (by rw [ca]; omega)
  exact m.nx _ ω1 σ _ hk (S1.set m0 (fun j g hne _ => mut_same (by rw [ca]; omega)) e ⟨a, dx, _, rfl, vw_mk ca upd_same, (hf.put p).mono m0⟩) (f1.trans ⟨m0, mut_same (by rw [ca]; omega)⟩) Pin.refl
/-- a call with what stands still alone -/
theorem call_per {Γ1 : Ga} {ω1 : Col} {σ : L2.St} {H1 : Hp} {qs : List Per} {vs : List V} {Q : VK} {kx : Value → Prop} (S1 : Sta Γ1 ω1 σ H1) (hq : ∀ (j : Nat) (q : Per) (v : V), qs[j]? = some q → vs[j]? = some v → q.q (vw ω1 H1 0) v) (hl : vs.length = qs.length) (hn : qs.length = n)
    (hF : F (qs.map per) (fun g _ => k g Γ1) fun c _ => kx c)
    (c : ∀ v g ω' H', k g Γ1 → Sta Γ1 ω' σ H' → Gp.p g (vw ω' H' 0) v (vw ω' H' 2) → Fr ω1 ω' H1 H' → Q v H')
    (cx : ∀ cl ω' H', kx cl → Sta Γ1 ω' σ H' → Fr ω1 ω' H1 H' → E cl none H') : SpG n F vs H1 Q E := by
  have hns : ∀ qs : List Per, slots (qs.map Arg.q) = [] := fun qs => by
    induction qs with
    | nil => rfl
    | cons q qs ih => exact ih
  have hgs : ∀ qs : List Per, gsOf Γ1 (qs.map Arg.q) = qs.map per := fun qs => by
    induction qs with
    | nil => rfl
    | cons q qs ih => exact congrArg (per q :: ·) ih
  have hbk : ∀ (qs : List Per) (Γp : Ga), back Γ1 (qs.map Arg.q) Γp = Γ1 := fun qs => by
    induction qs with
    | nil => intro Γp; rfl
    | cons q qs ih => intro Γp; cases Γp with
      | nil => exact ih []
      | cons o r => exact ih r
  have hok : ∀ (qs : List Per) (vs : List V), vs.length = qs.length → (∀ (j : Nat) (q : Per) (v : V), qs[j]? = some q → vs[j]? = some v → q.q (vw ω1 H1 0) v) → ArgsOk σ (vw ω1 H1 0) (qs.map Arg.q) vs := fun qs => by
    induction qs with
    | nil => intro vs hl _; rw [List.eq_nil_of_length_eq_zero hl]; exact .nil
    | cons q qs ih => intro vs hl h; cases vs with
      | nil => cases hl
      | cons v vs => exact .cons (h 0 q v rfl rfl) (ih vs (Nat.succ.inj hl) fun j q' v' a b => h (j + 1) q' v' (by simpa using a) (by simpa using b))
  refine call_core (as := qs.map Arg.q) (k := fun g Γ' => Γ' = Γ1 ∧ k g Γ1) (kx := fun cl Γ' => Γ' = Γ1 ∧ kx cl) S1 (hok qs vs hl hq) (by rw [List.length_map]; exact hn) (by rw [hns]; exact List.nodup_nil) ?_ (fun v g Γ' ω' H' ⟨e, hk⟩ S' p f => ?_) fun cl Γ' ω' H' ⟨e, hx⟩ S' f => ?_
  · rw [hgs]
    have e1 : (fun g Γp => back Γ1 (qs.map Arg.q) Γp = Γ1 ∧ k g Γ1) = fun g _ => k g Γ1 := by
      funext g Γp
      rw [hbk]
      exact propext ⟨fun h => h.2, fun h => ⟨rfl, h⟩⟩
    have e2 : (fun cl Γp => back Γ1 (qs.map Arg.q) Γp = Γ1 ∧ kx cl) = fun cl _ => kx cl := by
      funext g Γp
      rw [hbk]
      exact propext ⟨fun h => h.2, fun h => ⟨rfl, h⟩⟩
    rw [e1, e2]
    exact hF
  · subst e
    exact c v g ω' H' hk S' p f
  · subst e
    exact cx cl ω' H' hx S' f
/-- len(o) -/
theorem we_lenO {i : Nat} (h : Γ[i]? = some (some (per (objP C ds)))) (hF : F [per (objP C ds)] (fun g _ => ∃ n : Int, g = dat (.int n) ∧ 0 ≤ n ∧ n < 2 ^ 63 ∧ k (dat (.int n)) Γ) fun _ _ => False) : WE (tCB (rLenOwn C (SpG 1 F) E) (tCons (tVar i) tNil)) Γ k := fun ω σ H S Q q => by
  obtain ⟨v, e, hp⟩ := S.2 i _ h
  have hp' := hp
  obtain ⟨a, dx, fs, rfl, ha, hf⟩ := hp'
  refine ⟨_, e, a, dx, fs, rfl, vw_H ha, call_per (qs := [objP C ds]) (k := fun g _ => ∃ n : Int, g = dat (.int n) ∧ 0 ≤ n ∧ n < 2 ^ 63 ∧ k (dat (.int n)) Γ) (kx := fun _ => False) S (fun j q v h1 h2 => ?_) rfl rfl hF (fun v g ω' H' ⟨n, eg, h0, h1, hk⟩ S' p f => ?_) fun _ _ _ hx => hx.elim⟩
  · match j, h1, h2 with
    | 0, h1, h2 =>
      cases h1
      cases h2
      exact hp
    | j + 1, h1, _ => simp at h1
  · subst eg
    cases DR.int_inv p
    exact ⟨n, rfl, h0, h1, q _ _ Γ ω' H' hk S' (DR.int n) f⟩
/-- o.f, a property -/
theorem we_prop {i : Nat} (h : Γ[i]? = some (some (per (objP C ds)))) (hF : F [per (objP C ds)] (fun g _ => k g Γ) fun _ _ => False) : WE (tProp C (SpG 1 F) [] E (tVar i)) Γ k := fun ω σ H S Q q => by
  obtain ⟨v, e, hp⟩ := S.2 i _ h
  have hp' := hp
  obtain ⟨a, dx, fs, rfl, ha, hf⟩ := hp'
  refine ⟨_, e, a, dx, fs, rfl, vw_H ha, call_per (qs := [objP C ds]) (k := k) (kx := fun _ => False) S (fun j q v h1 h2 => ?_) rfl rfl hF (fun v g ω' H' hk S' p f => q v g Γ ω' H' hk S' p f) fun _ _ _ hx => hx.elim⟩
  match j, h1, h2 with
  | 0, h1, h2 =>
    cases h1
    cases h2
    exact hp
  | j + 1, h1, _ => simp at h1
end
end G

/-! ### len(set(xs)), xs a list of tuples of ints -/
namespace GSet
open PySem PySem.Spec PyProof.Rows L2
end GSet

namespace G
open PySem L2
section
variable {K : PySem.W.Frag} {P : Nat → Bool} {Γ : Ga} {D : Pe} {k : Gp → Ga → Prop} {ta tb te tl : TE} {tr : TA} {C : Addr} {n : Nat} {F : Fw} {E : XK}
theorem ties_keys {A : Hp} : ∀ {ts : List (Int × Int)} {vs : List V}, DRs A vs (ts.map tieD) → ∃ ks : List (Addr × List Int), vs = ks.map (fun p => V.ref p.1) ∧ ks.map (·.2) = ts.map (fun t => [t.1, t.2]) ∧ ∀ p ∈ ks, A p.1 = some (.tup (p.2.map V.int))
  | [], _, h => by cases h; exact ⟨[], rfl, rfl, by simp⟩
  | t :: ts, _, h => by
    cases h with | cons x y =>
    obtain ⟨_, a, rfl, ha⟩ := key_tie x
    obtain ⟨ks, rfl, e, hk⟩ := ties_keys y
    refine ⟨(a, [t.1, t.2]) :: ks, rfl, by simp [e], fun p hp => ?_⟩
    rcases List.mem_cons.mp hp with e | hp
    · rw [e]; exact ha
    · exact hk p hp
theorem nodup_len : ∀ (l D : List (List Int)), l.Nodup → (∀ x ∈ l, x ∈ D) → l.length ≤ D.length
  | [], D, _, _ => Nat.zero_le _
  | a :: l, D, h, hs => by
    have ha : a ∈ D := hs a (by simp)
    obtain ⟨h1, h2⟩ := List.nodup_cons.mp h
    have := nodup_len l (D.erase a) h2 fun x hx => (List.mem_erase_of_ne (fun (e : x = a) => h1 (e ▸ hx))).mpr (hs x (by simp [hx]))
    rw [List.length_erase_of_mem ha] at this
    have hp : 0 < D.length := List.length_pos_of_mem ha
    simp only [List.length_cons]
    omega
/-! ### slices of lists -/
def cutD {α : Type} (xs : List α) (lo hi : Option Int) : List α := (xs.drop (HT.sIx xs.length 0 lo)).take (HT.sIx xs.length xs.length hi - HT.sIx xs.length 0 lo)
def WO (to : TO) (Γ : Ga) (k : Option Int → Ga → Prop) : Prop := ∀ ω σ H, Sta Γ ω σ H → ∀ Q : Option Int → Hp → Prop, (∀ o Γ' ω' H', k o Γ' → Sta Γ' ω' σ H' → Fr ω ω' H H' → Q o H') → to σ H Q
theorem wo_none {ko : Option Int → Ga → Prop} (h : ko none Γ) : WO tNoPart Γ ko := fun ω σ H S Q f => f none Γ ω H h S Fr.refl
theorem wo_some {ko : Option Int → Ga → Prop} (h : WQ te Γ fun q Γ1 => ∃ i : Int, q = dP (.int i) ∧ ko (some i) Γ1) : WO (tPart te) Γ ko := fun ω σ H S Q f => h ω σ H S _ fun v q Γ1 ω1 H1 ⟨i, e, hk⟩ S1 p f1 => by
  subst e
  exact ⟨i, DR.int_inv p, f (some i) Γ1 ω1 H1 hk S1 f1⟩
theorem we_slice {tlo thi : TO} (h : WQ te Γ fun q Γ1 => ∃ ds, q = dP (.list ds) ∧ WO tlo Γ1 fun lo Γ2 => WO thi Γ2 fun hi Γ3 => k (own (cutD ds lo hi)) Γ3) : WE (tSl (rSlL K) te tlo thi) Γ k := fun ω σ H S Q f => h ω σ H S _ fun v q Γ1 ω1 H1 ⟨ds, e, h1⟩ S1 p f1 => by
  subst e
  obtain ⟨a, xs, rfl, ha, hd⟩ := DR.lst_inv p
  refine h1 ω1 σ H1 S1 _ fun lo Γ2 ω2 H2 h2 S2 f2 => h2 ω2 σ H2 S2 _ fun hi Γ3 ω3 H3 h3 S3 f3 => ?_
  have hA := (f2.trans f3).1 _ _ ha
  refine ⟨a, xs, rfl, SqL.of (vw_H hA), fun l hl => f _ _ Γ3 (paint ω3 l 2) _ h3 (S3.new 2 hl) ⟨l, _, rfl, paint_at, ?_⟩ ((f1.trans (f2.trans f3)).trans (paint_fr hl))⟩
  have e : cutV xs lo hi = (xs.drop (HT.sIx ds.length 0 lo)).take (HT.sIx ds.length ds.length hi - HT.sIx ds.length 0 lo) := by
    unfold cutV
    rw [hd.length]
  rw [e]
  exact (((hd.mono (f2.trans f3).1).drop _).take _).mono (paint_same hl 0)
/-! ### zip of two lists -/
/-! ### C(..) -/
def qsOf : List Arg → List Per
  | [] => []
  | .q q :: as => q :: qsOf as
  | .s _ :: as => qsOf as
def cInM (ω : Col) (x : Addr) : Col := fun b => if b = x then 3 else if ω b = 0 then 0 else 1
theorem we_make (h : WA tr Γ fun as Γ1 => as.length = n ∧ slots as = [] ∧ F (insG C [] :: (qsOf as).map per) (fun g Γp => g = dat .none ∧ ∃ g0, Γp[0]? = some (some g0) ∧ k g0 Γ1) fun _ _ => False) : WE (tMake C (SpG (n + 1) F) [] E tr) Γ k := fun ω σ H S Q f => h ω σ H S _ fun vs as Γ1 ω1 H1 ⟨hn, hs, hF⟩ S1 a f1 x dx nx ndx ne => by
  show SpG (n + 1) F (.ref x :: (vs ++ [])) _ _ E
  rw [List.append_nil]
  have hall : ∀ {as : List Arg} {vs : List V}, slots as = [] → ArgsOk σ (vw ω1 H1 0) as vs → (qsOf as).length = vs.length ∧ as.length = vs.length ∧ ∀ (j : Nat) (q : Per) (v : V), (qsOf as)[j]? = some q → vs[j]? = some v → q.q (vw ω1 H1 0) v := fun {as} => by
    induction as with
    | nil => intro vs _ h; cases h; exact ⟨rfl, rfl, fun j q v e => by simp [qsOf] at e⟩
    | cons b as ih =>
      intro vs hs h
      cases h with | cons y z =>
      cases b with
      | s i => cases hs
      | q q =>
        obtain ⟨l1, l2, l3⟩ := ih hs z
        refine ⟨by simp [qsOf, l1], by simp [l2], fun j q' v e1 e2 => ?_⟩
        match j, e1, e2 with
        | 0, e1, e2 =>
          cases e1
          cases e2
          exact y
        | j + 1, e1, e2 => exact l3 j q' v (by simpa [qsOf] using e1) (by simpa using e2)
  obtain ⟨l1, l2, l3⟩ := hall hs a
  generalize hH : upd (upd H1 dx (.own x)) x (.ins C dx []) = H2
  have old : Same H1 H2 := fun b o e => by
    rw [← hH, upd_ne (ne_of_none e nx), upd_ne (ne_of_none e ndx)]
    exact e
  have i0 : Same (vw ω1 H1 0) (vw (cInM ω1 x) H2 0) := fun b o e => vw_mk (by unfold cInM; rw [if_neg (ne_of_none (vw_H e) nx), if_pos (vw_c e)]) (old _ _ (vw_H e))
  refine ⟨_, _, _, cInM ω1 x, by simp [← l2, hn], hF, ⟨by simp [l1], fun j g v hg hv => ?_⟩, fun v g Γp ω' H' ⟨eg, g0, hg0, hk⟩ he p f2 => ?_, fun _ _ _ _ hx => hx.elim⟩
  · match j, hg, hv with
    | 0, hg, hv =>
      cases hg
      cases hv
      exact ⟨x, dx, [], rfl, vw_mk (by unfold cInM; rw [if_pos rfl]) (by rw [← hH]; exact upd_same), .nil⟩
    | j + 1, hg, hv =>
      have hg' : ((qsOf as).map per)[j]? = some g := by simpa using hg
      rw [List.getElem?_map] at hg'
      cases e : (qsOf as)[j]? with
      | none => rw [e] at hg'; cases hg'
      | some q =>
        rw [e] at hg'
        cases hg'
        exact q.mono i0 (l3 j q v e (by simpa using hv))
  · subst eg
    refine ⟨DR.non_inv p, ?_⟩
    have p0 := he 0 g0 (.ref x) hg0 rfl
    -- back at the caller's colours
    let ω2 : Col := fun b => if (H1 b).isSome = true ∧ ω1 b ≠ 0 then ω1 b else if ω' b = 3 then 2 else 0
    have keep : ∀ c, c ≠ 0 → Same (vw ω1 H1 c) (vw ω2 H' c) := fun c h0 b o e => by
      have z := f2.2 b o (vw_mk (by unfold cInM; rw [if_neg (ne_of_none (vw_H e) nx), if_neg (by rw [vw_c e]; exact h0)]) (old _ _ (vw_H e)))
      refine vw_mk ?_ (vw_H z)
      show (if _ then _ else _) = c
      rw [if_pos ⟨by rw [vw_H e]; rfl, by rw [vw_c e]; exact h0⟩]
      exact vw_c e
    have k0 : Same (vw ω1 H1 0) (vw ω2 H' 0) := fun b o e => by
      have z := f2.1 b o (i0 b o e)
      refine vw_mk ?_ (vw_H z)
      show (if _ then _ else _) = 0
      rw [if_neg (by rw [vw_c e]; intro q; exact q.2 rfl), vw_c z]
      rfl
    have ofc : ∀ c d, c ≠ 1 → (if c = 3 then 2 else 0) = d → Same (vw ω' H' c) (vw ω2 H' d) := fun c d h1 hd b o e => by
      refine vw_mk ?_ (vw_H e)
      show (if _ then _ else _) = d
      rw [if_neg, vw_c e]
      · exact hd
      · intro ⟨q1, q2⟩
        obtain ⟨u, hu⟩ := Option.isSome_iff_exists.mp q1
        have z := f2.2 b u (vw_mk (by unfold cInM; rw [if_neg (ne_of_none hu nx), if_neg q2]) (old _ _ hu))
        exact h1 ((vw_c e).symm.trans (vw_c z))
    exact f (.ref x) g0 Γ1 ω2 H' hk (S1.move k0 fun i _ _ => keep _ (by omega)) (g0.mono (ofc 0 0 (by decide) rfl) (ofc 3 2 (by decide) rfl) p0) (f1.trans ⟨k0, keep 1 (by decide)⟩)
end
end G

namespace G
open PySem L2
/-! ### statements that may raise: Ex is the def's own wish, kx what is to hold where one of its own is raised -/
def XM (P : Nat → Bool) (Ex : XK) (kx : Value → Ga → Prop) (ω : Col) (σ : L2.St) (H : Hp) : Prop := ∀ c Γ' ω' σ' H', kx c Γ' → Sta Γ' ω' σ' H' → Fr ω ω' H H' → Pin P σ σ' → Ex c none H'
theorem XM.after {P : Nat → Bool} {Ex : XK} {kx : Value → Ga → Prop} {ω ω1 : Col} {σ σ1 : L2.St} {H H1 : Hp} (m : XM P Ex kx ω σ H) (f : Fr ω ω1 H H1) (p : Pin P σ σ1) : XM P Ex kx ω1 σ1 H1 :=
  fun c Γ' ω' σ' H' h S g q => m c Γ' ω' σ' H' h S (f.trans g) (p.trans q)
def WSX (P : Nat → Bool) (t : TS) (Ex : XK) (Γ : Ga) (D : Pe) (kx : Value → Ga → Prop) : Prop := ∀ ω σ H, Sta Γ ω σ H → XM P Ex kx ω σ H → ∀ E : Ends, Met P D ω σ H E → t E σ H
section
variable {K : PySem.W.Frag} {P : Nat → Bool} {Γ : Ga} {D : Pe} {Ex : XK} {kx : Value → Ga → Prop} {c : TT} {t u : TS} {ta : TA} {n : Nat} {F : Fw} {g : TG} {k : Gp → Ga → Prop}
theorem wsx_of (h : WS P t Γ D) : WSX P t Ex Γ D kx := fun ω σ H S _ E m => h ω σ H S E m
theorem wsx_seq (h : WSX P t Ex Γ (D.to fun Γ' => WSX P u Ex Γ' D kx) kx) : WSX P (tSeq t u) Ex Γ D kx := fun ω σ H S x E m =>
  h ω σ H S x { E with nx := u E } ⟨fun Γ' ω' σ' H' hk S' f p => (show WSX P u Ex Γ' D kx from hk) ω' σ' H' S' (x.after f p) E (m.after f p), m.rt, m.bk, m.ct⟩
theorem wsx_if (h : WT c Γ fun b Γ' => if b = true then WSX P t Ex Γ' D kx else WSX P u Ex Γ' D kx) : WSX P (tIfS c t u) Ex Γ D kx := fun ω σ H S x E m => h ω σ H S _ fun b Γ' ω' H' hk S' f => by
  cases b with
  | true => exact iteT ((show WSX P t Ex Γ' D kx from hk) ω' σ H' S' (x.after f Pin.refl) E (m.after f Pin.refl))
  | false => exact iteF ((show WSX P u Ex Γ' D kx from hk) ω' σ H' S' (x.after f Pin.refl) E (m.after f Pin.refl))
theorem wsx_raise {cl : Value} (h : kx cl Γ) : WSX P (tRaise Ex cl) Ex Γ D kx := fun ω σ H S x E m => x cl Γ ω σ H h S Fr.refl Pin.refl
/-- f(..), which may raise -/
theorem wsx_call (h : WA ta Γ fun as Γ1 => as.length = n ∧ (slots as).Nodup ∧ F (gsOf Γ1 as) (fun g Γp => D.nx (back Γ1 as Γp)) fun cl Γp => kx cl (back Γ1 as Γp)) : WSX P (tDrop (tCall (SpG n F) [] Ex ta)) Ex Γ D kx := fun ω σ H S x E m => h ω σ H S _ fun vs as Γ1 ω1 H1 ⟨hn, nd, hF⟩ S1 a f1 => by
  show SpG n F (vs ++ []) H1 _ Ex
  rw [List.append_nil]
  exact call_core (k := fun _ Γ' => D.nx Γ') (kx := kx) S1 a hn nd hF (fun v g Γ' ω' H' hk S' p f2 => m.nx Γ' ω' σ H' hk S' (f1.trans f2) Pin.refl) fun cl Γ' ω' H' hx S' f2 => x cl Γ' ω' σ H' hx S' (f1.trans f2) Pin.refl
/-- the promise of a def that may raise -/
theorem body_okX (P : Nat → Bool) {t : TS} {N : List Str} {vs : List V} {H : Hp} {Q : VK} {E : XK}
    (h : ∀ gs kk xx, F gs kk xx → gs.length = n → WSX P t E (gs.map some ++ List.replicate (N.length - n) none) ⟨fun Γ => ∃ Γp, Les (mask P n Γ) Γp ∧ kk (dat .none) Γp, fun g Γ => ∃ g' Γp, Ent g g' ∧ Les (mask P n Γ) Γp ∧ kk g' Γp, fun _ => False, fun _ => False⟩
      fun cl Γ => ∃ Γp, Les (mask P n Γ) Γp ∧ xx cl Γp) (hs : SpG n F vs H Q E) :
    t { nx := fun _ H' => Q .non H', rt := Q } (start N vs) H := by
  obtain ⟨gs, kk, xx, ω, hn, hF, hp, hq, hx⟩ := hs
  have S := par_sta (N := N) hp
  rw [hn] at S
  have stv : ∀ (i : Nat) (v : V), vs[i]? = some v → (start N vs)[i]? = some (some v) := fun i v e => by
    have hi := (List.getElem?_eq_some_iff.mp e).1
    unfold L2.start
    rw [List.getElem?_append_left (by simpa using hi), List.getElem?_map, e]
    rfl
  have en : ∀ (Γ' : Ga) (ω' : Col) (σ' : L2.St) (H' : Hp), Sta Γ' ω' σ' H' → Pin P (start N vs) σ' → EndOk (mask P n Γ') ω' H' vs := fun Γ' ω' σ' H' S' pi i g v hg hv => by
    obtain ⟨_, hP, hg⟩ := mask_get hg
    obtain ⟨v', e, p⟩ := S'.2 i g hg
    rw [pi.2 i hP, stv i v hv] at e
    cases e
    exact p
  refine h gs kk xx hF (by rw [hp.1, hn]) ω _ H S (fun cl Γ' ω' σ' H' ⟨Γp, l, hk⟩ S' f pi => hx cl Γp ω' H' hk ((en Γ' ω' σ' H' S' pi).les l) f) _ ⟨fun Γ' ω' σ' H' ⟨Γp, l, hk⟩ S' f pi => ?_, fun v g Γ' ω' σ' H' ⟨g', Γp, eg, l, hk⟩ S' p f pi => ?_, fun _ _ _ _ hk => hk.elim, fun _ _ _ _ hk => hk.elim⟩
  · exact hq .non _ _ ω' H' hk ((en Γ' ω' σ' H' S' pi).les l) DR.non f
  · exact hq v g' _ ω' H' hk ((en Γ' ω' σ' H' S' pi).les l) (eg _ _ _ p) f
/-! ### try: f(..) except C: .. -/
end
end G

namespace G
open PySem L2
/-! ### a list of one's own, of lists of one's own -/
def In2 (A R : Hp) (bs : List Addr) (dss : List (List PyData)) : Prop := bs.length = dss.length ∧ ∀ (i : Nat) (b : Addr) (ds : List PyData), bs[i]? = some b → dss[i]? = some ds → ∃ ys, R b = some (.lst ys) ∧ DRs A ys ds
theorem In2.mono {A A' R R' : Hp} {bs : List Addr} {dss : List (List PyData)} (s : Same A A') (r : Same R R') (h : In2 A R bs dss) : In2 A' R' bs dss := ⟨h.1, fun i b ds e1 e2 => by
  obtain ⟨ys, h1, h2⟩ := h.2 i b ds e1 e2
  exact ⟨ys, r _ _ h1, h2.mono s⟩⟩
def own2 (dss : List (List PyData)) : Gp := ⟨fun A v R => ∃ a bs, v = .ref a ∧ R a = some (.lst (bs.map V.ref)) ∧ (a :: bs).Nodup ∧ In2 A R bs dss, fun s r q => by
  obtain ⟨a, bs, e, h, n, t⟩ := q
  exact ⟨a, bs, e, r _ _ h, n, t.mono s r⟩⟩
theorem frz_own2 {dss : List (List PyData)} : Frz (own2 dss) (dP (.list (dss.map PyData.list))) := fun A v R A' s r q => by
  obtain ⟨a, bs, e, h, n, t⟩ := q
  subst e
  refine DR.lst (r _ _ h) ?_
  have key : ∀ (bs : List Addr) (dss : List (List PyData)), In2 A R bs dss → DRs A' (bs.map V.ref) (dss.map PyData.list) := fun bs => by
    induction bs with
    | nil => intro dss z; cases dss with
      | nil => exact .nil
      | cons d dss => cases z.1
    | cons b bs ih => intro dss z; cases dss with
      | nil => cases z.1
      | cons d dss =>
        obtain ⟨ys, h1, h2⟩ := z.2 0 b d rfl rfl
        exact .cons (.lst (r _ _ h1) (h2.mono s)) (ih dss ⟨Nat.succ.inj z.1, fun i b' d' e1 e2 => z.2 (i + 1) b' d' (by simpa using e1) (by simpa using e2)⟩)
  exact key bs dss t
section
variable {K : PySem.W.Frag} {P : Nat → Bool} {Γ : Ga} {D : Pe} {k : Gp → Ga → Prop} {te : TE} {g : TG}
/-- [[] for .. in ..] -/
theorem we_lcE {wi : TI} {vs : List Nat} (Pv : Nat → Ga → Prop) (h : WI wi Γ fun n it Γ1 => n < 100000 ∧ Pv 0 Γ1 ∧ (∀ Γ2, Pv n Γ2 → k (own2 (List.replicate n [])) Γ2) ∧ ∀ i Γ2, i < n → Pv i Γ2 → Γ2.length = Γ.length →
    WG (fun i => !vs.contains i) g (it i) (wipeG Γ2 vs) fun Γ3 => Pv (i + 1) (wipeG Γ3 vs)) :
    WE (tLc wi g tYes (tLst tNil) vs) Γ k := fun ω σ H S Q f => h ω σ H S _ fun J n it Γ1 ω1 H1 ⟨hn, h0, hd, hs⟩ S1 W f1 => by
  intro L hL
  have hlen : ∀ {Γ2 : Ga} {ω2 : Col} {σ2 : L2.St} {H2 : Hp}, Sta Γ2 ω2 σ2 H2 → σ2.length = σ.length → Γ2.length = Γ.length := fun {Γ2 ω2 σ2 H2} S2 e => by rw [← S2.1, e, S.1]
  refine ⟨fun i μ H' => μ = n - i ∧ i ≤ n ∧ ∃ bs Γ2 ω2, Pv i Γ2 ∧ Sta Γ2 ω2 σ H' ∧ Fr ω1 ω2 H1 H' ∧ (ω2 L = 1 ∧ H' L = some (.lst (bs.map V.ref))) ∧ bs.length = i ∧ (L :: bs).Nodup ∧ (∀ b ∈ bs, ω2 b = 1 ∧ H' b = some (.lst [])) ∧ ∀ a o, vw ω1 H1 1 a = some o → a ∉ L :: bs,
    ⟨n, by simp, Nat.zero_le _, [], Γ1, paint ω1 L 1, h0, S1.new 1 hL, paint_fr hL, ⟨by unfold paint; rw [if_pos rfl], upd_same⟩, rfl, by simp, by simp, fun a o z => by simpa using ne_of_none (vw_H z) hL⟩, ?_⟩
  rintro i μ H' ⟨rfl, hi, bs, Γ2, ω2, p2, S2, f2, ⟨c2, e2⟩, l2, n2, b2, a2⟩
  have sA : Same (vw ω1 H1 0) H' := fun a o e => vw_H (f2.1 a o e)
  by_cases hlt : i < n
  · refine .inr ⟨((W i H' sA).1 hlt).1, fun H'' => ∃ bs Γ2 ω2, Pv (i + 1) Γ2 ∧ Sta Γ2 ω2 σ H'' ∧ Fr ω1 ω2 H1 H'' ∧ (ω2 L = 1 ∧ H'' L = some (.lst (bs.map V.ref))) ∧ bs.length = i + 1 ∧ (L :: bs).Nodup ∧ (∀ b ∈ bs, ω2 b = 1 ∧ H'' b = some (.lst [])) ∧ ∀ a o, vw ω1 H1 1 a = some o → a ∉ L :: bs,
      fun H'' z => ⟨n - (i + 1), by omega, rfl, hlt, z⟩, fun x H'' y => ?_⟩
    obtain ⟨ω3, S3, f3, q3⟩ := yld_ok W rfl f2 S2 hlt y
    refine hs i Γ2 hlt p2 (hlen S2 rfl) ω3 _ H'' x (S3.wipe vs) q3 _ fun Γ4 ω4 σ4 H4 h4 S4 f4 q4 => ?_
    obtain ⟨S5, ew⟩ := S4.unwipe q4
    refine ⟨ew, ?_⟩
    unfold tYes
    refine iteT ?_
    refine ⟨by simp, fun p hp => ?_⟩
    have f24 : Fr ω2 ω4 H' H4 := f3.trans f4
    have zL := f24.2 L _ (vw_mk c2 e2)
    have nL : L ≠ p := ne_of_none (vw_H zL) hp
    have zb : ∀ b ∈ bs, vw ω4 H4 1 b = some (.lst []) := fun b hb => f24.2 b _ (vw_mk (b2 b hb).1 (b2 b hb).2)
    have nb : ∀ b ∈ bs, b ≠ p := fun b hb => ne_of_none (vw_H (zb b hb)) hp
    have f14 : Fr ω1 ω4 H1 H4 := f2.trans f24
    refine ⟨bs.map V.ref, by rw [upd_ne nL]; exact vw_H zL, by rw [List.length_map, l2]; exact Nat.lt_of_lt_of_le (by omega : i < 100000) (by decide), bs ++ [p], _, paint ω4 p 1, h4, ?_, ?_, ⟨?_, ?_⟩, by simp [l2], ?_, ?_, ?_⟩
    · have S6 := ((S4.unwipe q4).1.new 1 (o := .lst []) hp)
      have cL : paint ω4 p 1 L = 1 := by unfold paint; rw [if_neg nL]; exact vw_c zL
      exact S6.move (mut_same (by rw [cL]; decide)) fun i g _ => mut_same (by rw [cL]; omega)
    · have cL : paint ω4 p 1 L = 1 := by unfold paint; rw [if_neg nL]; exact vw_c zL
      refine ⟨(f14.1.trans (paint_same hp 0)).trans (mut_same (by rw [cL]; decide)), fun a o z => ?_⟩
      have z' := f14.2 a o z
      have h1 := a2 a o z
      have h2 : a ≠ L := fun e => h1 (by simp [e])
      have h3 : a ≠ p := ne_of_none (vw_H z') hp
      exact vw_mk (by unfold paint; rw [if_neg h3]; exact vw_c z') (by rw [upd_ne h2, upd_ne h3]; exact vw_H z')
    · unfold paint; rw [if_neg nL]; exact vw_c zL
    · rw [upd_same]
      simp
    · rw [List.nodup_cons] at n2 ⊢
      refine ⟨by simp [n2.1, nL], List.nodup_append.mpr ⟨n2.2, by simp, fun a ha b hb => ?_⟩⟩
      simp at hb
      subst hb
      exact nb a ha
    · intro b hb
      rcases List.mem_append.mp hb with hb | hb
      · have hne : b ≠ L := fun e => (List.nodup_cons.mp n2).1 (e ▸ hb)
        refine ⟨by unfold paint; rw [if_neg (nb b hb)]; exact vw_c (zb b hb), by rw [upd_ne hne, upd_ne (nb b hb)]; exact vw_H (zb b hb)⟩
      · simp at hb
        subst hb
        exact ⟨by unfold paint; rw [if_pos rfl], by rw [upd_ne (Ne.symm nL), upd_same]⟩
    · intro a o z hm
      have z' := f14.2 a o z
      have h3 : a ≠ p := ne_of_none (vw_H z') hp
      rcases List.mem_cons.mp hm with e | hm
      · exact a2 a o z (by simp [e])
      · rcases List.mem_append.mp hm with hm | hm
        · exact a2 a o z (by simp [hm])
        · simp at hm; exact h3 hm
  · have e : i = n := by omega
    subst e
    refine .inl ⟨(W i H' sA).2 (Nat.le_refl _), ?_⟩
    let ω3 : Col := fun b => if b ∈ L :: bs then 2 else ω2 b
    have c1 : ∀ b ∈ L :: bs, ω2 b = 1 := fun b hb => by
      rcases List.mem_cons.mp hb with e | hb
      · rw [e]; exact c2
      · exact (b2 b hb).1
    have pn : ∀ c, c ≠ 1 → Same (vw ω2 H' c) (vw ω3 H' c) := fun c hc a o z => by
      refine vw_mk ?_ (vw_H z)
      show (if _ then _ else _) = c
      rw [if_neg]
      · exact vw_c z
      · intro e
        exact hc ((vw_c z).symm.trans (c1 a e))
    refine f (.ref L) (own2 (List.replicate i [])) Γ2 ω3 H' (hd Γ2 p2) (S2.move (pn 0 (by decide)) fun i _ _ => pn _ (by omega)) ⟨L, bs, rfl, vw_mk (by show (if _ then _ else _) = _; rw [if_pos (by simp)]) e2, n2, by simp [l2], fun j b ds e1 e3 => ?_⟩ (f1.trans ⟨f2.1.trans (pn 0 (by decide)), fun a o z => ?_⟩)
    · have hb := List.mem_of_getElem? e1
      have : ds = [] := by
        rw [List.getElem?_replicate] at e3
        split at e3 <;> simp_all
      subst this
      exact ⟨[], vw_mk (by show (if _ then _ else _) = _; rw [if_pos (by simp [hb])]) (b2 b hb).2, .nil⟩
    · have z' := f2.2 a o z
      refine vw_mk ?_ (vw_H z')
      show (if _ then _ else _) = _
      rw [if_neg (a2 a o z)]
      exact vw_c z'
/-- xs[j].append(y) -/
theorem we_apAt {i p : Nat} {dss0 : List (List PyData)} (h : Γ[i]? = some (some (own2 dss0))) (ht : WQ te Γ fun q Γ1 => ∃ j m dss ds d, q = dP (.int j) ∧ Γ1[i]? = some (some (own2 dss)) ∧ ixN dss.length j = some m ∧ dss[m]? = some ds ∧ Γ1[p]? = some (some (dat d)) ∧ ds.length < 100000 ∧
      k (dat .none) (Γ1.set i (some (own2 (dss.set m (ds ++ [d])))))) : WE (tBM K "list" rAppend (tOp (rIx K) (tVar i) te) (tCons (tVar p) tNil)) Γ k := fun ω σ H S Q f => by
  obtain ⟨v, e, _⟩ := S.2 i _ h
  refine ⟨v, e, ht ω σ H S _ fun w q Γ1 ω1 H1 ⟨j, m, dss, ds, d, eq, hi, hj, hm, hp, hl, hk⟩ S1 pq f1 => ?_⟩
  subst eq
  cases DR.int_inv pq
  obtain ⟨v', e', p'⟩ := S1.2 i _ hi
  rw [e] at e'
  cases e'
  obtain ⟨a, bs, rfl, hr, nd, hb⟩ := p'
  obtain ⟨y, ey, hy⟩ := S1.2 p _ hp
  have hlen := hb.1
  obtain ⟨b, hbm⟩ : ∃ b, bs[m]? = some b := ⟨bs[m]'(by rw [hlen]; exact (List.getElem?_eq_some_iff.mp hm).1), by simp⟩
  obtain ⟨ys, hys, hds⟩ := hb.2 m b ds hbm hm
  have cb := vw_c hys
  refine .inl ⟨a, bs.map V.ref, j, .ref b, rfl, rfl, SqL.of (vw_H hr), ?_, .inl ⟨rfl, ys, SqL.of (vw_H hys)⟩, y, ey, b, ys, y, rfl, rfl, vw_H hys, by rw [hds.length]; exact Nat.lt_of_lt_of_le hl (by decide), ?_⟩
  · unfold atI
    rw [List.length_map, hlen, hj]
    show (bs.map V.ref)[m]? = _
    rw [List.getElem?_map, hbm]
    rfl
  · have m0 : Same (vw ω1 H1 0) (vw ω1 (upd H1 b (.lst (ys ++ [y]))) 0) := mut_same (by rw [cb]; omega)
    have hmem := List.mem_of_getElem? hbm
    obtain ⟨nd1, nd2⟩ := List.nodup_cons.mp nd
    have hab : a ≠ b := fun e => nd1 (e ▸ hmem)
    refine f .non _ _ ω1 _ hk (S1.set m0 (fun j' g' hne _ => mut_same (by rw [cb]; omega)) e ⟨a, bs, rfl, vw_mk (vw_c hr) (by rw [upd_ne hab]; exact vw_H hr), nd, by rw [List.length_set]; exact hlen, fun t b' ds' e1 e2 => ?_⟩) DR.non (f1.trans ⟨m0, mut_same (by rw [cb]; omega)⟩)
    rw [List.getElem?_set] at e2
    by_cases htm : m = t
    · subst htm
      rw [hbm] at e1
      cases e1
      rw [if_pos rfl] at e2
      split at e2
      · cases e2
        exact ⟨ys ++ [y], vw_mk cb upd_same, (hds.mono m0).snoc (DR.mono m0 d hy)⟩
      · cases e2
    · rw [if_neg htm] at e2
      obtain ⟨zs, h1, h2⟩ := hb.2 t b' ds' e1 e2
      have hne : b' ≠ b := fun e => by
        subst e
        have ht := (List.getElem?_eq_some_iff.mp e1).1
        exact htm ((List.getElem?_inj (i := m) (j := t) (List.getElem?_eq_some_iff.mp hbm).1 nd2).mp (hbm.trans e1.symm))
      exact ⟨zs, vw_mk (vw_c h1) (by rw [upd_ne hne]; exact vw_H h1), h2.mono m0⟩
end
end G

namespace G
open PySem L2
section
variable {K : PySem.W.Frag} {Γ : Ga} {k : Gp → Ga → Prop} {ta tb tc : TE} {r r' : R2}
theorem we_chain (h : WQ ta Γ fun q Γ1 => ∃ d, q = dP d ∧ WQ tb Γ1 fun q2 Γ2 => ∃ d2 b, q2 = dP d2 ∧ OpD r d d2 (dP (.bool b)) ∧ if b = true then WQ tc Γ2 fun q3 Γ3 => ∃ d3 b3, q3 = dP d3 ∧ OpD r' d2 d3 (dP (.bool b3)) ∧ k (dat (.bool b3)) Γ3 else k (dat (.bool false)) Γ2) :
    WE (tChain r r' ta tb tc) Γ k := fun ω σ H S Q f => h ω σ H S _ fun v q Γ1 ω1 H1 ⟨d, e, h1⟩ S1 p f1 => by
  subst e
  refine h1 ω1 σ H1 S1 _ fun v2 q2 Γ2 ω2 H2 ⟨d2, b, e2, ho, hk⟩ S2 p2 f2 => ?_
  subst e2
  refine ho (vw ω2 H2 0) H2 v v2 (fun _ _ z => vw_H z) (DR.mono f2.1 d p) p2 _ fun z hz => ?_
  cases DR.bl_inv hz
  refine ⟨b, rfl, ?_⟩
  cases b with
  | false => exact iteF (f _ _ Γ2 ω2 H2 hk S2 (DR.bl false) (f1.trans f2))
  | true =>
    refine iteT ((show WQ tc Γ2 _ from hk) ω2 σ H2 S2 _ fun v3 q3 Γ3 ω3 H3 ⟨d3, b3, e3, ho3, hk3⟩ S3 p3 f3 => ?_)
    subst e3
    refine ho3 (vw ω3 H3 0) H3 v2 v3 (fun _ _ z => vw_H z) (DR.mono f3.1 d2 p2) p3 _ fun z hz => ?_
    cases DR.bl_inv hz
    exact f _ _ Γ3 ω3 H3 hk3 S3 (DR.bl b3) ((f1.trans f2).trans f3)
end
theorem kb_i2 : kitB "int" "bool" = some false := by decide +kernel
theorem kb_s2 : kitB "str" "bool" = some false := by decide +kernel
theorem kb_l2 : kitB "list" "bool" = some false := by decide +kernel
theorem kb_t2 : kitB "tuple" "bool" = some false := by decide +kernel
theorem kb_db : kitB "dict" "bool" = some false := by decide +kernel
theorem isi_bool : ∀ {d : PyData}, (tyD d).isSome = true → ∃ n, tyD d = some n ∧ kitB n "bool" = some (isBl d)
  | .none, _ => ⟨_, rfl, by decide +kernel⟩
  | .bool _, _ => ⟨_, rfl, kb_bb⟩
  | .int _, _ => ⟨_, rfl, kb_i2⟩
  | .str _, _ => ⟨_, rfl, kb_s2⟩
  | .list _, _ => ⟨_, rfl, kb_l2⟩
  | .tuple _, _ => ⟨_, rfl, kb_t2⟩
  | .dict _, _ => ⟨_, rfl, kb_db⟩
theorem we_isBl {K : PySem.W.Frag} {Γ : Ga} {k : Gp → Ga → Prop} {ta : TE} (h : WQ ta Γ fun q Γ1 => ∃ d, q = dP d ∧ k (dat (.bool (isBl d))) Γ1) : WE (tCB (rIsiA K) (tCons ta (tCons (tC (.ty "bool")) tNil))) Γ k := fun ω σ H S Q f => h ω σ H S _ fun v q Γ1 ω1 H1 ⟨d, e, hk⟩ S1 p f1 => by
  subst e
  obtain ⟨n, e1, e2⟩ := isi_bool (DR.ty p)
  exact ⟨v, .ty "bool", .type n, .type "bool", _, rfl, .ty "bool", tyD_ok (DR.mono (fun _ _ z => vw_H z) d p) e1, kit_ty e2, f _ _ Γ1 ω1 H1 hk S1 (DR.bl _) f1⟩


section
variable {K : PySem.W.Frag} {Γ : Ga} {k : Gp → Ga → Prop} {r : R2} {d e : PyData}
theorem all_map {α : Type} {p : α → Bool} {xs : List α} : (xs.map p).all id = xs.all p := by
  induction xs with
  | nil => rfl
  | cons x xs ih => simp only [List.map_cons, List.all_cons, ih, id]
theorem take_map {α : Type} {f : α → PyData} {xs : List α} {i : Nat} {x : α} (h : xs[i]? = some x) : (xs.take (i + 1)).map f = (xs.take i).map f ++ [f x] := by
  rw [List.take_succ, h, List.map_append]
  rfl
/-- [f(x) for x in xs], the i-th turn -/
theorem getD_of {α : Type} {xs : List α} {i : Nat} (h : i < xs.length) : ∃ x, xs[i]? = some x := ⟨xs[i], by simp [h]⟩
theorem ck_allM {K : PySem.W.Frag} {α : Type} {xs : List α} {p : α → Bool} (hk : k (dat (.bool (xs.all p))) Γ) : CbK (rAllA K) [.list (xs.map fun x => .bool (p x))] k Γ := by
  have := ck_all (K := K) (bs := xs.map p) (k := k) (Γ := Γ) (by rw [all_map]; exact hk)
  rw [List.map_map] at this
  exact this
theorem getD_at {xs : List PyData} {i : Nat} {x d : PyData} (h : xs[i]? = some x) : xs.getD i d = x := by rw [List.getD_eq_getElem?_getD, h]; rfl
end
end G

namespace G
open PySem L2
section
variable {K : PySem.W.Frag} {P : Nat → Bool} {Γ : Ga} {D : Pe} {t : TS}
/-- from here on a slot's own stands still -/
theorem ws_frz {i : Nat} {g : Gp} {q : Per} (h : Γ[i]? = some (some g)) (z : Frz g q) (c : WS P t (Γ.set i (some (per q))) D) : WS P t Γ D := fun ω σ H S E m => by
  obtain ⟨v, e, p⟩ := S.2 i _ h
  have pq : q.q (vw (shut ω (i + 3)) H 0) v := z _ _ _ _ shut_0 shut_c p
  refine c (shut ω (i + 3)) σ H ⟨by rw [List.length_set]; exact S.1, fun j g' hj => ?_⟩ E (m.after ⟨shut_0, shut_ne (by omega)⟩ Pin.refl)
  rw [set_eq] at hj
  by_cases hij : i = j
  · rw [if_pos hij] at hj
    split at hj
    · cases hj
      subst hij
      exact ⟨v, e, pq⟩
    · cases hj
  · rw [if_neg hij] at hj
    obtain ⟨w, e', p'⟩ := S.2 j _ hj
    exact ⟨w, e', g'.mono shut_0 (shut_ne (by omega)) p'⟩
/-- x is not None -/
theorem we_notN {ta : TE} {k : Gp → Ga → Prop} (h : WE ta Γ fun g Γ1 => g = dat .none ∧ k (dat (.bool false)) Γ1) : WE (tOp rNotN0 ta (tC .non)) Γ k := fun ω σ H S Q f => h ω σ H S _ fun v g Γ1 ω1 H1 ⟨e, hk⟩ S1 p f1 => by
  subst e
  cases DR.non_inv p
  exact ⟨rfl, f _ _ Γ1 ω1 H1 hk S1 (DR.bl false) f1⟩
end
end G

/-! ### == by an own __eq__, and the default != over it -/
namespace GCmp
open PySem PySem.W PySem.Spec PyProof.Rows
section
variable {prog : Program} {w : World} {A : Around} {E : Value → Shared → Prop} {s : Shared} {K : Frag} {x C L f : Addr} {h₀ : Heap} {m : Str → Option Value} {ox : Obj} {od : Option Obj} {b tb : Value}
end
end GCmp

namespace G
open PySem L2
/-! ### own == and the default != as operations -/
/-- a value's type, an instance's too -/
inductive TyW (K : PySem.W.Frag) (H : Hp) : V → Value → Prop
  | d {x : V} {t : Value} : TyX K H x t → TyW K H x t
  | i {a C dx : Addr} {fs : List (Str × V)} : H a = some (.ins C dx fs) → TyW K H (.ref a) (.ref C)
theorem TyW.look {X : Cx} {pins : List (Addr × Obj)} {σ : L2.St} {H : Hp} {s : Shared} {x : V} {u t : Value} (I : Inv X pins σ H s) (rx : RelV x u) (ty : TyW X.K H x t) : PySem.W.Looks (model X.prog X.w) s.heap (typeOf u) t := by
  cases ty with
  | d ty =>
    obtain ⟨Pk, Z, pk, _⟩ := kit_of I rx ty
    exact Z.ty _ _ I.kIn pk
  | i ha =>
    cases rx
    obtain ⟨mA, J, _⟩ := ins_get I.hok ha
    obtain ⟨od, J, _⟩ := J.look
    exact J.type
def rCmpOwn (ne : Bool) (K : PySem.W.Frag) (C : Addr) (sp : Sp) (E : XK) : R2 := fun x y H Q => ∃ a dx fs t, x = V.ref a ∧ H a = some (.ins C dx fs) ∧ TyW K H y t ∧ PySem.W.notFirst K C t = true ∧ sp [x, y] H (fun z H' => ∃ b : Bool, z = .bl b ∧ Q (.bl (xor ne b)) H') E
structure EqC (K : PySem.W.Frag) (C f : Addr) : Prop where
  eq : PySem.W.findIn K (.ref C) "__eq__" = some (some (.ref f))
  fn : PySem.W.isFn K (.ref f) = true
  ne : PySem.W.findIn K (.ref C) "__ne__" = some (some (.builtin "object.__ne__"))
  ob : PySem.W.subIn K (.ref C) (.type "object") = some true
section
variable {X : Cx} {C f : Addr} {fd : FuncData} {ps : List Str} {sp : Sp} {E : XK} {CX : CXT} {n : Nat}
theorem op_eqOwn (e : EqC X.K C f) (F : FnOk X.prog X.w X.K X.mg X.base CX n f fd ps sp) (hr : Room n X.A) (hb : Binds X.K fd ps []) (hx : Passes CX X E) : OpR X (compareOp .Eq) (rCmpOwn false X.K C sp E) := by
  intro pins s σ H x y v u Q I rx ry h
  obtain ⟨a, dx, fs, t, rfl, ha, ty, nf, q⟩ := h
  have hl := ty.look I ry
  cases rx
  obtain ⟨mA, J, _⟩ := ins_get I.hok ha
  obtain ⟨od, J, _⟩ := J.look
  obtain ⟨m, hF⟩ := I.fr
  refine PySem.W.cmp_K (op := .Eq) (tb := t) hr.units0 hF I.ok.mod.kin J hl nf e.eq e.fn (wpAny_mono (run_fn (us := [.ref a, u]) (vs := [.ref a, y]) (ds := []) (dvs := []) F hr hb .nil hx I (.cons rfl (.cons ry .nil)) q) (fun v s' hv => ?_) fun _ _ z => z)
  obtain ⟨z, H', I', rz, b, ez, qz⟩ := hv
  subst ez
  cases rz
  exact ⟨.bl b, H', I', rfl, by rw [Bool.false_xor] at qz; exact qz⟩
end
section
variable {K : PySem.W.Frag} {P : Nat → Bool} {Γ : Ga} {D : Pe} {k : Gp → Ga → Prop} {ta tb te : TE} {C : Addr} {F : Fw} {E : XK} {ne : Bool}
/-- what may stand at the right of == -/
def RhsOk (K : PySem.W.Frag) (C : Addr) (q : Per) : Prop := ∀ (A H : Hp) (v : V), Same A H → q.q A v → ∃ t, TyW K H v t ∧ PySem.W.notFirst K C t = true
theorem rhs_obj {D : Addr} {ds : List (Str × PyData)} (h : PySem.W.notFirst K C (.ref D) = true) : RhsOk K C (objP D ds) := fun A H v s ⟨a, dx, fs, e, ha, _⟩ => by
  subst e
  exact ⟨_, .i (s _ _ ha), h⟩
theorem we_cmpOwn (h : WQ ta Γ fun q Γ1 => ∃ ds, q = objP C ds ∧ WQ tb Γ1 fun q' Γ2 => RhsOk K C q' ∧ F [per (objP C ds), per q'] (fun g _ => ∃ b, g = dat (.bool b) ∧ k (dat (.bool (xor ne b))) Γ2) (fun _ _ => False)) :
    WE (tOp (rCmpOwn ne K C (SpG 2 F) E) ta tb) Γ k := we_op (h.imp fun q Γ1 ⟨ds, e, h1⟩ => h1.imp fun q' Γ2 ⟨hr, hF⟩ => by
  subst e
  intro ω σ H v w S pv pw Q f
  have pv' := pv
  obtain ⟨a, dx, fs, rfl, ha, hfs⟩ := pv'
  obtain ⟨t, ty, nf⟩ := hr _ H w (fun _ _ z => vw_H z) pw
  refine ⟨a, dx, fs, t, rfl, vw_H ha, ty, nf, call_per (qs := [objP C ds, q']) (k := fun g _ => ∃ b, g = dat (.bool b) ∧ k (dat (.bool (xor ne b))) Γ2) (kx := fun _ => False) S (fun j p z h1 h2 => ?_) rfl rfl hF (fun z g ω' H' ⟨b, eg, hk⟩ S' p fr => ?_) fun _ _ _ hx => hx.elim⟩
  · match j, h1, h2 with
    | 0, h1, h2 =>
      cases h1
      cases h2
      exact pv
    | 1, h1, h2 =>
      cases h1
      cases h2
      exact pw
    | j + 2, h1, _ => simp at h1
  · subst eg
    exact ⟨b, DR.bl_inv p, f _ _ Γ2 ω' H' hk S' (DR.bl _) fr⟩)
/-! ### is, is not, of bools -/
theorem ok_isB {a b : Bool} (hk : k (dat (.bool (decide (a = b)))) Γ) : OpK rIsB (.bool a) (.bool b) k Γ := ok_of (q := dP (.bool (decide (a = b)))) (fun A H v w _ hv hw Q g => by
  cases hv.bl_inv
  cases hw.bl_inv
  exact ⟨a, b, rfl, rfl, g _ (DR.bl _)⟩) hk
theorem ok_notB {a b : Bool} (hk : k (dat (.bool (!decide (a = b)))) Γ) : OpK rNotB (.bool a) (.bool b) k Γ := ok_of (q := dP (.bool (!decide (a = b)))) (fun A H v w _ hv hw Q g => by
  cases hv.bl_inv
  cases hw.bl_inv
  exact ⟨a, b, rfl, rfl, g _ (DR.bl _)⟩) hk
/-! ### isinstance of an own class -/
structure InsC (K : PySem.W.Frag) (C : Addr) : Prop where
  cl : Cls K C
  ha : PySem.W.findIn K (.ref C) "__class__" = some (some (.builtin "object.__class__"))
  hn : PySem.W.specialIn K (.builtin "object.__class__") "__get__" = some (some (.builtin "getset_descriptor.__get__"))
  ht : PySem.W.takesIn K (.builtin "object.__class__") = some true
  hm : PySem.W.mroIn K C (.type "object") = some true
theorem we_isOwn {D : Addr} (i : InsC K C) (h : WQ ta Γ fun q Γ1 => ∃ ds, q = objP C ds ∧ ∃ b, PySem.W.kitOne K (.ref C) (.ref D) = some b ∧ k (dat (.bool b)) Γ1) : WE (tCB (rIsiA K) (tCons ta (tCons (tC (.ref D)) tNil))) Γ k := fun ω σ H S Q f => h ω σ H S _ fun v q Γ1 ω1 H1 ⟨ds, e, b, hb, hk⟩ S1 p f1 => by
  subst e
  obtain ⟨a, dx, fs, rfl, ha, hfs⟩ := p
  exact ⟨.ref a, .ref D, .ref C, .ref D, b, rfl, .own D, .base (.ins (vw_H ha) i.cl i.ha i.hn i.ht i.hm), hb, f _ _ Γ1 ω1 H1 hk S1 (DR.bl b) f1⟩
theorem we_isOwnD {D : Addr} (h : WQ ta Γ fun q Γ1 => ∃ d, q = dP d ∧ ∃ b, (∀ n, tyD d = some n → PySem.W.kitOne K (.type n) (.ref D) = some b) ∧ k (dat (.bool b)) Γ1) : WE (tCB (rIsiA K) (tCons ta (tCons (tC (.ref D)) tNil))) Γ k := fun ω σ H S Q f => h ω σ H S _ fun v q Γ1 ω1 H1 ⟨d, e, b, hb, hk⟩ S1 p f1 => by
  subst e
  obtain ⟨n, en⟩ := Option.isSome_iff_exists.mp (DR.ty p)
  exact ⟨v, .ref D, .type n, .ref D, b, rfl, .own D, tyD_ok (DR.mono (fun _ _ z => vw_H z) d p) en, hb n en, f _ _ Γ1 ω1 H1 hk S1 (DR.bl b) f1⟩
end
/-! ### facts of a class, as a Bool -/
def tyNames : List String := ["NoneType", "bool", "int", "str", "list", "tuple", "dict"]
theorem tyNames_all {d : PyData} {n : String} (h : tyD d = some n) : n ∈ tyNames := by
  cases d <;> cases h <;> decide
/-- other things are no instances of the class at C; its != is the default one -/
def othB (K : PySem.W.Frag) (C : Addr) : Bool := He.eqO (PySem.W.findIn K (.ref C) "__ne__") (some (some (.builtin "object.__ne__"))) && (decide (PySem.W.subIn K (.ref C) (.type "object") = some true) &&
  (PySem.W.notFirst K C (.ref C) && (tyNames.all (fun n => PySem.W.notFirst K C (.type n) && decide (PySem.W.kitOne K (.type n) (.ref C) = some false)) && decide (PySem.W.kitOne K (.ref C) (.ref C) = some true))))
structure Oth (K : PySem.W.Frag) (C : Addr) : Prop where
  ne : PySem.W.findIn K (.ref C) "__ne__" = some (some (.builtin "object.__ne__"))
  ob : PySem.W.subIn K (.ref C) (.type "object") = some true
  own : PySem.W.notFirst K C (.ref C) = true
  nf : ∀ (d : PyData) (n : String), tyD d = some n → PySem.W.notFirst K C (.type n) = true
  no : ∀ (d : PyData) (n : String), tyD d = some n → PySem.W.kitOne K (.type n) (.ref C) = some false
  yes : PySem.W.kitOne K (.ref C) (.ref C) = some true
theorem oth_ok {K : PySem.W.Frag} {C : Addr} (h : othB K C = true) : Oth K C := by
  obtain ⟨h1, h⟩ := He.ba h
  obtain ⟨h2, h⟩ := He.ba h
  obtain ⟨h3, h⟩ := He.ba h
  obtain ⟨h4, h5⟩ := He.ba h
  have h4' := List.all_eq_true.mp h4
  exact ⟨He.eqO_ok h1, of_decide_eq_true h2, h3, fun d n e => (He.ba (h4' n (tyNames_all e))).1, fun d n e => of_decide_eq_true (He.ba (h4' n (tyNames_all e))).2, of_decide_eq_true h5⟩
def insB (K : PySem.W.Frag) (C : Addr) : Bool := He.eqO (PySem.W.findIn K (.ref C) "__class__") (some (some (.builtin "object.__class__"))) && (He.eqO (PySem.W.specialIn K (.builtin "object.__class__") "__get__") (some (some (.builtin "getset_descriptor.__get__"))) &&
  (decide (PySem.W.takesIn K (.builtin "object.__class__") = some true) && decide (PySem.W.mroIn K C (.type "object") = some true)))
theorem ins_ok {K : PySem.W.Frag} {C : Addr} (c : Cls K C) (h : insB K C = true) : InsC K C := by
  obtain ⟨h1, h⟩ := He.ba h
  obtain ⟨h2, h⟩ := He.ba h
  obtain ⟨h3, h4⟩ := He.ba h
  exact ⟨c, He.eqO_ok h1, He.eqO_ok h2, of_decide_eq_true h3, of_decide_eq_true h4⟩
end G

namespace G
open PySem L2
/-! ### a list of things that stand still, of any kind -/
def PRs (A : Hp) (xs : List V) (qs : List Per) : Prop := xs.length = qs.length ∧ ∀ (i : Nat) (x : V) (q : Per), xs[i]? = some x → qs[i]? = some q → q.q A x
theorem PRs.nil {A : Hp} : PRs A [] [] := ⟨rfl, fun i x q h _ => by simp at h⟩
theorem PRs.mono {A A' : Hp} {xs : List V} {qs : List Per} (s : Same A A') (h : PRs A xs qs) : PRs A' xs qs := ⟨h.1, fun i x q a b => q.mono s (h.2 i x q a b)⟩
theorem PRs.length {A : Hp} {xs : List V} {qs : List Per} (h : PRs A xs qs) : xs.length = qs.length := h.1
theorem PRs.snoc {A : Hp} {xs : List V} {qs : List Per} {x : V} {q : Per} (h : PRs A xs qs) (p : q.q A x) : PRs A (xs ++ [x]) (qs ++ [q]) := by
  refine ⟨by simp [h.1], fun i y r a b => ?_⟩
  by_cases hi : i < xs.length
  · rw [List.getElem?_append_left hi] at a
    rw [List.getElem?_append_left (by rw [← h.1]; exact hi)] at b
    exact h.2 i y r a b
  · rw [List.getElem?_append_right (by omega)] at a
    rw [List.getElem?_append_right (by rw [← h.1]; omega), ← h.1] at b
    match e : i - xs.length, a, b with
    | 0, a, b =>
      cases a
      cases b
      exact p
    | n + 1, a, _ => simp at a
section
variable {K : PySem.W.Frag} {P : Nat → Bool} {Γ : Ga} {D : Pe} {k : Gp → Ga → Prop} {kt : Bool → Ga → Prop} {kg : Ga → Prop} {te tl : TE} {tt : TT} {t u tb : TS} {ta : TA} {g : TG}
end
/-! ### rows of ints; slices -/
def rowI (ns : List Int) : PyData := .list (ns.map .int)
theorem lay_rowsI {ls : List (List Int)} : Lay 2 (.list (ls.map rowI)) := lay_list fun d hd => by
  obtain ⟨l, _, rfl⟩ := List.mem_map.mp hd
  exact lay_ints
theorem eqv_rowsI {xs ys : List (List Int)} : PyData.eqv (.list (xs.map rowI)) (.list (ys.map rowI)) = decide (xs = ys) := eqv_list_inj (f := rowI) fun _ _ => eqv_ints
/-! ### more of slices -/
theorem argD5 {a b c d e : PyData} : ArgD [.q (dP a), .q (dP b), .q (dP c), .q (dP d), .q (dP e)] [a, b, c, d, e] := ⟨rfl, rfl, rfl, rfl, rfl, trivial⟩
theorem argD6 {a b c d e f : PyData} : ArgD [.q (dP a), .q (dP b), .q (dP c), .q (dP d), .q (dP e), .q (dP f)] [a, b, c, d, e, f] := ⟨rfl, rfl, rfl, rfl, rfl, rfl, trivial⟩
theorem argD7 {a b c d e f g : PyData} : ArgD [.q (dP a), .q (dP b), .q (dP c), .q (dP d), .q (dP e), .q (dP f), .q (dP g)] [a, b, c, d, e, f, g] := ⟨rfl, rfl, rfl, rfl, rfl, rfl, rfl, trivial⟩
theorem argD9 {a b c d e f g h i : PyData} : ArgD [.q (dP a), .q (dP b), .q (dP c), .q (dP d), .q (dP e), .q (dP f), .q (dP g), .q (dP h), .q (dP i)] [a, b, c, d, e, f, g, h, i] := ⟨rfl, rfl, rfl, rfl, rfl, rfl, rfl, rfl, rfl, trivial⟩
end G

/-! ### promises kept where no repr is under way (guards: none) -/
namespace G
open PySem PySem.Spec PyProof.Rows L2
section
variable {P : Program} {w : World} {K : PySem.W.Frag} {mg : Str → Option Value} {base : Heap} {x qual : Str} {params : Arguments} {body : List Stmt} {scope : Scope} {dvs : List V} {kws : List (Str × V)} {f : Addr} {fd : FuncData}
end
section
variable {X : Cx} {CX : CXT} {k : Nat} {f : Addr} {fd : FuncData} {ps : List Str} {sp : Sp} {E : XK} {ds : List Value} {dvs : List V} {x : Str} {p pos : Pos} {e : Expr} {es : List Expr} {t : TA}
end
end G

/-! ### repr of data -/
namespace G
open PySem PySem.Spec PyProof.Rows L2
section
variable {X : Cx} {pins : List (Addr × Obj)} {σ : L2.St} {H : Hp} {s : Shared}
/-- what may be shown -/
structure Shw (d : PyData) : Prop where
  ok : d.showable = true
  dp : d.depth ≤ 20
  few : d.shown.length ≤ sizeLine
def rReprD : List V → Hp → VK → Prop := fun xs H Q => ∃ x d, xs = [x] ∧ DR H x d ∧ Shw d ∧ Q (.str d.shown) H
end
end G

namespace G
open PySem PySem.Spec PyProof.Rows L2
/-! ### data whose text is short -/
structure Tin (p b : Nat) (d : PyData) : Prop where
  ls : d.leavesShort 41 = true
  sh : d.showable = true
  dp : d.depth ≤ p
  bk : d.bulk ≤ b
theorem Tin.up {p b p' b' : Nat} {d : PyData} (h : Tin p b d) (hp : p ≤ p') (hb : b ≤ b') : Tin p' b' d := ⟨h.ls, h.sh, Nat.le_trans h.dp hp, Nat.le_trans h.bk hb⟩
section
variable {K : PySem.W.Frag} {Γ : Ga} {k : Gp → Ga → Prop} {ta : TE}
theorem we_repr (h : WQ ta Γ fun q Γ1 => ∃ d, q = dP d ∧ Shw d ∧ k (dat (.str d.shown)) Γ1) : WE (tCB rReprD (tCons ta tNil)) Γ k := fun ω σ H S Q f => h ω σ H S _ fun v q Γ1 ω1 H1 ⟨d, e, hs, hk⟩ S1 p f1 => by
  subst e
  exact ⟨v, d, rfl, DR.mono (fun _ _ z => vw_H z) d p, hs, f _ _ Γ1 ω1 H1 hk S1 (DR.str _) f1⟩
theorem ok_eqR {a b : Str} (hk : k (dat (.bool (decide (a = b)))) Γ) : OpK rEq (.str a) (.str b) k Γ := ok_of (q := dP (.bool (decide (a = b)))) (fun A H v w _ hv hw Q g => by
  cases hv.str_inv
  cases hw.str_inv
  refine ⟨rfl, ?_⟩
  have e : decide (V.str a = V.str b) = decide (a = b) := decide_eq_decide.mpr ⟨fun z => V.str.inj z, fun z => congrArg V.str z⟩
  rw [e]
  exact g _ (DR.bl _)) hk
theorem ok_neR {a b : Str} (hk : k (dat (.bool (!decide (a = b)))) Γ) : OpK rNe (.str a) (.str b) k Γ := ok_of (q := dP (.bool (!decide (a = b)))) (fun A H v w _ hv hw Q g => by
  cases hv.str_inv
  cases hw.str_inv
  refine ⟨rfl, ?_⟩
  have e : decide (V.str a = V.str b) = decide (a = b) := decide_eq_decide.mpr ⟨fun z => V.str.inj z, fun z => congrArg V.str z⟩
  rw [e]
  exact g _ (DR.bl _)) hk
end
end G

/-! ### try: .. except C as e: m = e : the error is kept, and asked later -/
namespace G
open PySem PySem.Spec PyProof.Rows L2
section
variable {X : Cx} {pins : List (Addr × Obj)} {σ : L2.St} {H : Hp} {s : Shared}
end
section
variable {X : Cx} {x n m : Str} {c : Value} {i j : Nat} {body : List Stmt} {b₀ : Stmt} {suite : List Stmt} {np pos pos' : Pos} {tb : WX → TS}
end
end G

namespace G
open PySem PySem.Spec PyProof.Rows L2
/-! ### C(..) and o.m(..) where what is raised is wished for at the slots -/
section
variable {X : Cx} {CX : CXT} {k : Nat} {f C : Addr} {fd : FuncData} {ps : List Str} {sp : Sp} {E : L2.St → XK} {x m : Str} {p pos apos : Pos} {e o : Expr} {es : List Expr} {ta : TE} {t : TA}
end
/-! ### the body of a try: W what is wished of its errors -/
section
variable {K : PySem.W.Frag} {P : Nat → Bool} {Γ : Ga} {D : Pe} {k : Gp → Ga → Prop} {te tl : TE} {c : TT} {t u : TS} {tb : WX → TS} {ta : TA} {n : Nat} {F : Fw} {kx : Value → Ga → Prop} {C : Addr} {m : Str}
theorem args_q {σ : L2.St} {A : Hp} : ∀ {as : List Arg} {vs : List V}, slots as = [] → ArgsOk σ A as vs → (qsOf as).length = vs.length ∧ as.length = vs.length ∧ ∀ (j : Nat) (q : Per) (v : V), (qsOf as)[j]? = some q → vs[j]? = some v → q.q A v
  | [], _, _, h => by cases h; exact ⟨rfl, rfl, fun j q v e => by simp [qsOf] at e⟩
  | .s i :: as, _, hs, _ => by cases hs
  | .q q :: as, _, hs, h => by
    cases h with | cons y z =>
    obtain ⟨l1, l2, l3⟩ := args_q (as := as) hs z
    refine ⟨by simp [qsOf, l1], by simp [l2], fun j q' v e1 e2 => ?_⟩
    match j, e1, e2 with
    | 0, e1, e2 =>
      cases e1
      cases e2
      exact y
    | j + 1, e1, e2 => exact l3 j q' v (by simpa [qsOf] using e1) (by simpa using e2)
end
end G

/-! ### tuple(xs), {}, repr, and == of strings -/
namespace G
open PySem PySem.Spec PyProof.Rows L2
section
variable {K : PySem.W.Frag} {Γ : Ga} {k : Gp → Ga → Prop} {tr : TR}
def rTupOf (K : PySem.W.Frag) : List V → Hp → VK → Prop := fun xs H Q => ∃ p ys, xs = [.ref p] ∧ ((SqL K H p ys ∧ ∀ l, H l = none → Q (.ref l) (upd H l (.tup ys))) ∨ (SqT K H p ys ∧ Q (.ref p) H))
theorem c_tuple {X : Cx} : CallR X (.type "tuple") (rTupOf X.K) := call_tuple_of
theorem ck_tuple {ds : List PyData} (hk : k (dat (.tuple ds)) Γ) : CbK (rTupOf K) [.list ds] k Γ := fun ω σ H vs S h Q f => by
  cases h with | cons x y =>
  cases y
  obtain ⟨a, xs, rfl, ha, hd⟩ := x.lst_inv
  exact ⟨a, xs, rfl, .inl ⟨SqL.of (vw_H ha), fun l hl => f (.ref l) (dat (.tuple ds)) Γ (paint ω l 0) _ hk (S.new 0 hl) (DR.tup paint_at (hd.mono (paint_same hl 0))) (paint_fr hl)⟩⟩
theorem argD8 {a b c d e f g h : PyData} : ArgD [.q (dP a), .q (dP b), .q (dP c), .q (dP d), .q (dP e), .q (dP f), .q (dP g), .q (dP h)] [a, b, c, d, e, f, g, h] := ⟨rfl, rfl, rfl, rfl, rfl, rfl, rfl, rfl, trivial⟩
theorem argD10 {a b c d e f g h i j : PyData} : ArgD [.q (dP a), .q (dP b), .q (dP c), .q (dP d), .q (dP e), .q (dP f), .q (dP g), .q (dP h), .q (dP i), .q (dP j)] [a, b, c, d, e, f, g, h, i, j] := ⟨rfl, rfl, rfl, rfl, rfl, rfl, rfl, rfl, rfl, rfl, trivial⟩
theorem we_dnew (h : k (dat (.dict [])) Γ) : WE tDNewK Γ k := fun ω σ H S Q f p hp =>
  f (.ref p) (dat (.dict [])) Γ (paint ω p 0) _ h (S.new 0 hp) (DR.dic (ps := []) paint_at) (paint_fr hp)
end
end G

/-! ### isinstance of an error that was caught and kept -/
namespace G
open PySem PySem.Spec PyProof.Rows L2
section
variable {X : Cx}
end
section
variable {K : PySem.W.Frag} {Γ : Ga} {k : Gp → Ga → Prop}
end
/-! ### the facts as a Bool -/
end G

namespace G
open PySem PySem.Spec PyProof.Rows L2
def top (i : Nat) : Stmt := PySem.Challenge.pw_ownhues_k73_webs_written_and_read.main.body.getD i (.Pass ⟨0, 0, 0, 0⟩)
abbrev s_is_count : Stmt := top 6
abbrev s_is_tie : Stmt := top 8
abbrev s_check_web : Stmt := top 9
abbrev s_neighbour_lists : Stmt := top 10
abbrev s_Web_init_ : Stmt := inClass (top 11) 0
abbrev s_Web_ties : Stmt := inClass (top 11) 1
abbrev s_Web_len_ : Stmt := inClass (top 11) 2
abbrev s_Web_eq_ : Stmt := inClass (top 11) 3
abbrev s_is_integer_word : Stmt := top 14
abbrev s_integers_of : Stmt := top 15
abbrev s_show_web : Stmt := top 17
abbrev s_read_web : Stmt := top 18
abbrev s_tie_of_word : Stmt := top 19
abbrev s_law_urn : Stmt := top 21
abbrev s_law_pick : Stmt := top 22
abbrev s_law_shuffled : Stmt := top 23
abbrev s_law_web : Stmt := top 24
abbrev s_law_dense : Stmt := top 25
abbrev s_law_right : Stmt := top 26
abbrev s_law : Stmt := top 27
def d_is_count : He.DefD := ⟨("is_count", none), "is_count", "is_count", defArgs s_is_count, defBody s_is_count, defScope s_is_count, [], []⟩
def d_is_tie : He.DefD := ⟨("_is_tie", none), "_is_tie", "_is_tie", defArgs s_is_tie, defBody s_is_tie, defScope s_is_tie, [], []⟩
def d_check_web : He.DefD := ⟨("_check_web", none), "_check_web", "_check_web", defArgs s_check_web, defBody s_check_web, defScope s_check_web, [], []⟩
def d_neighbour_lists : He.DefD := ⟨("_neighbour_lists", none), "_neighbour_lists", "_neighbour_lists", defArgs s_neighbour_lists, defBody s_neighbour_lists, defScope s_neighbour_lists, [], []⟩
def d_Web_init_ : He.DefD := ⟨("Web", some "__init__"), "__init__", "Web.__init__", defArgs s_Web_init_, defBody s_Web_init_, defScope s_Web_init_, [], []⟩
def d_Web_len_ : He.DefD := ⟨("Web", some "__len__"), "__len__", "Web.__len__", defArgs s_Web_len_, defBody s_Web_len_, defScope s_Web_len_, [], []⟩
def d_Web_eq_ : He.DefD := ⟨("Web", some "__eq__"), "__eq__", "Web.__eq__", defArgs s_Web_eq_, defBody s_Web_eq_, defScope s_Web_eq_, [], []⟩
def d_is_integer_word : He.DefD := ⟨("is_integer_word", none), "is_integer_word", "is_integer_word", defArgs s_is_integer_word, defBody s_is_integer_word, defScope s_is_integer_word, [], []⟩
def d_integers_of : He.DefD := ⟨("integers_of", none), "integers_of", "integers_of", defArgs s_integers_of, defBody s_integers_of, defScope s_integers_of, [], []⟩
def d_show_web : He.DefD := ⟨("show_web", none), "show_web", "show_web", defArgs s_show_web, defBody s_show_web, defScope s_show_web, [], []⟩
def d_read_web : He.DefD := ⟨("read_web", none), "read_web", "read_web", defArgs s_read_web, defBody s_read_web, defScope s_read_web, [], []⟩
def d_tie_of_word : He.DefD := ⟨("_tie_of_word", none), "_tie_of_word", "_tie_of_word", defArgs s_tie_of_word, defBody s_tie_of_word, defScope s_tie_of_word, [], []⟩
def d_law_urn : He.DefD := ⟨("_law_urn", none), "_law_urn", "_law_urn", defArgs s_law_urn, defBody s_law_urn, defScope s_law_urn, [], []⟩
def d_law_pick : He.DefD := ⟨("_law_pick", none), "_law_pick", "_law_pick", defArgs s_law_pick, defBody s_law_pick, defScope s_law_pick, [], []⟩
def d_law_shuffled : He.DefD := ⟨("_law_shuffled", none), "_law_shuffled", "_law_shuffled", defArgs s_law_shuffled, defBody s_law_shuffled, defScope s_law_shuffled, [], []⟩
def d_law_web : He.DefD := ⟨("_law_web", none), "_law_web", "_law_web", defArgs s_law_web, defBody s_law_web, defScope s_law_web, [], []⟩
def d_law_dense : He.DefD := ⟨("_law_dense", none), "_law_dense", "_law_dense", defArgs s_law_dense, defBody s_law_dense, defScope s_law_dense, [], []⟩
def d_law_right : He.DefD := ⟨("_law_right", none), "_law_right", "_law_right", defArgs s_law_right, defBody s_law_right, defScope s_law_right, [], []⟩
def d_law : He.DefD := ⟨("law", none), "law", "law", defArgs s_law, defBody s_law, defScope s_law, [], []⟩
def q_Web_ties : PrD := ⟨"Web", "ties", "Web.ties", defArgs s_Web_ties, defBody s_Web_ties, defScope s_Web_ties⟩
def fn : List He.DefD := [d_is_count, d_is_tie, d_check_web, d_neighbour_lists, d_Web_init_, d_Web_len_, d_Web_eq_, d_is_integer_word, d_integers_of, d_show_web, d_read_web, d_tie_of_word, d_law_urn, d_law_pick, d_law_shuffled, d_law_web, d_law_dense, d_law_right, d_law]
def pr : List PrD := [q_Web_ties]
def fa : List He.Fa := [.glo "is_count", .glo "_is_tie", .glo "_check_web", .glo "_neighbour_lists", .glo "is_integer_word", .glo "integers_of", .glo "show_web", .glo "read_web", .glo "_tie_of_word", .glo "_law_urn", .glo "_law_pick", .glo "_law_shuffled", .glo "_law_web", .glo "_law_dense", .glo "_law_right", .glo "law", .glo "InvalidWeb", .glo "InvalidText", .glo "Web", .cls "Web", .noat "Web" "_ties", .noat "Web" "_near", .mkr "Web", .meth "Web" "__len__", .meth "Web" "__eq__", .exc "InvalidWeb", .exc "InvalidText", .int "MOST_DIGITS" 30, .free "all", .free "bool", .free "int", .free "isinstance", .free "len", .free "list", .free "max", .free "min", .free "range", .free "set", .free "sorted", .free "str", .free "tuple"]
def xf (K : PySem.W.Frag) : Bool := insB K (He.ga K "Web") && (othB K (He.ga K "Web"))
def loose : List PySem.Str := (["_wall", "__name__", "HueError", "InvalidWeb", "InvalidText", "is_count", "_is_tie", "_check_web", "_neighbour_lists", "Web", "MOST_DIGITS", "is_integer_word", "integers_of", "show_web", "read_web", "_tie_of_word", "_law_urn", "_law_pick", "_law_shuffled", "_law_web", "_law_dense", "_law_right"] : List PySem.Str)
abbrev R : PySem.W.OpenRow := PySem.W.OpenLaw.row PySem.Challenge.rw_ownhues_k73_webs_written_and_read
abbrev hk : PySem.W.Hook := hookP xf 6 fa fn pr
def ob (s : PySem.W.SharedT) : AlP := obsPG xf 6 fa fn pr (HandSHeadRun.getT s)
theorem ob_eq (s : PySem.W.SharedT) : ob s = hk.obs s.abs := obsPG_eq (HandSHeadRun.getT_eq s)
theorem run (w : World) : HandSHeadRun.RunEq R (PySem.W.view R.prog [27]) hk ob 9000 loose w := by
  intro os
  kernel_rfl

end G

namespace G
open PySem
/-! ### a text of words, cut again -/
theorem cut_uniq {c : Nat} : ∀ {a b r s : List Nat}, c ∉ a → c ∉ b → a ++ c :: r = b ++ c :: s → a = b ∧ r = s
  | [], [], r, s, _, _, h => by
    injection h with _ h
    exact ⟨rfl, h⟩
  | [], y :: b, r, s, _, hb, h => by
    injection h with h1 _
    exact absurd (by simp [h1]) hb
  | x :: a, [], r, s, ha, _, h => by
    injection h with h1 _
    exact absurd (by simp [h1]) ha
  | x :: a, y :: b, r, s, ha, hb, h => by
    injection h with h1 h2
    obtain ⟨e1, e2⟩ := cut_uniq (a := a) (b := b) (fun h => ha (by simp [h])) (fun h => hb (by simp [h])) h2
    exact ⟨by rw [h1, e1], e2⟩
def sepS (c : Nat) : Str := ⟨#[c]⟩
theorem app_cps (a b : Str) : (a ++ b).cps.toList = a.cps.toList ++ b.cps.toList := by
  show (a.cps ++ b.cps).toList = _
  simp
theorem str_ext {a b : Str} (h : a.cps.toList = b.cps.toList) : a = b := by
  obtain ⟨a⟩ := a
  obtain ⟨b⟩ := b
  exact congrArg Str.mk (Array.toList_inj.mp h)
theorem join_two {c : Nat} {x y : Str} {r : List Str} : (Str.join (sepS c) (x :: y :: r)).cps.toList = x.cps.toList ++ c :: (Str.join (sepS c) (y :: r)).cps.toList := by
  rw [PyProof.Rows.join_cons_cons, app_cps, app_cps]
  show (x.cps.toList ++ [c]) ++ _ = _
  simp
theorem join_uniq {c : Nat} : ∀ {xs ys : List Str}, xs ≠ [] → ys ≠ [] → (∀ x ∈ xs, c ∉ x.cps.toList) → (∀ y ∈ ys, c ∉ y.cps.toList) → Str.join (sepS c) xs = Str.join (sepS c) ys → xs = ys
  | [], _, h, _, _, _, _ => absurd rfl h
  | _, [], _, h, _, _, _ => absurd rfl h
  | [x], [y], _, _, _, _, h => by
    rw [PyProof.Rows.join_one, PyProof.Rows.join_one] at h
    rw [h]
  | [x], y :: y2 :: ys, _, _, hx, _, h => by
    have h := congrArg (fun s : Str => s.cps.toList) h
    rw [PyProof.Rows.join_one, join_two] at h
    exact absurd (by rw [h]; simp) (hx x (by simp))
  | x :: x2 :: xs, [y], _, _, _, hy, h => by
    have h := congrArg (fun s : Str => s.cps.toList) h
    rw [PyProof.Rows.join_one, join_two] at h
    exact absurd (by rw [← h]; simp) (hy y (by simp))
  | x :: x2 :: xs, y :: y2 :: ys, _, _, hx, hy, h => by
    have h := congrArg (fun s : Str => s.cps.toList) h
    rw [join_two, join_two] at h
    obtain ⟨e1, e2⟩ := cut_uniq (hx x (by simp)) (hy y (by simp)) h
    have ih := join_uniq (xs := x2 :: xs) (ys := y2 :: ys) (by simp) (by simp) (fun z hz => hx z (by simp [hz])) (fun z hz => hy z (by simp [hz])) (str_ext e2)
    rw [str_ext e1, ih]
theorem split_join {c : Nat} {xs : List Str} (h0 : xs ≠ []) (h : ∀ x ∈ xs, c ∉ x.cps.toList) : Txt.split (Str.join (sepS c) xs) (sepS c) = xs := by
  refine join_uniq (c := c) (fun e => ?_) h0 (StrLaws.split_free _ c) h (StrLaws.join_split _ _)
  have := PyProof.Rows.split_pos (Str.join (sepS c) xs) (sepS c)
  rw [e] at this
  exact absurd this (by decide)
theorem txt_join (s : Str) (xs : List Str) : Txt.join s xs = Str.join s xs := StrLaws.glued_eq_join s xs
theorem empty_app (x : Str) : Str.empty ++ x = x := str_ext (by rw [app_cps]; rfl)
end G

/-! ### len(set(xs)), xs a list of ints -/
namespace G
open PySem PySem.Spec PyProof.Rows L2
theorem met_nd (f : Nat → Int) : ∀ i, (firstMet f i).Nodup
  | 0 => by rw [firstMet_zero]; exact List.nodup_nil
  | i + 1 => by
    rw [firstMet_succ]
    unfold step_dedup
    have ih := met_nd f i
    split
    · exact ih
    · rename_i h
      refine List.nodup_append.mpr ⟨ih, by simp, fun a ha b hb e => ?_⟩
      rw [List.mem_singleton.mp hb] at e
      exact h (List.any_eq_true.mpr ⟨a, ha, by simp [e]⟩)
theorem met_mem (f : Nat → Int) (i : Nat) (k : Int) : k ∈ firstMet f i ↔ ∃ j, j < i ∧ f j = k := by
  have h := firstMet_any f i k
  have e1 : k ∈ firstMet f i ↔ (firstMet f i).any (· == k) = true := by
    rw [List.any_eq_true]
    exact ⟨fun h => ⟨k, h, by simp⟩, fun ⟨x, hx, e⟩ => by rw [← eq_of_beq e]; exact hx⟩
  rw [e1, h, List.any_eq_true]
  constructor
  · rintro ⟨x, hx, e⟩
    obtain ⟨j, hj, rfl⟩ := List.mem_map.mp hx
    exact ⟨j, List.mem_range.mp hj, eq_of_beq e⟩
  · rintro ⟨j, hj, e⟩
    exact ⟨f j, List.mem_map.mpr ⟨j, List.mem_range.mpr hj, rfl⟩, by simp [e]⟩
theorem int_nd_len : ∀ (l D : List Int), l.Nodup → (∀ x ∈ l, x ∈ D) → l.length ≤ D.length
  | [], D, _, _ => Nat.zero_le _
  | a :: l, D, h, hs => by
    have ha : a ∈ D := hs a (by simp)
    obtain ⟨h1, h2⟩ := List.nodup_cons.mp h
    have := int_nd_len l (D.erase a) h2 fun x hx => (List.mem_erase_of_ne (fun (e : x = a) => h1 (e ▸ hx))).mpr (hs x (by simp [hx]))
    rw [List.length_erase_of_mem ha] at this
    have hp : 0 < D.length := List.length_pos_of_mem ha
    simp only [List.length_cons]
    omega
theorem nd_of_len : ∀ (ns l : List Int), l.Nodup → (∀ x ∈ l, x ∈ ns) → l.length = ns.length → ns.Nodup
  | [], _, _, _, _ => List.nodup_nil
  | a :: t, l, h, hs, e => by
    have ha : a ∉ t := fun ha => by
      have := int_nd_len l t h fun x hx => by
        rcases List.mem_cons.mp (hs x hx) with e | h
        · rw [e]; exact ha
        · exact h
      simp only [List.length_cons] at e
      omega
    by_cases hl : a ∈ l
    · refine List.nodup_cons.mpr ⟨ha, nd_of_len t (l.erase a) (h.erase a) (fun x hx => ?_) (by rw [List.length_erase_of_mem hl, e]; rfl)⟩
      have h2 := (h.mem_erase_iff).mp hx
      rcases List.mem_cons.mp (hs x h2.2) with e | h
      · exact absurd e h2.1
      · exact h
    · have := int_nd_len l t h fun x hx => by
        rcases List.mem_cons.mp (hs x hx) with e | h
        · exact absurd (e ▸ hx) hl
        · exact h
      simp only [List.length_cons] at e
      omega
/-- as many different ones as there are, or fewer -/
theorem met_len {ns : List Int} : (firstMet (fun i => ns.getD i 0) ns.length).length ≤ ns.length ∧ ((firstMet (fun i => ns.getD i 0) ns.length).length = ns.length ↔ ns.Nodup) := by
  have hle := firstMet_length_le (fun i => ns.getD i 0) ns.length
  have hm : ∀ k : Int, k ∈ firstMet (fun i => ns.getD i 0) ns.length ↔ k ∈ ns := fun k => by
    rw [met_mem]
    constructor
    · rintro ⟨j, hj, rfl⟩
      rw [List.getD_eq_getElem?_getD, List.getElem?_eq_getElem hj]
      exact List.getElem_mem hj
    · intro h
      obtain ⟨j, hj, e⟩ := List.getElem_of_mem h
      exact ⟨j, hj, by rw [List.getD_eq_getElem?_getD, List.getElem?_eq_getElem hj, e]; rfl⟩
  refine ⟨hle, fun e => ?_, fun h => Nat.le_antisymm hle (int_nd_len _ _ h fun x hx => (hm x).mpr hx)⟩
  exact nd_of_len _ _ (met_nd _ _) (fun x hx => (hm x).mp hx) e
def tLenSetI (K : PySem.W.Frag) (ta : TE) : TE := fun σ H Q => ta σ H fun x H1 => ∃ (l : Addr) (ns : List Int), x = .ref l ∧ SqL K H1 l (ns.map V.int) ∧ ns.length < 4000 ∧ Q (.int ((firstMet (fun i => ns.getD i 0) ns.length).length : Nat)) H1
section
variable {K : PySem.W.Frag} {Γ : Ga} {k : Gp → Ga → Prop} {te : TE}
theorem we_lenSetI (h : WQ te Γ fun q Γ1 => ∃ ns : List Int, q = dP (.list (ns.map .int)) ∧ ns.length < 4000 ∧ ∀ m : Nat, m ≤ ns.length → (m = ns.length ↔ ns.Nodup) → k (dat (.int m)) Γ1) : WE (tLenSetI K te) Γ k := fun ω σ H S Q f => h ω σ H S _ fun v q Γ1 ω1 H1 ⟨ns, e, hl, hk⟩ S1 p f1 => by
  subst e
  obtain ⟨a, xs, rfl, ha, hd⟩ := DR.lst_inv p
  rw [hd.ints] at ha
  have hm := met_len (ns := ns)
  exact ⟨a, ns, rfl, SqL.of (vw_H ha), hl, f _ _ Γ1 ω1 H1 (hk _ hm.1 hm.2) S1 (DR.int _) f1⟩
end
end G

/-! ### o.m(..), truth of a list, xs[::-1] -/
namespace G
open PySem PySem.Spec PyProof.Rows L2
section
variable {K : PySem.W.Frag} {P : Nat → Bool} {Γ : Ga} {k : Gp → Ga → Prop} {kb : Bool → Ga → Prop} {te ta : TE} {tr : TA} {n : Nat} {F : Fw} {E : XK} {C : Addr} {m : Str}
theorem we_meth {i : Nat} {ds : List (Str × PyData)} (h : Γ[i]? = some (some (per (objP C ds)))) (nm : lookD m ds = none)
    (ha : WA tr Γ fun as Γ1 => Γ1[i]? = some (some (per (objP C ds))) ∧ as.length + 1 = n ∧ slots as = [] ∧ F (per (objP C ds) :: (qsOf as).map per) (fun g _ => k g Γ1) fun _ _ => False) :
    WE (tMeth C m (SpG n F) [] E (tVar i) tr) Γ k := fun ω σ H S Q f => by
  obtain ⟨v, e, hp⟩ := S.2 i _ h
  obtain ⟨a, dx, fs, rfl, hA, hf⟩ := id hp
  refine ⟨_, e, a, dx, fs, rfl, vw_H hA, Fds.none hf nm, ha ω σ H S _ fun vs as Γ1 ω1 H1 ⟨h1, hn, hs, hF⟩ S1 ax f1 => ?_⟩
  obtain ⟨v1, e1, hp1⟩ := S1.2 i _ h1
  rw [e] at e1
  cases e1
  obtain ⟨l1, l2, l3⟩ := args_q hs ax
  rw [List.append_nil]
  refine call_per (qs := objP C ds :: qsOf as) (k := k) (kx := fun _ => False) S1 (fun j q v h3 h4 => ?_) (by simp [l1]) (by simp [l1, ← l2, hn]) hF (fun v g ω' H' hk S' p f2 => f v g Γ1 ω' H' hk S' p (f1.trans f2)) fun _ _ _ hx => hx.elim
  match j, h3, h4 with
  | 0, h3, h4 =>
    cases h3
    cases h4
    exact hp1
  | j + 1, h3, h4 => exact l3 j q v (by simpa using h3) (by simpa using h4)
/-- a value as a test -/
def tTru (K : PySem.W.Frag) (ta : TE) : TT := fun σ H Q => ta σ H fun x H' => ∃ b, TruV K x H' b ∧ Q b H'
theorem wt_truL (h : WQ ta Γ fun q Γ1 => ∃ ds, q = dP (.list ds) ∧ kb (!ds.isEmpty) Γ1) : WT (tTru K ta) Γ kb := fun ω σ H S Q f => h ω σ H S _ fun v q Γ1 ω1 H1 ⟨ds, e, hk⟩ S1 p f1 => by
  subst e
  obtain ⟨a, xs, rfl, ha, hd⟩ := DR.lst_inv p
  have e : (!xs.isEmpty) = !ds.isEmpty := by
    have := hd.length
    cases xs <;> cases ds <;> simp_all
  refine ⟨!xs.isEmpty, .inl ⟨xs, SqL.of (vw_H ha), rfl⟩, ?_⟩
  rw [e]
  exact f _ Γ1 ω1 H1 hk S1 f1
theorem DRs.rev {H : Hp} : ∀ {ds : List PyData} {vs : List V}, DRs H vs ds → DRs H vs.reverse ds.reverse
  | [], _, h => by cases h; exact .nil
  | d :: ds, _, h => by
    cases h with | cons a b =>
    rw [List.reverse_cons, List.reverse_cons]
    exact (DRs.rev b).append (.cons a .nil)
theorem we_revL (h : WQ te Γ fun q Γ1 => ∃ ds, q = dP (.list ds) ∧ k (own ds.reverse) Γ1) : WE (tRevL K te) Γ k := fun ω σ H S Q f => h ω σ H S _ fun v q Γ1 ω1 H1 ⟨ds, e, hk⟩ S1 p f1 => by
  subst e
  obtain ⟨a, xs, rfl, ha, hd⟩ := DR.lst_inv p
  exact ⟨a, xs, rfl, SqL.of (vw_H ha), fun l hl => f _ _ Γ1 (paint ω1 l 2) _ hk (S1.new 2 hl) ⟨l, _, rfl, paint_at, (hd.rev).mono (paint_same hl 0)⟩ (f1.trans (paint_fr hl))⟩
end
end G

/-! ### a list of one's own lent for a call that answers a bool -/
namespace G
open PySem L2
end G

/-! ### what is walked, said as a list of data; comprehensions and loops by functions -/
namespace G
open PySem L2
def WIL (wi : TI) (Γ : Ga) (k : List PyData → Ga → Prop) : Prop := WI wi Γ fun n it Γ1 => ∃ ds : List PyData, n = ds.length ∧ (∀ i, i < n → it i = dP (ds.getD i .none)) ∧ k ds Γ1
section
variable {kg : Ga → Prop} {kt : Bool → Ga → Prop} {u : TS} {K : PySem.W.Frag} {P : Nat → Bool} {Γ : Ga} {D : Pe} {k : Gp → Ga → Prop} {kd : List PyData → Ga → Prop} {te tl : TE} {t tb : TS} {ta : TA} {g : TG} {wi : TI} {vs : List Nat} {tt : TT}
theorem wil_list (h : WQ tl Γ fun q Γ1 => ∃ ds, q = dP (.list ds) ∧ kd ds Γ1) : WIL (iList K tl) Γ kd :=
  wi_list (h.imp fun q Γ1 ⟨ds, e, hk⟩ => ⟨ds, e, ds, rfl, fun _ _ => rfl, hk⟩)
theorem wil_range1 (h : WA ta Γ fun as Γ1 => ∃ j : Int, as = [.q (dP (.int j))] ∧ -(2 ^ 62) ≤ j ∧ j < 2 ^ 62 ∧ kd ((List.range j.toNat).map fun i => .int (i : Nat)) Γ1) : WIL (iRng1 ta) Γ kd :=
  wi_range1 (h.imp fun as Γ1 ⟨j, e, a, b, hk⟩ => ⟨j, e, a, b, _, by simp, fun i hi => by
    rw [List.getD_eq_getElem?_getD, List.getElem?_map, List.getElem?_range hi]
    simp, hk⟩)
theorem we_lcP {wi : TI} {vs : List Nat} (h : WI wi Γ fun n it Γ1 => ∃ Pv : Nat → List PyData → Ga → Prop, Pv 0 [] Γ1 ∧ (∀ acc Γ2, Pv n acc Γ2 → k (own acc) Γ2) ∧ ∀ i acc Γ2, i < n → Pv i acc Γ2 → Γ2.length = Γ.length →
    WG (fun i => !vs.contains i) g (it i) (wipeG Γ2 vs) fun Γ3 => WT tt Γ3 fun b Γ4 => if b = true then WQ te Γ4 fun q Γ5 => ∃ d, q = dP d ∧ acc.length < 100000 ∧ Pv (i + 1) (acc ++ [d]) (wipeG Γ5 vs) else Pv (i + 1) acc (wipeG Γ4 vs)) :
    WE (tLc wi g tt te vs) Γ k := fun ω σ H S Q f => h ω σ H S _ fun J n it Γ1 ω1 H1 ⟨Pv, h0, hd, hs⟩ S1 W f1 => by
  intro L hL
  have hlen : ∀ {Γ2 : Ga} {ω2 : Col} {σ2 : L2.St} {H2 : Hp}, Sta Γ2 ω2 σ2 H2 → σ2.length = σ.length → Γ2.length = Γ.length := fun {Γ2 ω2 σ2 H2} S2 e => by rw [← S2.1, e, S.1]
  refine ⟨fun i μ H' => μ = n - i ∧ i ≤ n ∧ ∃ acc xs Γ2 ω2, Pv i acc Γ2 ∧ Sta Γ2 ω2 σ H' ∧ Fr ω1 ω2 H1 H' ∧ ω2 L = 1 ∧ H' L = some (.lst xs) ∧ DRs (vw ω2 H' 0) xs acc,
    ⟨n, by simp, Nat.zero_le _, [], [], Γ1, paint ω1 L 1, h0, S1.new 1 hL, paint_fr hL, by unfold paint; rw [if_pos rfl], upd_same, .nil⟩, ?_⟩
  rintro i μ H' ⟨rfl, hi, acc, xs, Γ2, ω2, p2, S2, f2, c2, e2, d2⟩
  have sA : Same (vw ω1 H1 0) H' := fun a o e => vw_H (f2.1 a o e)
  by_cases hlt : i < n
  · refine .inr ⟨((W i H' sA).1 hlt).1, fun H'' => ∃ acc xs Γ2 ω2, Pv (i + 1) acc Γ2 ∧ Sta Γ2 ω2 σ H'' ∧ Fr ω1 ω2 H1 H'' ∧ ω2 L = 1 ∧ H'' L = some (.lst xs) ∧ DRs (vw ω2 H'' 0) xs acc, fun H'' z => ⟨n - (i + 1), by omega, rfl, hlt, z⟩, fun x H'' y => ?_⟩
    obtain ⟨ω3, S3, f3, q3⟩ := yld_ok W rfl f2 S2 hlt y
    refine hs i acc Γ2 hlt p2 (hlen S2 rfl) ω3 _ H'' x (S3.wipe vs) q3 _ fun Γ4 ω4 σ4 H4 h4 S4 f4 q4 => ?_
    obtain ⟨S5, ew⟩ := S4.unwipe q4
    refine ⟨ew, h4 ω4 σ4 H4 S4 _ fun b Γ6 ω6 H6 hk S6 f6 => ?_⟩
    have f16 : Fr ω1 ω6 H1 H6 := ((f2.trans f3).trans f4).trans f6
    have f26 : Fr ω2 ω6 H' H6 := (f3.trans f4).trans f6
    have keep : ∀ {ω7 : Col} {H7 : Hp}, Fr ω2 ω7 H' H7 → ω7 L = 1 ∧ H7 L = some (.lst xs) ∧ DRs (vw ω7 H7 0) xs acc := fun {ω7 H7} f7 => by
      have z := f7.2 L _ (vw_mk c2 e2)
      exact ⟨vw_c z, vw_H z, d2.mono f7.1⟩
    cases b with
    | false =>
      refine iteF ?_
      obtain ⟨k1, k2, k3⟩ := keep f26
      exact ⟨acc, xs, _, ω6, hk, (S6.unwipe q4).1, f16, k1, k2, k3⟩
    | true =>
      refine iteT ((show WQ te Γ6 _ from hk) ω6 σ4 H6 S6 _ fun w q Γ7 ω7 H7 ⟨d, eq, hl, h7⟩ S7 p7 f7 => ?_)
      subst eq
      obtain ⟨k1, k2, k3⟩ := keep (f26.trans f7)
      have m0 : Same (vw ω7 H7 0) (vw ω7 (upd H7 L (.lst (xs ++ [w]))) 0) := mut_same (by rw [k1]; decide)
      refine ⟨xs, k2, by rw [k3.length]; exact Nat.lt_of_lt_of_le hl (by decide), acc ++ [d], xs ++ [w], _, ω7, h7, ?_, ?_, k1, upd_same, (k3.mono m0).snoc (DR.mono m0 d p7)⟩
      · exact ((S7.unwipe q4).1).move m0 fun i g _ => mut_same (by rw [k1]; omega)
      · exact ⟨(f16.trans f7).1.trans m0, fun a o h => by
          have z := (f16.trans f7).2 a o h
          exact vw_mk (vw_c z) (by rw [upd_ne (ne_of_none (vw_H h) hL)]; exact vw_H z)⟩
  · have e : i = n := by omega
    subst e
    refine .inl ⟨(W i H' sA).2 (Nat.le_refl _), ?_⟩
    have pn : ∀ c, c ≠ 1 → Same (vw ω2 H' c) (vw (paint ω2 L 2) H' c) := fun c hc a o h => by
      refine vw_mk ?_ (vw_H h)
      unfold paint
      rw [if_neg]
      · exact vw_c h
      · intro e
        rw [e] at h
        exact hc ((vw_c h).symm.trans c2)
    refine f (.ref L) (own acc) Γ2 (paint ω2 L 2) H' (hd acc Γ2 p2) (S2.move (pn 0 (by decide)) fun i _ _ => pn _ (by omega)) ⟨L, xs, rfl, vw_mk (by unfold paint; rw [if_pos rfl]) e2, d2.mono (pn 0 (by decide))⟩ (f1.trans ⟨f2.1.trans (pn 0 (by decide)), fun a o h => ?_⟩)
    have z := f2.2 a o h
    refine vw_mk ?_ (vw_H z)
    unfold paint
    rw [if_neg (ne_of_none (vw_H h) hL)]
    exact vw_c z
theorem ws_forP {wi : TI} (h : WI wi Γ fun n it Γ1 => ∃ Pv : Nat → Ga → Prop, Pv 0 Γ1 ∧ (∀ Γ2, Pv n Γ2 → D.nx Γ2) ∧ ∀ i Γ2, i < n → Pv i Γ2 →
    WG P g (it i) Γ2 fun Γ3 => WS P tb Γ3 (D.lp (Pv (i + 1)))) : WS P (tFor wi g tb) Γ D := fun ω σ H S E m => h ω σ H S _ fun J n it Γ1 ω1 H1 ⟨Pv, h0, hd, hs⟩ S1 W f1 => by
  refine ⟨fun i μ σ' H' => μ = n - i ∧ i ≤ n ∧ ∃ Γ2 ω2, Pv i Γ2 ∧ Sta Γ2 ω2 σ' H' ∧ Fr ω1 ω2 H1 H' ∧ Pin P σ σ', ⟨n, by simp, Nat.zero_le _, Γ1, ω1, h0, S1, Fr.refl, Pin.refl⟩, ?_⟩
  rintro i μ σ' H' ⟨rfl, hi, Γ2, ω2, p2, S2, f2, q2⟩
  have sA : Same (vw ω1 H1 0) H' := fun a o e => vw_H (f2.1 a o e)
  by_cases hlt : i < n
  · refine .inr ⟨((W i H' sA).1 hlt).1, fun σ'' H'' => ∃ Γ2 ω2, Pv (i + 1) Γ2 ∧ Sta Γ2 ω2 σ'' H'' ∧ Fr ω1 ω2 H1 H'' ∧ Pin P σ σ'', fun σ'' H'' z => ⟨n - (i + 1), by omega, rfl, hlt, z⟩, fun x H'' y => ?_⟩
    obtain ⟨ω3, S3, f3, q3⟩ := yld_ok W rfl f2 S2 hlt y
    refine hs i Γ2 hlt p2 ω3 σ' H'' x S3 q3 _ fun Γ4 ω4 σ4 H4 h4 S4 f4 q4 => ?_
    have f14 : Fr ω1 ω4 H1 H4 := (f2.trans f3).trans f4
    refine h4 ω4 σ4 H4 S4 _ ⟨fun Γ' ω' σ5 H5 hk S5 f5 q5 => ⟨Γ', ω', hk, S5, f14.trans f5, (q2.trans q4).trans q5⟩,
      fun v gg Γ' ω' σ5 H5 hk S5 p5 f5 q5 => m.rt v gg Γ' ω' σ5 H5 hk S5 p5 (f1.trans (f14.trans f5)) ((q2.trans q4).trans q5),
      fun Γ' ω' σ5 H5 hk S5 f5 q5 => m.nx Γ' ω' σ5 H5 hk S5 (f1.trans (f14.trans f5)) ((q2.trans q4).trans q5),
      fun Γ' ω' σ5 H5 hk S5 f5 q5 => ⟨Γ', ω', hk, S5, f14.trans f5, (q2.trans q4).trans q5⟩⟩
  · have e : i = n := by omega
    subst e
    exact .inl ⟨(W i H' sA).2 (Nat.le_refl _), m.nx Γ2 ω2 σ' H' (hd Γ2 p2) S2 (f1.trans f2) q2⟩

/-- [e for x in xs if t], by a function; but for its own names the block leaves the slots -/
theorem we_lcF {α : Type} (enc : α → PyData) {β : Type} (enc' : β → PyData) (f : α → Option β) (h : WIL wi Γ fun ds Γ1 => ∃ xs : List α, ds = xs.map enc ∧ wipeG Γ1 vs = Γ1 ∧ xs.length ≤ 100000 ∧
      (∀ x, x ∈ xs → WG (fun i => !vs.contains i) g (dP (enc x)) Γ1 fun Γ3 => WT tt Γ3 fun b Γ4 => if b = true then WQ te Γ4 fun q Γ5 => ∃ y, f x = some y ∧ q = dP (enc' y) ∧ wipeG Γ5 vs = Γ1 else f x = none ∧ wipeG Γ4 vs = Γ1) ∧
      k (own ((xs.filterMap f).map enc')) Γ1) : WE (tLc wi g tt te vs) Γ k := by
  refine we_lcP fun ω σ H S R c => h ω σ H S R fun J n it Γ1 ω1 H1 ⟨ds, hn, hit, xs, e, hw, hl, hb, hk⟩ S1 W f1 => c J n it Γ1 ω1 H1 ?_ S1 W f1
  subst e
  have hlen : n = xs.length := by rw [hn, List.length_map]
  refine ⟨fun i acc Γ2 => Γ2 = Γ1 ∧ acc = ((xs.take i).filterMap f).map enc', ⟨rfl, by simp⟩, ?_, ?_⟩
  · rintro acc Γ2 ⟨rfl, rfl⟩
    rw [hlen, List.take_length]
    exact hk
  · rintro i acc Γ2 hi ⟨rfl, rfl⟩ -
    obtain ⟨x, hx⟩ : ∃ x, xs[i]? = some x := ⟨xs[i]'(by omega), List.getElem?_eq_getElem (by omega)⟩
    have e : it i = dP (enc x) := by
      rw [hit i hi, List.getD_eq_getElem?_getD, List.getElem?_map, hx]; rfl
    have et : xs.take (i + 1) = xs.take i ++ [x] := by rw [List.take_add_one, hx]; rfl
    rw [e, hw]
    refine fun ω2 σ2 H2 v S2 p R2 c2 => hb x (List.mem_of_getElem? hx) ω2 σ2 H2 v S2 p R2 fun Γ3 ω3 σ3 H3 h3 => c2 Γ3 ω3 σ3 H3 ?_
    refine fun ω4 σ4 H4 S4 R4 c4 => h3 ω4 σ4 H4 S4 R4 fun b Γ5 ω5 H5 h5 => c4 b Γ5 ω5 H5 ?_
    cases b with
    | true =>
      obtain h5 := (show WQ te Γ5 _ from h5)
      refine h5.imp fun q Γ6 ⟨y, e1, e2, e3⟩ => ⟨_, e2, ?_, e3, ?_⟩
      · rw [List.length_map]
        have := List.length_filterMap_le f (xs.take i)
        rw [List.length_take] at this
        omega
      · rw [et, List.filterMap_append, List.map_append]
        simp [e1]
    | false =>
      obtain ⟨e1, e2⟩ := (show f x = none ∧ wipeG Γ5 vs = Γ2 from h5)
      refine ⟨e2, ?_⟩
      rw [et, List.filterMap_append]
      simp [e1]
/-- [e for x in xs] -/
theorem we_lcM {α : Type} (enc : α → PyData) {β : Type} (enc' : β → PyData) (f : α → β) (h : WIL wi Γ fun ds Γ1 => ∃ xs : List α, ds = xs.map enc ∧ wipeG Γ1 vs = Γ1 ∧ xs.length ≤ 100000 ∧
      (∀ x, x ∈ xs → WG (fun i => !vs.contains i) g (dP (enc x)) Γ1 fun Γ3 => WQ te Γ3 fun q Γ5 => q = dP (enc' (f x)) ∧ wipeG Γ5 vs = Γ1) ∧
      k (own ((xs.map f).map enc')) Γ1) : WE (tLc wi g tYes te vs) Γ k := by
  refine we_lcF enc enc' (fun x => some (f x)) fun ω σ H S R c => h ω σ H S R fun J n it Γ1 ω1 H1 ⟨ds, hn, hit, xs, e, hw, hl, hb, hk⟩ => c J n it Γ1 ω1 H1 ⟨ds, hn, hit, xs, e, hw, hl, fun x hx => ?_, ?_⟩
  · refine fun ω2 σ2 H2 v S2 p R2 c2 => hb x hx ω2 σ2 H2 v S2 p R2 fun Γ3 ω3 σ3 H3 h3 => c2 Γ3 ω3 σ3 H3 ?_
    exact wt_yes (iteT (h3.imp fun q Γ5 ⟨a, b⟩ => ⟨_, rfl, a, b⟩))
  · have : xs.filterMap (fun x => some (f x)) = xs.map f := by
      rw [show (fun x => some (f x)) = some ∘ f from rfl, List.filterMap_eq_map]
    rw [this]
    exact hk
/-- a loop over xs: what holds of what has been walked -/
theorem ws_forF {α : Type} (enc : α → PyData) (Pv : List α → Ga → Prop) (h : WIL wi Γ fun ds Γ1 => ∃ xs : List α, ds = xs.map enc ∧ Pv [] Γ1 ∧ (∀ Γ2, Pv xs Γ2 → D.nx Γ2) ∧
      ∀ pre x post Γ2, xs = pre ++ x :: post → Pv pre Γ2 → WG P g (dP (enc x)) Γ2 fun Γ3 => WS P tb Γ3 (D.lp (Pv (pre ++ [x])))) : WS P (tFor wi g tb) Γ D := by
  refine ws_forP fun ω σ H S R c => h ω σ H S R fun J n it Γ1 ω1 H1 ⟨ds, hn, hit, xs, e, h0, hd, hs⟩ S1 W f1 => c J n it Γ1 ω1 H1 ?_ S1 W f1
  subst e
  have hlen : n = xs.length := by rw [hn, List.length_map]
  refine ⟨fun i Γ2 => Pv (xs.take i) Γ2, h0, fun Γ2 p => hd Γ2 (by rw [hlen, List.take_length] at p; exact p), fun i Γ2 hi p => ?_⟩
  have hi' : i < xs.length := by omega
  have e : it i = dP (enc xs[i]) := by
    rw [hit i hi, List.getD_eq_getElem?_getD, List.getElem?_map, List.getElem?_eq_getElem hi']; rfl
  rw [e]
  have q := hs (xs.take i) xs[i] (xs.drop (i + 1)) Γ2 (by rw [← List.drop_eq_getElem_cons hi', List.take_append_drop]) p
  rw [List.take_append_getElem hi'] at q
  exact q
end
end G

/-! ### any, abs, sum, max and min of a list of ints; typed data -/
namespace G
open PySem L2
abbrev rAnyA (K : PySem.W.Frag) : List V → Hp → VK → Prop := rAny K
abbrev rSumA (K : PySem.W.Frag) : List V → Hp → VK → Prop := rSum K
def rAbsI : List V → Hp → VK → Prop := fun xs H Q => ∃ i, xs = [.int i] ∧ Q (.int (if i < 0 then -i else i)) H
section
variable {X : Cx}
end
section
variable {K : PySem.W.Frag} {Γ : Ga} {k : Gp → Ga → Prop}
theorem any_map {α : Type} {p : α → Bool} {xs : List α} : (xs.map p).any id = xs.any p := by
  induction xs with
  | nil => rfl
  | cons x xs ih => simp [List.any_cons, ih]
theorem ck_any {bs : List Bool} (hk : k (dat (.bool (bs.any id))) Γ) : CbK (rAnyA K) [.list (bs.map .bool)] k Γ := ck_of (q := dP (.bool (bs.any id))) (fun A H vs s h Q f => by
  cases h with | cons x y =>
  cases y
  obtain ⟨a, xs, rfl, ha, hd⟩ := x.lst_inv
  rw [hd.bools] at ha
  exact ⟨a, bs, rfl, SqL.of (s _ _ ha), f _ (DR.bl _)⟩) hk
theorem ck_anyF {α : Type} {p : α → Bool} {xs : List α} (hk : k (dat (.bool (xs.any p))) Γ) : CbK (rAnyA K) [.list ((xs.map p).map .bool)] k Γ := ck_any (by rw [any_map]; exact hk)
theorem ck_allF {α : Type} {p : α → Bool} {xs : List α} (hk : k (dat (.bool (xs.all p))) Γ) : CbK (rAllA K) [.list ((xs.map p).map .bool)] k Γ := ck_all (by rw [all_map]; exact hk)
theorem ck_sumI {ns : List Int} (hk : k (dat (.int ns.sum)) Γ) : CbK (rSumA K) [.list (ns.map .int)] k Γ := ck_of (q := dP (.int ns.sum)) (fun A H vs s h Q f => by
  cases h with | cons x y =>
  cases y
  obtain ⟨a, xs, rfl, ha, hd⟩ := x.lst_inv
  rw [hd.ints] at ha
  exact ⟨a, ns, rfl, SqL.of (s _ _ ha), f _ (DR.int _)⟩) hk
theorem ck_abs {i : Int} (hk : k (dat (.int (if i < 0 then -i else i))) Γ) : CbK rAbsI [.int i] k Γ := ck_of (q := dP (.int (if i < 0 then -i else i))) (fun A H vs s h Q f => by
  cases h with | cons x y =>
  cases y
  cases x.int_inv
  exact ⟨i, rfl, f _ (DR.int _)⟩) hk
end
/-! ### data that is told apart by what it tells -/
structure EncOk {α : Type} [DecidableEq α] (n : Nat) (enc : α → PyData) : Prop where
  eqv : ∀ x y, PyData.eqv (enc x) (enc y) = decide (x = y)
  lay : ∀ x, Lay n (enc x)
section
variable {K : PySem.W.Frag} {Γ : Ga} {k : Gp → Ga → Prop} {α β : Type} [DecidableEq α] [DecidableEq β] {n m : Nat} {enc : α → PyData} {enc' : β → PyData}
theorem EncOk.lst (h : EncOk n enc) : EncOk (n + 1) (fun xs : List α => PyData.list (xs.map enc)) := ⟨fun _ _ => eqv_list_inj h.eqv, fun xs => lay_list fun d hd => by
  obtain ⟨x, _, rfl⟩ := List.mem_map.mp hd
  exact h.lay x⟩
theorem enc_tie : EncOk 1 tieD := ⟨fun _ _ => eqv_tie, fun _ => lay_tie⟩
/-- a pair of data told apart -/
def pairD {α β : Type} (e : α → PyData) (e' : β → PyData) (p : α × β) : PyData := .tuple [e p.1, e' p.2]
theorem EncOk.pair (h : EncOk n enc) (h' : EncOk m enc') : EncOk (max n m + 1) (pairD enc enc') := ⟨fun x y => by
  obtain ⟨a, b⟩ := x
  obtain ⟨c, d⟩ := y
  show PyData.eqv (.tuple [enc a, enc' b]) (.tuple [enc c, enc' d]) = _
  simp only [PyData.eqv, PyData.eqvAll, Bool.and_true, h.eqv, h'.eqv]
  by_cases h1 : a = c <;> by_cases h2 : b = d <;> simp [h1, h2], fun x => lay_tuple fun d hd => by
  rcases List.mem_cons.mp hd with e | e
  · rw [e]; exact (h.lay _).up (Nat.le_max_left _ _)
  · rw [List.mem_singleton.mp e]; exact (h'.lay _).up (Nat.le_max_right _ _)⟩
theorem dec_same {p : Prop} (i j : Decidable p) : @decide p i = @decide p j := decide_eq_decide.mpr Iff.rfl
theorem ok_neE (h : EncOk n enc) {x y : α} [i : Decidable (x = y)] (hk : k (dat (.bool (!decide (x = y)))) Γ) (hn : n ≤ 64 := by decide) : OpK (rNeD K) (enc x) (enc y) k Γ := ok_ne ((h.lay x).shaped hn) ((h.lay y).shaped hn) (by rw [h.eqv, dec_same _ i]; exact hk)
end
end G

namespace G
open PySem L2
def isNon : PyData → Bool
  | .none => true
  | _ => false
section
variable {K : PySem.W.Frag} {Γ : Ga} {k : Gp → Ga → Prop} {ta : TE} {tl : TA}
theorem DR.non_iff {A : Hp} {v : V} {d : PyData} (h : DR A v d) : decide (v = V.non) = isNon d := by cases h <;> simp [isNon]
/-- x is None, x is not None, of any data -/
theorem we_isNd (h : WQ ta Γ fun q Γ1 => ∃ d, q = dP d ∧ k (dat (.bool (isNon d))) Γ1) : WE (tOp rIsN0 ta (tC .non)) Γ k := fun ω σ H S Q f => h ω σ H S _ fun v q Γ1 ω1 H1 ⟨d, e, hk⟩ S1 p f1 => by
  subst e
  exact ⟨rfl, f _ _ Γ1 ω1 H1 hk S1 (by rw [DR.non_iff p]; exact DR.bl _) f1⟩
theorem we_notNd (h : WQ ta Γ fun q Γ1 => ∃ d, q = dP d ∧ k (dat (.bool (!isNon d))) Γ1) : WE (tOp rNotN0 ta (tC .non)) Γ k := fun ω σ H S Q f => h ω σ H S _ fun v q Γ1 ω1 H1 ⟨d, e, hk⟩ S1 p f1 => by
  subst e
  exact ⟨rfl, f _ _ Γ1 ω1 H1 hk S1 (by rw [DR.non_iff p]; exact DR.bl _) f1⟩
end
theorem ws_seqI {P : Nat → Bool} {c : TT} {t u r : TS} {Γ : Ga} {D : Pe} (h : WS P (tIfS c t u) Γ (D.to fun Γ' => WS P r Γ' D)) : WS P (tSeq (tIfS c t u) r) Γ D := ws_seq h
end G

/-! ### lists of one's own lent for a call that answers a scalar -/
namespace G
open PySem L2
def scal : PyData → Bool
  | .none | .bool _ | .int _ | .str _ => true
  | _ => false
theorem DR.scal {A A' : Hp} {v : V} : ∀ {d : PyData}, G.scal d = true → DR A v d → DR A' v d
  | .none, _, h => by cases h; exact .non
  | .bool _, _, h => by cases h; exact .bl _
  | .int _, _, h => by cases h; exact .int _
  | .str _, _, h => by cases h; exact .str _
end G

namespace G
open PySem L2
theorem ws_par {P : Nat → Bool} {Γ : Ga} {D : Pe} {i j : Nat} {ta : TA} (hi : P i = false) (hj : P j = false) (h : WA ta Γ fun as Γ1 => ∃ q q' : Per, as = [.q q, .q q'] ∧ D.nx ((Γ1.set i (some (per q))).set j (some (per q')))) : WS P (tPar i j ta) Γ D := fun ω σ H S E m => h ω σ H S _ fun vs as Γ1 ω1 H1 ⟨q, q', e, hk⟩ S1 a f1 => by
  subst e
  cases a with | cons x a =>
  cases a with | cons y a =>
  cases a
  exact ⟨_, _, rfl, m.nx _ ω1 _ H1 hk ((S1.setq x).setq y) f1 ((pin_set hi).trans (pin_set hj))⟩
theorem ws_seqP {P : Nat → Bool} {Γ : Ga} {D : Pe} {i j : Nat} {ta : TA} {u : TS} (h : WS P (tPar i j ta) Γ (D.to fun Γ' => WS P u Γ' D)) : WS P (tSeq (tPar i j ta) u) Γ D := ws_seq h
end G

/-! ### lists of things that stand still; isinstance of an object with a built-in; of an error with many classes; str(int) -/
namespace G
open PySem L2
section
variable {K : PySem.W.Frag} {P : Nat → Bool} {Γ : Ga} {D : Pe} {k : Gp → Ga → Prop} {te ta tb : TE} {tr : TA} {g : TG} {tt : TS}
theorem PRs.append {A : Hp} {xs ys : List V} {qs rs : List Per} (h : PRs A xs qs) (h' : PRs A ys rs) : PRs A (xs ++ ys) (qs ++ rs) := by
  refine ⟨by simp [h.1, h'.1], fun i x q a b => ?_⟩
  by_cases hi : i < xs.length
  · rw [List.getElem?_append_left hi] at a
    rw [List.getElem?_append_left (by rw [← h.1]; exact hi)] at b
    exact h.2 i x q a b
  · rw [List.getElem?_append_right (by omega)] at a
    rw [List.getElem?_append_right (by rw [← h.1]; omega), ← h.1] at b
    exact h'.2 _ x q a b
theorem bt_str : bootBuiltins "str" = some (.type "str") := by decide +kernel
/-- str(int) -/
def rStrI : List V → Hp → VK → Prop := fun xs H Q => ∃ i, xs = [.int i] ∧ i.natAbs.log2 < 1920 ∧ Q (.str (toString i)) H
theorem c_strI {X : Cx} : CallR X (.type "str") rStrI := call_str_int
theorem ck_strI {i : Int} (h : i.natAbs.log2 < 1920) (hk : k (dat (.str (toString i))) Γ) : CbK rStrI [.int i] k Γ := ck_of (q := dP (.str (toString i))) (fun A H vs s h' Q f => by
  cases h' with | cons a b =>
  cases b
  cases DR.int_inv a
  exact ⟨i, rfl, h, f _ (DR.str _)⟩) hk
end
end G

/-! ### a, *b = a list; a try whose body raises nothing -/
namespace GST
open PySem PySem.Spec PySem.W PyProof.Rows L2
section
variable {prog : Program} {w : World} {A : Around} {E : Value → Shared → Prop} {s : Shared}
theorem star_items {l : Addr} {x : Value} {items : List Value} {Q : List Value → Shared → Prop} (hl : s.heap.IsList l (x :: items).toArray) (hh : A.handled = none) (hz : items.length ≤ 16000)
    (hQ : ∀ (h2 : Heap) (tk : Nat), (∀ b o, s.heap.get? b = some o → h2.get? b = some o) → Q [x, .ref h2.objs.size] { s with heap := h2.push (seqObj "list" items.toArray 0), toks := tk }) : wpAny (model prog w) A (unpackItems (.ref l) 2 (some 1)) Q E s := by
  have hlt : l ≠ s.heap.objs.size := by obtain ⟨o, ho, _⟩ := hl; exact Nat.ne_of_lt (Heap.lt_size ho)
  have hll : l < s.heap.objs.size := by obtain ⟨o, ho, _⟩ := hl; exact Heap.lt_size ho
  have hsz : (x :: items).toArray.size = items.length + 1 := by simp
  unfold unpackItems
  refine wpAny_bind ?_
  unfold notIterableAtAll
  refine wpAny_bind (wpAny_specialOf hl.typeIs slot_list_iter.lookup ?_)
  refine wpAny_pure ?_
  simp only [Bool.false_eq_true, if_false]
  refine wpAny_bind (wpAny_holding (wpAny_pyIter_list hl ?_))
  refine wpAny_bind (wpAny_holding (kun_draw hlt 1 0 _ _ ⟨_, Heap.get?_push_size _ rfl, rfl, rfl⟩ (hl.push _) (by omega) fun h₁ hit₁ hs₁ => ?_))
  have hl₁ : h₁.IsList l (x :: items).toArray := (hl.push _).extBut hs₁.extBut hlt
  rw [Nat.zero_add] at hit₁
  have hit₁' := hit₁
  obtain ⟨oi, hoi, _⟩ := hit₁'
  have hl₁' := hl₁
  obtain ⟨ol, hol, _⟩ := hl₁'
  rw [List.drop_zero]
  rw [if_neg (show ¬ ((List.take 1 (x :: items)).length < 1) by simp)]
  refine wpAny_bind (wpAny_holding (kun_collect (s := { s with heap := h₁ }) (T := "list_iterator") (.inr (.inr (.inl rfl))) (Walks.list (A := A.in1) hh s.heap.objs.size l hlt (x :: items).toArray) (fun j u st => st.1.typeIs) (k := 1) (by omega) ⟨hit₁, hl₁⟩ (Heap.lt_size hoi) (Heap.lt_size hol) (fun h₂ tk hk => ?_) (by rw [sizeLine_eq]; omega)))
  have he : ∀ b o, s.heap.get? b = some o → h₂.get? b = some o := fun b o e => hk b o (Nat.ne_of_lt (Heap.lt_size e)) (hs₁.extBut b o (Nat.ne_of_lt (Heap.lt_size e)) (Heap.get?_push_of_some _ e))
  show wpAny _ _ (if (items).length < 2 - 1 - 1 then _ else _) _ _ _
  rw [if_neg (by omega)]
  show wpAny _ _ (newList (items.take (items.length - (2 - 1 - 1))) >>= fun d => pure ([x] ++ [d] ++ items.drop (items.length - (2 - 1 - 1)))) _ _ _
  have e1 : items.length - (2 - 1 - 1) = items.length := by omega
  rw [e1, List.take_length, List.drop_length]
  exact wpAny_bind (wpAny_newList (wpAny_pure (hQ h₂ tk he)) (by rw [sizeLine_eq]; omega))
end
section
variable {X : Cx}
/-- a, *b = a list, both names -/
def gStar (K : PySem.W.Frag) (i j : Nat) : TG := fun v σ H Q => ∃ a x xs, v = .ref a ∧ SqL K H a (x :: xs) ∧ xs.length ≤ 16000 ∧ ∀ D, H D = none → Q ((σ.set i (some x)).set j (some (.ref D))) (upd H D (.lst xs))
theorem pg_star {e0 e1 : Expr} {p pos : Pos} {k i j : Nat} (hc : X.calm = true) (h : PGs X [e0, e1] (gCons (gName i) (gCons (gName j) gNil)))
    (he : (assignEach [e0, .Starred e1 p] X.env).map (·.2) = (assignEach [e0, e1] X.env).map (·.2) := by rfl)
    (hn : (assignEach [e0, .Starred e1 p] X.env).length = 2 := by rfl) (hst : (assignEach [e0, .Starred e1 p] X.env).findIdx? (·.1) = some 1 := by rfl) : PG X (.Tuple [e0, .Starred e1 p] k pos) (gStar X.K i j) := by
  refine ⟨fun pins s σ H v u Q I r hw => ?_⟩
  obtain ⟨a, x, xs, e, hq, hl, hw⟩ := hw
  subst e
  cases r
  obtain ⟨its, rv, pl, hz⟩ := I.list hq
  obtain ⟨y, ys, rfl⟩ : ∃ y ys, its = y :: ys := by
    cases its with
    | nil => exact absurd rv.length (by simp)
    | cons y ys => exact ⟨y, ys, rfl⟩
  have hly : ys.length = xs.length := by have := rv.length; simp at this; omega
  rw [assign_Tuple]
  refine wpAny_bind (wpAny_standAt ?_)
  unfold unpack
  rw [hn, hst, he]
  refine wpAny_bind (wpAny_holding (star_items pl.isList (I.ok.hd hc) (by omega) fun h2 tk keep => ?_))
  have I1 : Inv X pins σ H { s with heap := h2 } := I.kept (t' := s.toks) fun b o e => keep b o e
  have hnone : H h2.objs.size = none := I1.hok.fresh (Nat.le_refl _)
  cases rv with
  | cons r1 r2 =>
  have I2 : Inv X pins σ (upd H h2.objs.size (.lst xs)) { s with heap := h2.push (seqObj "list" ys.toArray 0), toks := tk } :=
    I1.laid (t' := tk) (fun b o e => Heap.get?_push_of_some _ e) (Nat.le_refl _) (o := .lst xs) ⟨by rw [sizeLine_eq]; omega, ys, 0, r2, Heap.get?_push_size _ rfl⟩
  exact h.run pins _ σ _ [x, .ref h2.objs.size] _ Q I2 (.cons r1 (.cons rfl .nil)) ⟨_, _, rfl, _, _, rfl, rfl, hw _ hnone⟩
/-- a try whose body raises nothing -/
theorem ps_try_void {body : List Stmt} {b₀ : Stmt} {suite : List Stmt} {te : Expr} {nm : Option Str} {pos pos' : Pos} {tb : TS} (hs : X.stack = X.env :: X.outer) (hf : X.env.frame = some X.env.locals)
    (hb : ∀ (pn : List (Addr × Obj)) (xe : Value → Shared → Prop), Takes (X.tr pn xe) (fun _ _ _ _ => False) → PassesOwn (model X.prog X.w) X.A X.env xe → PSs (X.tr pn xe) body tb) :
    PS X (.Try body [.ExceptHandler (some te) nm (b₀ :: suite) pos'] [] [] pos) tb := by
  refine ⟨fun pins s σ H D I h => ?_⟩
  have ok := I.ok
  have hfr : X.A.frames = some (X.env :: X.outer) := by rw [ok.frames, hs]
  refine wpAny_Try_except ?_
  refine wpAny_mono ((hb (X.pn ++ pins) (fun e s₁ => wpAny (model X.prog X.w) X.A (noteFrame e X.env) (fun _ s₂ => wpAny (model X.prog X.w) X.A (setFlight e none) (fun _ s₃ =>
    wpAny (model X.prog X.w) X.A (handleBy e X.env [.ExceptHandler (some te) nm (b₀ :: suite) pos']) (SP X pins D) X.xe s₃) X.xe s₂) X.xe s₁) (fun u s' xx => ?_) PassesOwn.looking).run [] s σ H D (I.toTry _) h) (fun f s1 hsp => ?_) (fun e s1 he => he)
  · obtain ⟨a, B, sI, pins', σ', H', cls, d, rfl, J', nb, up, sky, na, os, ag, hF⟩ := xx
    exact hF.elim
  · cases f with
    | next =>
      obtain ⟨σ', H', J', q⟩ := hsp
      exact wpAny_execs_nil ⟨σ', H', J'.ofTry ok, q⟩
    | brk =>
      obtain ⟨σ', H', J', q⟩ := hsp
      exact ⟨σ', H', J'.ofTry ok, q⟩
    | cont =>
      obtain ⟨σ', H', J', q⟩ := hsp
      exact ⟨σ', H', J'.ofTry ok, q⟩
    | ret u =>
      obtain ⟨v, σ', H', J', r, q⟩ := hsp
      exact ⟨v, σ', H', J'.ofTry ok, r, q⟩
end
end GST
namespace G
open PySem L2
theorem wg_star {K : PySem.W.Frag} {P : Nat → Bool} {Γ : Ga} {kg : Ga → Prop} {i j : Nat} {d : PyData} {ds : List PyData} (hi : P i = false) (hj : P j = false) (hl : ds.length ≤ 16000) (h : kg ((Γ.set i (some (dat d))).set j (some (dat (.list ds))))) :
    WG P (GST.gStar K i j) (dP (.list (d :: ds))) Γ kg := fun ω σ H v S p R f => by
  obtain ⟨a, xs, rfl, ha, hd⟩ := DR.lst_inv p
  cases hd with | cons x y =>
  refine ⟨a, _, _, rfl, SqL.of (vw_H ha), by rw [y.length]; exact hl, fun D hD => ?_⟩
  rename_i z zs
  have S1 := (S.new (o := .lst zs) 0 hD).setq (i := i) (q := dP d) (v := z) (DR.mono (paint_same (o := .lst zs) hD 0) d x)
  have S2 := S1.setq (i := j) (q := dP (.list ds)) (v := .ref D) (.lst paint_at (y.mono (paint_same (o := .lst zs) hD 0)))
  exact f _ (paint ω D 0) _ _ h S2 (paint_fr hD) ((pin_set hi).trans (pin_set hj))
end G

/-! ### texts -/
namespace G
open PySem L2
abbrev rIsDig : V → List V → Hp → VK → Prop := fun x xs H Q => ∃ a, x = .str a ∧ xs = [] ∧ True ∧ Q (.bl (Txt.isdigit a)) H
abbrev rIsAsc : V → List V → Hp → VK → Prop := fun x xs H Q => ∃ a, x = .str a ∧ xs = [] ∧ True ∧ Q (.bl (Txt.isascii a)) H
abbrev rStarts : V → List V → Hp → VK → Prop := fun x xs H Q => ∃ a b, x = .str a ∧ xs = [.str b] ∧ Q (.bl (Txt.startswith a b)) H
abbrev rSplitS : V → List V → Hp → VK → Prop := fun x xs H Q => ∃ a b, x = .str a ∧ xs = [.str b] ∧ (b.length == 0) = false ∧ a.length + 2 ≤ sizeLine ∧ rNewStrs (Txt.split a b) H Q
abbrev rJoinS (K : PySem.W.Frag) : V → List V → Hp → VK → Prop := fun x xs H Q => ∃ a p, ∃ ys : List Str, x = .str a ∧ xs = [.ref p] ∧ (SqL K H p (ys.map V.str) ∨ SqT K H p (ys.map V.str)) ∧ (ys.map (·.length)).sum + ys.length * a.length ≤ 16777216 ∧ Q (.str (Txt.join a ys)) H
def tJn (ts : List TE) : TE := fun σ H Q => tJs ts Str.empty σ H fun out H1 => Q (.str out) H1
def rIntT : List V → Hp → VK → Prop := fun xs H Q => ∃ a n, xs = [.str a] ∧ PySem.intText? a = some n ∧ a.length ≤ 640 ∧ Q (.int n) H
theorem c_intT {X : Cx} : CallR X (.type "int") rIntT := call_int_str
section
variable {K : PySem.W.Frag} {Γ : Ga} {k : Gp → Ga → Prop} {to te : TE}
theorem we_isDig (h : WQ to Γ fun q Γ1 => ∃ s, q = dP (.str s) ∧ k (dat (.bool (Txt.isdigit s))) Γ1) : WE (tM0 rIsDig to) Γ k := fun ω σ H S Q f => h ω σ H S _ fun x q Γ1 ω1 H1 ⟨s, e, hk⟩ S1 p f1 => by
  subst e
  cases DR.str_inv p
  exact ⟨⟨s, rfl⟩, s, rfl, rfl, trivial, f _ _ Γ1 ω1 H1 hk S1 (DR.bl _) f1⟩
theorem we_isAsc (h : WQ to Γ fun q Γ1 => ∃ s, q = dP (.str s) ∧ k (dat (.bool (Txt.isascii s))) Γ1) : WE (tM0 rIsAsc to) Γ k := fun ω σ H S Q f => h ω σ H S _ fun x q Γ1 ω1 H1 ⟨s, e, hk⟩ S1 p f1 => by
  subst e
  cases DR.str_inv p
  exact ⟨⟨s, rfl⟩, s, rfl, rfl, trivial, f _ _ Γ1 ω1 H1 hk S1 (DR.bl _) f1⟩
theorem we_starts (h : WQ to Γ fun q Γ1 => ∃ s, q = dP (.str s) ∧ WQ te Γ1 fun q' Γ2 => ∃ t, q' = dP (.str t) ∧ k (dat (.bool (Txt.startswith s t))) Γ2) : WE (tM1 rStarts to te) Γ k := fun ω σ H S Q f => h ω σ H S _ fun x q Γ1 ω1 H1 ⟨s, e, h1⟩ S1 p f1 => by
  subst e
  cases DR.str_inv p
  refine ⟨⟨s, rfl⟩, h1 ω1 σ H1 S1 _ fun y q' Γ2 ω2 H2 ⟨t, e, hk⟩ S2 p2 f2 => ?_⟩
  subst e
  cases DR.str_inv p2
  exact ⟨s, t, rfl, rfl, f _ _ Γ2 ω2 H2 hk S2 (DR.bl _) (f1.trans f2)⟩
theorem DRs.strs {A : Hp} : ∀ {ss : List Str}, DRs A (ss.map V.str) (ss.map PyData.str)
  | [] => .nil
  | s :: ss => .cons (.str s) DRs.strs
theorem DRs.strs_inv {A : Hp} : ∀ {ss : List Str} {vs : List V}, DRs A vs (ss.map PyData.str) → vs = ss.map V.str
  | [], _, h => by cases h; rfl
  | s :: ss, _, h => by
    cases h with | cons a b => cases a; rw [DRs.strs_inv b]; rfl
theorem we_split (h : WQ to Γ fun q Γ1 => ∃ s, q = dP (.str s) ∧ WQ te Γ1 fun q' Γ2 => ∃ t, q' = dP (.str t) ∧ (t.length == 0) = false ∧ s.length ≤ 1000000 ∧ k (own ((Txt.split s t).map .str)) Γ2) : WE (tM1 rSplitS to te) Γ k := fun ω σ H S Q f => h ω σ H S _ fun x q Γ1 ω1 H1 ⟨s, e, h1⟩ S1 p f1 => by
  subst e
  cases DR.str_inv p
  refine ⟨⟨s, rfl⟩, h1 ω1 σ H1 S1 _ fun y q' Γ2 ω2 H2 ⟨t, e, ht, hl, hk⟩ S2 p2 f2 => ?_⟩
  subst e
  cases DR.str_inv p2
  refine ⟨s, t, rfl, rfl, ht, by rw [sizeLine_eq]; omega, fun q hq => ?_⟩
  exact f _ _ Γ2 (paint ω2 q 2) _ hk (S2.new 2 hq) ⟨q, _, rfl, paint_at, DRs.strs⟩ ((f1.trans f2).trans (paint_fr hq))
theorem we_join (h : WQ to Γ fun q Γ1 => ∃ s, q = dP (.str s) ∧ WQ te Γ1 fun q' Γ2 => ∃ ss : List Str, q' = dP (.list (ss.map .str)) ∧ (ss.map (·.length)).sum + ss.length * s.length ≤ 16777216 ∧ k (dat (.str (Txt.join s ss))) Γ2) : WE (tM1 (rJoinS K) to te) Γ k := fun ω σ H S Q f => h ω σ H S _ fun x q Γ1 ω1 H1 ⟨s, e, h1⟩ S1 p f1 => by
  subst e
  cases DR.str_inv p
  refine ⟨⟨s, rfl⟩, h1 ω1 σ H1 S1 _ fun y q' Γ2 ω2 H2 ⟨ss, e, hl, hk⟩ S2 p2 f2 => ?_⟩
  subst e
  obtain ⟨a, xs, rfl, ha, hd⟩ := DR.lst_inv p2
  rw [DRs.strs_inv hd] at ha
  exact ⟨s, a, ss, rfl, rfl, .inl (SqL.of (vw_H ha)), hl, f _ _ Γ2 ω2 H2 hk S2 (DR.str _) (f1.trans f2)⟩
/-- f"{u}-{v}", ints -/
theorem we_tie {i j : Nat} {u v : Int} {z : Str} (hi : Γ[i]? = some (some (dat (.int u)))) (hj : Γ[j]? = some (some (dat (.int v)))) (hu : u.natAbs.log2 < 1920) (hv : v.natAbs.log2 < 1920)
    (hl : (((Str.empty ++ (toString u : Str)) ++ z) ++ (toString v : Str)).length ≤ 100000 ∧ ((Str.empty ++ (toString u : Str)) ++ z).length ≤ 100000 ∧ (Str.empty ++ (toString u : Str)).length ≤ 100000) (hk : k (dat (.str (((Str.empty ++ (toString u : Str)) ++ z) ++ (toString v : Str)))) Γ) :
    WE (tJn [tFmt (tVar i), tC (.str z), tFmt (tVar j)]) Γ k := fun ω σ H S Q f => by
  obtain ⟨x, ex, px⟩ := S.2 i _ hi
  obtain ⟨y, ey, py⟩ := S.2 j _ hj
  cases DR.int_inv px
  cases DR.int_inv py
  have sl : (100000 : Nat) ≤ sizeLine := by decide
  exact ⟨_, ex, .inr ⟨u, rfl, hu, _, rfl, Nat.le_trans hl.2.2 sl, _, rfl, Nat.le_trans hl.2.1 sl, _, ey, .inr ⟨v, rfl, hv, _, rfl, Nat.le_trans hl.1 sl, f _ _ Γ ω H hk S (DR.str _) Fr.refl⟩⟩⟩
theorem ok_plusS {s t : Str} (hl : s.length + t.length ≤ 100000) (hk : k (dat (.str (s ++ t))) Γ) : OpK (rPlus K) (.str s) (.str t) k Γ := ok_of (q := dP (.str (s ++ t))) (fun A H v w _ a b Q f => by
  cases DR.str_inv a
  cases DR.str_inv b
  exact .inr (.inr (.inl ⟨s, t, rfl, rfl, Nat.le_trans hl (by decide), f _ (DR.str _)⟩))) hk
theorem ck_intT {s : Str} {n : Int} (h : PySem.intText? s = some n) (hl : s.length ≤ 640) (hk : k (dat (.int n)) Γ) : CbK rIntT [.str s] k Γ := ck_of (q := dP (.int n)) (fun A H vs _ h' Q f => by
  cases h' with | cons a b =>
  cases b
  cases DR.str_inv a
  exact ⟨s, n, rfl, h, hl, f _ (DR.int _)⟩) hk
theorem ck_lenS {s : Str} (hl : s.length ≤ 1000000) (hk : k (dat (.int s.length)) Γ) : CbK (rLenA K) [.str s] k Γ := ck_of (q := dP (.int s.length)) (fun A H vs _ h' Q f => by
  cases h' with | cons a b =>
  cases b
  cases DR.str_inv a
  exact ⟨_, s.length, rfl, ⟨Nat.le_trans hl (by decide), rfl⟩, f _ (DR.int _)⟩) hk
end
/-- a number among the module's names -/
theorem pe_globI {X : Cx} {x : Str} {i : Int} {pos : Pos} (hg : Gl X x) (hm : ∃ t, X.mg x = some (.int i t)) (hd : (x == ("__debug__" : Str)) = false := by decide) : PE X (.Name x pos) (tC (.int i)) := by
  obtain ⟨t, h⟩ := hm
  exact pe_glob (v := .int i) hg h ⟨t, rfl⟩ hd
end G

namespace G
open PySem L2
local macro_rules | `(tactic| walk_at "g1") => `(tactic| first
  | (with_reducible show WE _ _ _; with_reducible first | refine we_var (by with_unfolding_all exact rfl) ?_ | (show WE (tOp _ _ _) _ _; first | refine we_ixS (by with_unfolding_all exact rfl) ?_ | refine we_ixScr (by with_unfolding_all exact rfl) ?_ | refine we_inS (by with_unfolding_all exact rfl) ?_ | refine we_notInS (by with_unfolding_all exact rfl) ?_ | refine we_eqS (by with_unfolding_all exact rfl) ?_ | refine we_neS (by with_unfolding_all exact rfl) ?_ | refine we_opK ?_) | (show WE (tCB _ _) _ _; first | refine we_lenS' (by with_unfolding_all exact rfl) ?_ | refine we_lenScr (by with_unfolding_all exact rfl) ?_ | refine we_cbK ?_) | refine we_int ?_ | refine we_bl ?_ | refine we_non ?_ | refine we_str ?_ | refine we_neg ?_ | refine we_not ?_ | refine we_and ?_ | refine we_or ?_ | refine we_if ?_ | refine we_tup ?_ | refine we_lst ?_ | refine we_call ?_ | refine we_mt (by with_unfolding_all exact rfl) ?_)
  | (with_reducible show WS _ _ _ _; with_reducible first | refine ws_seqA ?_ | refine ws_seqD ?_ | refine ws_asg (by with_unfolding_all exact rfl) ?_ | refine ws_asgG ?_ | refine ws_if ?_ | refine ws_ret ?_ | refine ws_drop ?_ | refine ws_next ?_ | refine ws_retN ?_)
  | (with_reducible show WT _ _ _; with_reducible first | refine wt_test ?_ | refine wt_B ?_ | refine wt_not ?_ | refine wt_and ?_ | refine wt_or ?_ | refine wt_yes ?_)
  | (with_reducible show WA _ _ _; with_reducible first | refine wa_nil ?_ | refine wa_cons (wq_of (we_var (by with_unfolding_all exact rfl) ?_)) | refine wa_slotU (by with_unfolding_all exact rfl) ?_ | refine wa_cons ?_)
  | (with_reducible show OpK _ _ _ _ _; with_reducible first | refine ok_plusI ?_ | refine ok_sub ?_ | refine ok_lt ?_ | refine ok_le ?_ | refine ok_gt ?_ | refine ok_ge ?_ | refine ok_eqI ?_ | refine ok_neI ?_ | refine ok_mod (by first | assumption | decide | omega) ?_ | refine ok_ixL (by with_unfolding_all exact rfl) ?_)
  | (with_reducible show CbK _ _ _ _; with_reducible first | refine ck_lenL ?_ | refine ck_lenT ?_ | refine ck_int ?_ | refine ck_intB ?_ | refine ck_max ?_ | refine ck_min ?_ | refine ck_list ?_)
  | with_reducible refine wq_of ?_
  | (with_reducible show WG _ _ _ _ _; with_reducible first | refine wg_name (by with_unfolding_all exact rfl) ?_ | refine wg_tup (by with_unfolding_all exact rfl) ?_ | refine wg_set (by with_unfolding_all exact rfl) ?_)
  | (with_reducible show WGs _ _ _ _ _; with_reducible first | refine wgs_cons ?_ | refine wgs_nil ?_)
  | with_reducible refine iteT ?_
  | with_reducible refine iteF ?_
  | with_reducible refine ⟨_, frz_per, ?_⟩
  | with_reducible refine ⟨_, frz_own, ?_⟩
  | refine ⟨_, rfl, ?_⟩
  | refine ⟨_, argD1, ?_⟩
  | refine ⟨_, argD2, ?_⟩
  | refine ⟨_, argD0, ?_⟩
  | refine ⟨_, argD3, ?_⟩
  | refine ⟨_, argD4, ?_⟩
  | refine ⟨_, _, rfl, rfl, rfl, ?_⟩
  | refine ⟨_, _, _, rfl, rfl, rfl, ?_⟩
  | refine ⟨(by simp only [List.length_cons, List.length_nil]; decide), ?_⟩
  | refine ⟨rfl, nd1, ?_⟩
  | refine ⟨rfl, nd0, ?_⟩)
local macro_rules | `(tactic| walk_at "go") => `(tactic| repeat walk_at "g1")
local macro_rules | `(tactic| walk_at "g2") => `(tactic| first
  | (with_reducible show WE _ _ _; with_reducible first | refine we_var (by with_unfolding_all exact rfl) ?_ | (show WE (tOp _ _ _) _ _; first | refine we_notN ?_ | refine we_ixS (by with_unfolding_all exact rfl) ?_ | refine we_ixScr (by with_unfolding_all exact rfl) ?_ | refine we_inS (by with_unfolding_all exact rfl) ?_ | refine we_notInS (by with_unfolding_all exact rfl) ?_ | refine we_eqS (by with_unfolding_all exact rfl) ?_ | refine we_neS (by with_unfolding_all exact rfl) ?_ | refine we_opK ?_) | (show WE (tCB _ _) _ _; first | refine we_isInt ?_ | refine we_isBl ?_ | refine we_isLst ?_ | refine we_isTup ?_ | refine we_lenO (by with_unfolding_all exact rfl) ?_ | refine we_lenS' (by with_unfolding_all exact rfl) ?_ | refine we_lenScr (by with_unfolding_all exact rfl) ?_ | refine we_cbK ?_) | refine we_chain ?_ | refine we_slice ?_ | refine we_int ?_ | refine we_bl ?_ | refine we_non ?_ | refine we_str ?_ | refine we_neg ?_ | refine we_not ?_ | refine we_and ?_ | refine we_or ?_ | refine we_if ?_ | refine we_tup ?_ | refine we_lst ?_ | refine we_call ?_ | refine we_mt (by with_unfolding_all exact rfl) ?_)
  | (with_reducible show WS _ _ _ _; with_reducible first | refine ws_seqA ?_ | refine ws_seqD ?_ | refine ws_asg (by with_unfolding_all exact rfl) ?_ | refine ws_asgG ?_ | refine ws_if ?_ | refine ws_ret ?_ | refine ws_drop ?_ | refine ws_next ?_ | refine ws_retN ?_)
  | (with_reducible show WT _ _ _; with_reducible first | refine wt_test ?_ | refine wt_B ?_ | refine wt_not ?_ | refine wt_and ?_ | refine wt_or ?_ | refine wt_yes ?_)
  | (with_reducible show WA _ _ _; with_reducible first | refine wa_nil ?_ | refine wa_cons (wq_of (we_var (by with_unfolding_all exact rfl) ?_)) | refine wa_slotU (by with_unfolding_all exact rfl) ?_ | refine wa_cons ?_)
  | (with_reducible show OpK _ _ _ _ _; with_reducible first | refine ok_isB ?_ | refine ok_notB ?_ | refine ok_plusI ?_ | refine ok_sub ?_ | refine ok_lt ?_ | refine ok_le ?_ | refine ok_gt ?_ | refine ok_ge ?_ | refine ok_eqI ?_ | refine ok_neI ?_ | refine ok_mod (by first | assumption | decide | omega) ?_ | refine ok_ixL (by with_unfolding_all exact rfl) ?_)
  | (with_reducible show CbK _ _ _ _; with_reducible first | refine ck_lenL ?_ | refine ck_lenT ?_ | refine ck_int ?_ | refine ck_intB ?_ | refine ck_max ?_ | refine ck_min ?_ | refine ck_list ?_)
  | with_reducible refine wq_of ?_
  | (with_reducible show WG _ _ _ _ _; with_reducible first | refine wg_name (by with_unfolding_all exact rfl) ?_ | refine wg_tup (by with_unfolding_all exact rfl) ?_ | refine wg_set (by with_unfolding_all exact rfl) ?_)
  | (with_reducible show WGs _ _ _ _ _; with_reducible first | refine wgs_cons ?_ | refine wgs_nil ?_)
  | (with_reducible show WO _ _ _; with_reducible first | refine wo_some ?_ | refine wo_none ?_)
  | refine ⟨_, argD5, ?_⟩
  | refine ⟨_, argD6, ?_⟩
  | refine ⟨_, argD7, ?_⟩
  | refine ⟨_, argD9, ?_⟩
  | with_reducible refine iteT ?_
  | with_reducible refine iteF ?_
  | with_reducible refine ⟨_, frz_per, ?_⟩
  | with_reducible refine ⟨_, frz_own, ?_⟩
  | refine ⟨_, rfl, ?_⟩
  | refine ⟨_, argD1, ?_⟩
  | refine ⟨_, argD2, ?_⟩
  | refine ⟨_, argD0, ?_⟩
  | refine ⟨_, argD3, ?_⟩
  | refine ⟨_, argD4, ?_⟩
  | refine ⟨_, _, rfl, rfl, rfl, ?_⟩
  | refine ⟨_, _, _, rfl, rfl, rfl, ?_⟩
  | refine ⟨(by simp only [List.length_cons, List.length_nil]; decide), ?_⟩
  | refine ⟨rfl, nd1, ?_⟩
  | refine ⟨rfl, nd0, ?_⟩)
abbrev t_law_pick_0 (K : PySem.W.Frag) : TS :=
  (tSeq (tAsg (tOp (rModI) (tCB (rInt1) (tCons (tOp (rIx K) (tVar 0) (tC (.int 0))) tNil)) (tVar 1)) (gName 2))
    (tSeq (tAsg (tOp (rDivI) (tOp (rIx K) (tVar 0) (tC (.int 0))) (tVar 1)) (gSub (tVar 0) (tC (.int 0)) rSetL))
    (tRet (tVar 2))))
abbrev t_law_pick_1 (K : PySem.W.Frag) : TS :=
  (tSeq (tAsg (tOp (rModI) (tCB (rInt1) (tCons (tOp (rPlus K) (tOp (rMulI) (tOp (rMulI) (tVar 4) (tVar 4)) (tC (.int 31))) (tVar 4)) tNil)) (tOp (rIx K) (tLst (tCons (tC (.int 2147483579)) (tCons (tC (.int 2147483563)) (tCons (tC (.int 2147483549)) (tCons (tC (.int 2147483543)) tNil))))) (tOp (rModI) (tCB (rInt1) (tCons (tVar 3) tNil)) (tC (.int 4))))) (gName 4))
    (tRet (tOp (rModI) (tCB (rInt1) (tCons (tOp (rDivI) (tVar 4) (tC (.int 32))) tNil)) (tVar 1))))
abbrev t_law_pick_2 (K : PySem.W.Frag) : TS :=
  (tSeq (tAsg (tOp (rModI) (tCB (rInt1) (tCons (tOp (rPlus K) (tOp (rPlus K) (tOp (rMulI) (tVar 4) (tVar 4)) (tOp (rDivI) (tOp (rIx K) (tVar 0) (tC (.int 1))) (tC (.int 2147483629)))) (tOp (rMulI) (tC (.int 104729)) (tVar 3))) tNil)) (tC (.int 2147483587))) (gName 4))
    (t_law_pick_1 K))
abbrev t_law_pick_3 (K : PySem.W.Frag) : TS :=
  (tSeq (tAsg (tOp (rModI) (tCB (rInt1) (tCons (tOp (rPlus K) (tOp (rPlus K) (tOp (rIx K) (tVar 0) (tC (.int 1))) (tOp (rMulI) (tVar 3) (tC (.int 1299709)))) (tOp (rMulI) (tOp (rMulI) (tVar 3) (tVar 3)) (tC (.int 15485863)))) tNil)) (tC (.int 2147483629))) (gName 4))
    (t_law_pick_2 K))
abbrev t_law_pick_4 (K : PySem.W.Frag) : TS :=
  (tSeq (tAsg (tOp (rPlus K) (tOp (rIx K) (tVar 0) (tC (.int 2))) (tC (.int 1))) (gSub (tVar 0) (tC (.int 2)) rSetL))
    (tSeq (tAsg (tOp (rIx K) (tVar 0) (tC (.int 2))) (gName 3))
    (t_law_pick_3 K)))
def t_law_pick (K : PySem.W.Frag) : TS :=
  (tSeq (tIfS (tTest (tOp (rGtI) (tOp (rIx K) (tVar 0) (tC (.int 0))) (tC (.int 0)))) (t_law_pick_0 K) tNext)
    (t_law_pick_4 K))
abbrev N_law_pick : List Str := ["urn", "many", "found", "turn", "mixed"]
abbrev F_law_pick : Fw := fun gs kk xx => ∃ m many, gs = [urn m, dat (.int many)] ∧ 1 ≤ m ∧ 0 < many ∧ many < 2 ^ 100 ∧ ∀ r : Int, 0 ≤ r → r < many → kk (dat (.int r)) [some (urn (m - 1)), none]
abbrev sp_law_pick (K : PySem.W.Frag) : Sp := SpG 2 F_law_pick
theorem pure_law_pick {K : PySem.W.Frag} {vs : List V} {H : Hp} {Q : VK} {E : XK} (h : sp_law_pick K vs H Q E) : t_law_pick K { nx := fun _ H' => Q .non H', rt := Q } (L2.start N_law_pick vs) H := by
  refine body_ok (fun i => i == 0) ?_ h
  rintro gs kk xx ⟨m, many, rfl, hm, h0, hM, hk⟩ -
  refine ws_urn (i := 0) rfl fun a b c c0 c1 => ?_
  unfold t_law_pick
  refine ws_seq ?_
  walk_at "go"
  refine ite_dec (fun ha => ?_) (fun ha => ?_)
  · walk_at "go"
    refine ok_div (cdiv_of h0 hM (by decide) (by decide)) ?_
    walk_at "go"
    exact ⟨_, _, Ent.refl, les_some (urn_mk c0 (by omega)) (les_none les_nil), hk _ (Int.emod_nonneg _ (by omega)) (Int.emod_lt_of_pos _ h0)⟩
  · walk_at "go"
    refine ok_mul (cmul_l (by omega) (by omega)) ?_
    walk_at "go"
    refine ok_mul (cmul_l (by omega) (by omega)) ?_
    walk_at "go"
    refine ok_mul (cmul_r (by decide) (by decide)) ?_
    walk_at "go"
    generalize hx : (b + (c + 1) * 1299709 + (c + 1) * (c + 1) * 15485863) % 2147483629 = x
    have x0 : 0 ≤ x := by rw [← hx]; exact Int.emod_nonneg _ (by decide)
    have x1 : x < 2147483629 := by rw [← hx]; exact Int.emod_lt_of_pos _ (by decide)
    refine ok_mul (cmul_l (by omega) (by omega)) ?_
    walk_at "go"
    refine ok_div (cdiv_of (b := 32) (by decide) (by decide) (by decide) (by decide)) ?_
    walk_at "go"
    refine ok_mul (cmul_l (by decide) (by decide)) ?_
    walk_at "go"
    generalize hy : (x * x + b / 2147483629 + 104729 * (c + 1)) % 2147483587 = y
    have y0 : 0 ≤ y := by rw [← hy]; exact Int.emod_nonneg _ (by decide)
    have y1 : y < 2147483587 := by rw [← hy]; exact Int.emod_lt_of_pos _ (by decide)
    refine ok_mul (cmul_l (by omega) (by omega)) ?_
    walk_at "go"
    refine ok_mul (cmul_r (by decide) (by decide)) ?_
    walk_at "go"
    obtain ⟨p, hp, hp0⟩ : ∃ p : Int, atI [PyData.int 2147483579, PyData.int 2147483563, PyData.int 2147483549, PyData.int 2147483543] ((c + 1) % 4) = some (.int p) ∧ 0 < p := by
      have h4 : (c + 1) % 4 = 0 ∨ (c + 1) % 4 = 1 ∨ (c + 1) % 4 = 2 ∨ (c + 1) % 4 = 3 := by omega
      rcases h4 with e | e | e | e <;> rw [e]
      · exact ⟨2147483579, rfl, by decide⟩
      · exact ⟨2147483563, rfl, by decide⟩
      · exact ⟨2147483549, rfl, by decide⟩
      · exact ⟨2147483543, rfl, by decide⟩
    refine ok_ixL hp ?_
    walk_at "go"
    refine ok_div (cdiv_of (b := 32) (by decide) (by decide) (by decide) (by decide)) ?_
    walk_at "go"
    exact ⟨_, _, Ent.refl, les_some (urn_mk (m := m - 1) (by omega) (by omega)) (les_none les_nil), hk _ (Int.emod_nonneg _ (by omega)) (Int.emod_lt_of_pos _ h0)⟩
end G

namespace G
open PySem L2
local macro_rules | `(tactic| walk_at "g1") => `(tactic| first
  | (with_reducible show WE _ _ _; with_reducible first | refine we_var (by with_unfolding_all exact rfl) ?_ | (show WE (tOp _ _ _) _ _; first | refine we_ixS (by with_unfolding_all exact rfl) ?_ | refine we_ixScr (by with_unfolding_all exact rfl) ?_ | refine we_inS (by with_unfolding_all exact rfl) ?_ | refine we_notInS (by with_unfolding_all exact rfl) ?_ | refine we_eqS (by with_unfolding_all exact rfl) ?_ | refine we_neS (by with_unfolding_all exact rfl) ?_ | refine we_opK ?_) | (show WE (tCB _ _) _ _; first | refine we_lenS' (by with_unfolding_all exact rfl) ?_ | refine we_lenScr (by with_unfolding_all exact rfl) ?_ | refine we_cbK ?_) | refine we_int ?_ | refine we_bl ?_ | refine we_non ?_ | refine we_str ?_ | refine we_neg ?_ | refine we_not ?_ | refine we_and ?_ | refine we_or ?_ | refine we_if ?_ | refine we_tup ?_ | refine we_lst ?_ | refine we_call ?_ | refine we_mt (by with_unfolding_all exact rfl) ?_)
  | (with_reducible show WS _ _ _ _; with_reducible first | refine ws_seqA ?_ | refine ws_seqD ?_ | refine ws_asg (by with_unfolding_all exact rfl) ?_ | refine ws_asgG ?_ | refine ws_if ?_ | refine ws_ret ?_ | refine ws_drop ?_ | refine ws_next ?_ | refine ws_retN ?_)
  | (with_reducible show WT _ _ _; with_reducible first | refine wt_test ?_ | refine wt_B ?_ | refine wt_not ?_ | refine wt_and ?_ | refine wt_or ?_ | refine wt_yes ?_)
  | (with_reducible show WA _ _ _; with_reducible first | refine wa_nil ?_ | refine wa_cons (wq_of (we_var (by with_unfolding_all exact rfl) ?_)) | refine wa_slotU (by with_unfolding_all exact rfl) ?_ | refine wa_cons ?_)
  | (with_reducible show OpK _ _ _ _ _; with_reducible first | refine ok_plusI ?_ | refine ok_sub ?_ | refine ok_lt ?_ | refine ok_le ?_ | refine ok_gt ?_ | refine ok_ge ?_ | refine ok_eqI ?_ | refine ok_neI ?_ | refine ok_mod (by first | assumption | decide | omega) ?_ | refine ok_ixL (by with_unfolding_all exact rfl) ?_)
  | (with_reducible show CbK _ _ _ _; with_reducible first | refine ck_lenL ?_ | refine ck_lenT ?_ | refine ck_int ?_ | refine ck_intB ?_ | refine ck_max ?_ | refine ck_min ?_ | refine ck_list ?_)
  | with_reducible refine wq_of ?_
  | (with_reducible show WG _ _ _ _ _; with_reducible first | refine wg_name (by with_unfolding_all exact rfl) ?_ | refine wg_tup (by with_unfolding_all exact rfl) ?_ | refine wg_set (by with_unfolding_all exact rfl) ?_)
  | (with_reducible show WGs _ _ _ _ _; with_reducible first | refine wgs_cons ?_ | refine wgs_nil ?_)
  | with_reducible refine iteT ?_
  | with_reducible refine iteF ?_
  | with_reducible refine ⟨_, frz_per, ?_⟩
  | with_reducible refine ⟨_, frz_own, ?_⟩
  | refine ⟨_, rfl, ?_⟩
  | refine ⟨_, argD1, ?_⟩
  | refine ⟨_, argD2, ?_⟩
  | refine ⟨_, argD0, ?_⟩
  | refine ⟨_, argD3, ?_⟩
  | refine ⟨_, argD4, ?_⟩
  | refine ⟨_, _, rfl, rfl, rfl, ?_⟩
  | refine ⟨_, _, _, rfl, rfl, rfl, ?_⟩
  | refine ⟨(by simp only [List.length_cons, List.length_nil]; decide), ?_⟩
  | refine ⟨rfl, nd1, ?_⟩
  | refine ⟨rfl, nd0, ?_⟩)
local macro_rules | `(tactic| walk_at "go") => `(tactic| repeat walk_at "g1")
local macro_rules | `(tactic| walk_at "g2") => `(tactic| first
  | (with_reducible show WE _ _ _; with_reducible first | refine we_var (by with_unfolding_all exact rfl) ?_ | (show WE (tOp _ _ _) _ _; first | refine we_notN ?_ | refine we_ixS (by with_unfolding_all exact rfl) ?_ | refine we_ixScr (by with_unfolding_all exact rfl) ?_ | refine we_inS (by with_unfolding_all exact rfl) ?_ | refine we_notInS (by with_unfolding_all exact rfl) ?_ | refine we_eqS (by with_unfolding_all exact rfl) ?_ | refine we_neS (by with_unfolding_all exact rfl) ?_ | refine we_opK ?_) | (show WE (tCB _ _) _ _; first | refine we_isInt ?_ | refine we_isBl ?_ | refine we_isLst ?_ | refine we_isTup ?_ | refine we_lenO (by with_unfolding_all exact rfl) ?_ | refine we_lenS' (by with_unfolding_all exact rfl) ?_ | refine we_lenScr (by with_unfolding_all exact rfl) ?_ | refine we_cbK ?_) | refine we_chain ?_ | refine we_slice ?_ | refine we_int ?_ | refine we_bl ?_ | refine we_non ?_ | refine we_str ?_ | refine we_neg ?_ | refine we_not ?_ | refine we_and ?_ | refine we_or ?_ | refine we_if ?_ | refine we_tup ?_ | refine we_lst ?_ | refine we_call ?_ | refine we_mt (by with_unfolding_all exact rfl) ?_)
  | (with_reducible show WS _ _ _ _; with_reducible first | refine ws_seqA ?_ | refine ws_seqD ?_ | refine ws_asg (by with_unfolding_all exact rfl) ?_ | refine ws_asgG ?_ | refine ws_if ?_ | refine ws_ret ?_ | refine ws_drop ?_ | refine ws_next ?_ | refine ws_retN ?_)
  | (with_reducible show WT _ _ _; with_reducible first | refine wt_test ?_ | refine wt_B ?_ | refine wt_not ?_ | refine wt_and ?_ | refine wt_or ?_ | refine wt_yes ?_)
  | (with_reducible show WA _ _ _; with_reducible first | refine wa_nil ?_ | refine wa_cons (wq_of (we_var (by with_unfolding_all exact rfl) ?_)) | refine wa_slotU (by with_unfolding_all exact rfl) ?_ | refine wa_cons ?_)
  | (with_reducible show OpK _ _ _ _ _; with_reducible first | refine ok_isB ?_ | refine ok_notB ?_ | refine ok_plusI ?_ | refine ok_sub ?_ | refine ok_lt ?_ | refine ok_le ?_ | refine ok_gt ?_ | refine ok_ge ?_ | refine ok_eqI ?_ | refine ok_neI ?_ | refine ok_mod (by first | assumption | decide | omega) ?_ | refine ok_ixL (by with_unfolding_all exact rfl) ?_)
  | (with_reducible show CbK _ _ _ _; with_reducible first | refine ck_lenL ?_ | refine ck_lenT ?_ | refine ck_int ?_ | refine ck_intB ?_ | refine ck_max ?_ | refine ck_min ?_ | refine ck_list ?_)
  | with_reducible refine wq_of ?_
  | (with_reducible show WG _ _ _ _ _; with_reducible first | refine wg_name (by with_unfolding_all exact rfl) ?_ | refine wg_tup (by with_unfolding_all exact rfl) ?_ | refine wg_set (by with_unfolding_all exact rfl) ?_)
  | (with_reducible show WGs _ _ _ _ _; with_reducible first | refine wgs_cons ?_ | refine wgs_nil ?_)
  | (with_reducible show WO _ _ _; with_reducible first | refine wo_some ?_ | refine wo_none ?_)
  | refine ⟨_, argD5, ?_⟩
  | refine ⟨_, argD6, ?_⟩
  | refine ⟨_, argD7, ?_⟩
  | refine ⟨_, argD9, ?_⟩
  | with_reducible refine iteT ?_
  | with_reducible refine iteF ?_
  | with_reducible refine ⟨_, frz_per, ?_⟩
  | with_reducible refine ⟨_, frz_own, ?_⟩
  | refine ⟨_, rfl, ?_⟩
  | refine ⟨_, argD1, ?_⟩
  | refine ⟨_, argD2, ?_⟩
  | refine ⟨_, argD0, ?_⟩
  | refine ⟨_, argD3, ?_⟩
  | refine ⟨_, argD4, ?_⟩
  | refine ⟨_, _, rfl, rfl, rfl, ?_⟩
  | refine ⟨_, _, _, rfl, rfl, rfl, ?_⟩
  | refine ⟨(by simp only [List.length_cons, List.length_nil]; decide), ?_⟩
  | refine ⟨rfl, nd1, ?_⟩
  | refine ⟨rfl, nd0, ?_⟩)
abbrev t_law_urn_0 (K : PySem.W.Frag) : TS :=
  (tRet (tLst (tCons (tCB (rMax2) (tCons (tC (.int 0)) (tCons (tOp (rSubI) (tVar 2) (tOp (rPowI) (tC (.int 10)) (tC (.int 18)))) tNil))) (tCons (tOp (rPlus K) (tOp (rModI) (tCB (rInt1) (tCons (tVar 2) tNil)) (tOp (rPlus K) (tOp (rPowI) (tC (.int 10)) (tC (.int 30))) (tC (.int 57)))) (tVar 1)) (tCons (tC (.int 0)) tNil)))))
abbrev t_law_urn_1 (K : PySem.W.Frag) : TS :=
  (tSeq (tIfS (tTest (tOp (rLtI) (tVar 1) (tCB (rLenA K) (tCons (tVar 0) tNil)))) (tAsg (tOp (rIx K) (tVar 0) (tVar 1)) (gName 2)) tNext)
    (t_law_urn_0 K))
def t_law_urn (K : PySem.W.Frag) : TS :=
  (tSeq (tAsg (tOp (rPlus K) (tOp (rMulI) (tC (.int 40)) (tVar 1)) (tC (.int 3))) (gName 2))
    (t_law_urn_1 K))
abbrev N_law_urn : List Str := ["script", "k", "cell"]
abbrev t_law_shuffled_0 (K : PySem.W.Frag) : TS :=
  (tDrop (tBM K "list" (rAppend) (tVar 3) (tCons (tBM K "list" (rPopAt) (tVar 2) (tCons (tCall (sp_law_pick K) [] E0 (tCons (tVar 0) (tCons (tCB (rLenA K) (tCons (tVar 2) tNil)) tNil))) tNil)) tNil)))
abbrev t_law_shuffled_1 (K : PySem.W.Frag) : TS :=
  (tSeq (tAsg (tLst tNil) (gName 3))
    (tSeq (tFor (iRng1 (tCons (tCB (rLenA K) (tCons (tVar 1) tNil)) tNil)) (gName 4) (t_law_shuffled_0 K))
    (tRet (tVar 3))))
def t_law_shuffled (K : PySem.W.Frag) : TS :=
  (tSeq (tAsg (tCB (rListOf K) (tCons (tVar 1) tNil)) (gName 2))
    (t_law_shuffled_1 K))
abbrev N_law_shuffled : List Str := ["urn", "things", "left", "found", "k"]
def big : Nat := 1000000000000000
abbrev F_law_urn (K : PySem.W.Frag) : Fw := fun gs kk xx => ∃ ns j, gs = [per (scrP K ns), dat (.int j)] ∧ 0 ≤ j ∧ ns.length ≤ 63 ∧ kk (urn big) [none, none]
abbrev sp_law_urn (K : PySem.W.Frag) : Sp := SpG 2 (F_law_urn K)
theorem pure_law_urn {K : PySem.W.Frag} {vs : List V} {H : Hp} {Q : VK} {E : XK} (h : sp_law_urn K vs H Q E) : t_law_urn K { nx := fun _ H' => Q .non H', rt := Q } (L2.start N_law_urn vs) H := by
  refine body_ok (fun _ => false) ?_ h
  rintro gs kk xx ⟨ns, j, rfl, hj, hn, hk⟩ -
  unfold t_law_urn
  walk_at "go"
  refine ok_mul (cmul_l (by decide) (by decide)) ?_
  walk_at "go"
  refine ws_seq ?_
  walk_at "go"
  have fin : ∀ (c : Int) (Γ : Ga), Γ[0]? = some (some (per (scrP K ns))) → Γ[1]? = some (some (dat (.int j))) → Γ[2]? = some (some (dat (.int c))) → Γ.length = 3 → WS (fun _ => false) (tRet
          (tLst
            (tCons
              (tCB rMax2
                (tCons (tC (V.int 0))
                  (tCons (tOp rSubI (tVar 2) (tOp rPowI (tC (V.int 10)) (tC (V.int 18)))) tNil)))
              (tCons
                (tOp (rPlus K)
                  (tOp rModI (tCB rInt1 (tCons (tVar 2) tNil))
                    (tOp (rPlus K) (tOp rPowI (tC (V.int 10)) (tC (V.int 30))) (tC (V.int 57))))
                  (tVar 1))
                (tCons (tC (V.int 0)) tNil))))) Γ ⟨fun Γ => ∃ Γp, Les (mask (fun _ => false) 2 Γ) Γp ∧ kk (dat .none) Γp, fun g Γ => ∃ g' Γp, Ent g g' ∧ Les (mask (fun _ => false) 2 Γ) Γp ∧ kk g' Γp, fun _ => False, fun _ => False⟩ := by
    intro c Γ h0 h1 h2 hl
    match Γ, h0, h1, h2, hl with
    | [o0, o1, o2], h0, h1, h2, _ =>
      cases h0
      cases h1
      cases h2
      walk_at "go"
      refine ok_pow (cpow_of (by decide) (by decide) (by decide)) ?_
      walk_at "go"
      refine ok_pow (cpow_of (by decide) (by decide) (by decide)) ?_
      walk_at "go"
      exact ⟨_, _, urn_mk (Int.le_refl _) (m := big) (by unfold big; omega), les_none (les_none les_nil), hk⟩
  refine ite_dec (fun h => ?_) (fun h => ?_)
  · walk_at "go"
    obtain ⟨i, rfl⟩ : ∃ i : Nat, j = (i : Int) := ⟨j.toNat, by omega⟩
    have hi : i < ns.length := by omega
    refine ⟨_, _, rfl, at_nat i rfl (List.getElem?_eq_getElem hi), ?_⟩
    exact fin _ _ rfl rfl rfl rfl
  · walk_at "g1"
    exact fin _ _ rfl rfl rfl rfl
abbrev F_law_shuffled : Fw := fun gs kk xx => ∃ m ds, gs = [urn m, dat (.list ds)] ∧ ds.length ≤ m ∧ ds.length ≤ 1000 ∧ ∀ es : List PyData, es.Perm ds → kk (own es) [some (urn (m - ds.length)), none]
abbrev sp_law_shuffled (K : PySem.W.Frag) : Sp := SpG 2 F_law_shuffled
theorem pure_law_shuffled {K : PySem.W.Frag} {vs : List V} {H : Hp} {Q : VK} {E : XK} (h : sp_law_shuffled K vs H Q E) : t_law_shuffled K { nx := fun _ H' => Q .non H', rt := Q } (L2.start N_law_shuffled vs) H := by
  refine body_ok (fun i => i == 0) ?_ h
  rintro gs kk xx ⟨m, ds, rfl, hm, hd, hk⟩ -
  unfold t_law_shuffled
  walk_at "go"
  refine ws_seq ?_
  refine ws_for (fun i Γ => ∃ left found o, Γ = [some (urn (m - i)), some (dat (.list ds)), some (own left), some (own found), o] ∧ left.length + i = ds.length ∧ (found ++ left).Perm ds ∧ i ≤ ds.length) ?_
  refine wi_range1 ?_
  walk_at "go"
  refine ⟨by omega, by omega, ⟨ds, [], none, rfl, by simp, List.Perm.refl _, by omega⟩, ?_, ?_⟩
  · rintro Γ ⟨left, found, o, rfl, hl, hp, _⟩
    simp only [Int.toNat_natCast] at hl hp
    have e : left = [] := List.eq_nil_of_length_eq_zero (by omega)
    subst e
    rw [List.append_nil] at hp
    walk_at "go"
    refine we_varM rfl ?_
    exact ⟨_, _, Ent.refl, les_some Ent.refl (les_none les_nil), hk _ hp⟩
  · rintro i Γ hi ⟨left, found, o, rfl, hl, hp, hi2⟩
    walk_at "go"
    have hl0 : 0 < left.length := by omega
    refine ⟨_, _, rfl, by omega, by omega, by omega, fun r r0 r1 => ?_⟩
    walk_at "go"
    obtain ⟨j, rfl⟩ : ∃ j : Nat, r = (j : Int) := ⟨r.toNat, by omega⟩
    have hj : j < left.length := by omega
    refine ⟨_, _, _, _, rfl, argD1, mo_popAt j rfl (List.getElem?_eq_getElem hj) (by omega), ?_⟩
    walk_at "go"
    refine ⟨_, _, _, _, rfl, argD1, mo_append ?_, ?_⟩
    · have := hp.length_eq
      rw [List.length_append] at this
      omega
    refine ⟨_, _, _, by rw [show m - (i + 1) = m - i - 1 by omega]; rfl, ?_, perm_pick hp (List.getElem?_eq_getElem hj), by omega⟩
    rw [List.length_eraseIdx_of_lt hj]
    omega
end G

/-! ### the jar: what is drawn from -/
namespace G
open PySem L2
section
variable {K : PySem.W.Frag} {Γ : Ga} {k : Gp → Ga → Prop}
end
def jar (m : Nat) : Gp := exG fun x : Int × Int × Int => whenG ((0 ≤ x.2.2 ∧ x.2.2 + (m : Int) ≤ 2 ^ 60) ∧ 0 ≤ x.2.1 ∧ x.2.1 < 2 ^ 90) (own [.int x.1, .int x.2.1, .int x.2.2])
theorem wa_slotJ {Γ : Ga} {k : List Arg → Ga → Prop} {ta : TA} {i m : Nat} (h : Γ[i]? = some (some (jar m))) (hk : WA ta Γ fun as Γ1 => k (.s i :: as) Γ1) : WA (tCons (tVar i) ta) Γ k := wa_slot ⟨_, h⟩ hk
end G

namespace G
open PySem L2
local macro_rules | `(tactic| walk_at "g1") => `(tactic| first
  | (with_reducible show WE _ _ _; with_reducible first | refine we_var (by with_unfolding_all exact rfl) ?_ | (show WE (tOp _ _ _) _ _; first | refine we_ixS (by with_unfolding_all exact rfl) ?_ | refine we_ixScr (by with_unfolding_all exact rfl) ?_ | refine we_inS (by with_unfolding_all exact rfl) ?_ | refine we_notInS (by with_unfolding_all exact rfl) ?_ | refine we_eqS (by with_unfolding_all exact rfl) ?_ | refine we_neS (by with_unfolding_all exact rfl) ?_ | refine we_opK ?_) | (show WE (tCB _ _) _ _; first | refine we_lenS' (by with_unfolding_all exact rfl) ?_ | refine we_lenScr (by with_unfolding_all exact rfl) ?_ | refine we_cbK ?_) | refine we_int ?_ | refine we_bl ?_ | refine we_non ?_ | refine we_str ?_ | refine we_neg ?_ | refine we_not ?_ | refine we_and ?_ | refine we_or ?_ | refine we_if ?_ | refine we_tup ?_ | refine we_lst ?_ | refine we_call ?_ | refine we_mt (by with_unfolding_all exact rfl) ?_)
  | (with_reducible show WS _ _ _ _; with_reducible first | refine ws_seqA ?_ | refine ws_seqD ?_ | refine ws_asg (by with_unfolding_all exact rfl) ?_ | refine ws_asgG ?_ | refine ws_if ?_ | refine ws_ret ?_ | refine ws_drop ?_ | refine ws_next ?_ | refine ws_retN ?_)
  | (with_reducible show WT _ _ _; with_reducible first | refine wt_test ?_ | refine wt_B ?_ | refine wt_not ?_ | refine wt_and ?_ | refine wt_or ?_ | refine wt_yes ?_)
  | (with_reducible show WA _ _ _; with_reducible first | refine wa_nil ?_ | refine wa_cons (wq_of (we_var (by with_unfolding_all exact rfl) ?_)) | refine wa_slotU (by with_unfolding_all exact rfl) ?_ | refine wa_cons ?_)
  | (with_reducible show OpK _ _ _ _ _; with_reducible first | refine ok_plusI ?_ | refine ok_sub ?_ | refine ok_lt ?_ | refine ok_le ?_ | refine ok_gt ?_ | refine ok_ge ?_ | refine ok_eqI ?_ | refine ok_neI ?_ | refine ok_mod (by first | assumption | decide | omega) ?_ | refine ok_ixL (by with_unfolding_all exact rfl) ?_)
  | (with_reducible show CbK _ _ _ _; with_reducible first | refine ck_lenL ?_ | refine ck_lenT ?_ | refine ck_int ?_ | refine ck_intB ?_ | refine ck_max ?_ | refine ck_min ?_ | refine ck_list ?_)
  | with_reducible refine wq_of ?_
  | (with_reducible show WG _ _ _ _ _; with_reducible first | refine wg_name (by with_unfolding_all exact rfl) ?_ | refine wg_tup (by with_unfolding_all exact rfl) ?_ | refine wg_set (by with_unfolding_all exact rfl) ?_)
  | (with_reducible show WGs _ _ _ _ _; with_reducible first | refine wgs_cons ?_ | refine wgs_nil ?_)
  | with_reducible refine iteT ?_
  | with_reducible refine iteF ?_
  | with_reducible refine ⟨_, frz_per, ?_⟩
  | with_reducible refine ⟨_, frz_own, ?_⟩
  | refine ⟨_, rfl, ?_⟩
  | refine ⟨_, argD1, ?_⟩
  | refine ⟨_, argD2, ?_⟩
  | refine ⟨_, argD0, ?_⟩
  | refine ⟨_, argD3, ?_⟩
  | refine ⟨_, argD4, ?_⟩
  | refine ⟨_, _, rfl, rfl, rfl, ?_⟩
  | refine ⟨_, _, _, rfl, rfl, rfl, ?_⟩
  | refine ⟨(by simp only [List.length_cons, List.length_nil]; decide), ?_⟩
  | refine ⟨rfl, nd1, ?_⟩
  | refine ⟨rfl, nd0, ?_⟩)
local macro_rules | `(tactic| walk_at "go") => `(tactic| repeat walk_at "g1")
local macro_rules | `(tactic| walk_at "g2") => `(tactic| first
  | (with_reducible show WE _ _ _; with_reducible first | refine we_var (by with_unfolding_all exact rfl) ?_ | (show WE (tOp _ _ _) _ _; first | refine we_notN ?_ | refine we_ixS (by with_unfolding_all exact rfl) ?_ | refine we_ixScr (by with_unfolding_all exact rfl) ?_ | refine we_inS (by with_unfolding_all exact rfl) ?_ | refine we_notInS (by with_unfolding_all exact rfl) ?_ | refine we_eqS (by with_unfolding_all exact rfl) ?_ | refine we_neS (by with_unfolding_all exact rfl) ?_ | refine we_opK ?_) | (show WE (tCB _ _) _ _; first | refine we_isInt ?_ | refine we_isBl ?_ | refine we_isLst ?_ | refine we_isTup ?_ | refine we_lenO (by with_unfolding_all exact rfl) ?_ | refine we_lenS' (by with_unfolding_all exact rfl) ?_ | refine we_lenScr (by with_unfolding_all exact rfl) ?_ | refine we_cbK ?_) | refine we_chain ?_ | refine we_slice ?_ | refine we_int ?_ | refine we_bl ?_ | refine we_non ?_ | refine we_str ?_ | refine we_neg ?_ | refine we_not ?_ | refine we_and ?_ | refine we_or ?_ | refine we_if ?_ | refine we_tup ?_ | refine we_lst ?_ | refine we_call ?_ | refine we_mt (by with_unfolding_all exact rfl) ?_)
  | (with_reducible show WS _ _ _ _; with_reducible first | refine ws_seqA ?_ | refine ws_seqD ?_ | refine ws_asg (by with_unfolding_all exact rfl) ?_ | refine ws_asgG ?_ | refine ws_if ?_ | refine ws_ret ?_ | refine ws_drop ?_ | refine ws_next ?_ | refine ws_retN ?_)
  | (with_reducible show WT _ _ _; with_reducible first | refine wt_test ?_ | refine wt_B ?_ | refine wt_not ?_ | refine wt_and ?_ | refine wt_or ?_ | refine wt_yes ?_)
  | (with_reducible show WA _ _ _; with_reducible first | refine wa_nil ?_ | refine wa_cons (wq_of (we_var (by with_unfolding_all exact rfl) ?_)) | refine wa_slotU (by with_unfolding_all exact rfl) ?_ | refine wa_cons ?_)
  | (with_reducible show OpK _ _ _ _ _; with_reducible first | refine ok_isB ?_ | refine ok_notB ?_ | refine ok_plusI ?_ | refine ok_sub ?_ | refine ok_lt ?_ | refine ok_le ?_ | refine ok_gt ?_ | refine ok_ge ?_ | refine ok_eqI ?_ | refine ok_neI ?_ | refine ok_mod (by first | assumption | decide | omega) ?_ | refine ok_ixL (by with_unfolding_all exact rfl) ?_)
  | (with_reducible show CbK _ _ _ _; with_reducible first | refine ck_lenL ?_ | refine ck_lenT ?_ | refine ck_int ?_ | refine ck_intB ?_ | refine ck_max ?_ | refine ck_min ?_ | refine ck_list ?_)
  | with_reducible refine wq_of ?_
  | (with_reducible show WG _ _ _ _ _; with_reducible first | refine wg_name (by with_unfolding_all exact rfl) ?_ | refine wg_tup (by with_unfolding_all exact rfl) ?_ | refine wg_set (by with_unfolding_all exact rfl) ?_)
  | (with_reducible show WGs _ _ _ _ _; with_reducible first | refine wgs_cons ?_ | refine wgs_nil ?_)
  | (with_reducible show WO _ _ _; with_reducible first | refine wo_some ?_ | refine wo_none ?_)
  | refine ⟨_, argD5, ?_⟩
  | refine ⟨_, argD6, ?_⟩
  | refine ⟨_, argD7, ?_⟩
  | refine ⟨_, argD9, ?_⟩
  | with_reducible refine iteT ?_
  | with_reducible refine iteF ?_
  | with_reducible refine ⟨_, frz_per, ?_⟩
  | with_reducible refine ⟨_, frz_own, ?_⟩
  | refine ⟨_, rfl, ?_⟩
  | refine ⟨_, argD1, ?_⟩
  | refine ⟨_, argD2, ?_⟩
  | refine ⟨_, argD0, ?_⟩
  | refine ⟨_, argD3, ?_⟩
  | refine ⟨_, argD4, ?_⟩
  | refine ⟨_, _, rfl, rfl, rfl, ?_⟩
  | refine ⟨_, _, _, rfl, rfl, rfl, ?_⟩
  | refine ⟨(by simp only [List.length_cons, List.length_nil]; decide), ?_⟩
  | refine ⟨rfl, nd1, ?_⟩
  | refine ⟨rfl, nd0, ?_⟩)
local macro_rules | `(tactic| walk_at "w") => `(tactic| first
  | (with_reducible show WE _ _ _; with_reducible first | refine we_var (by with_unfolding_all exact rfl) ?_ | refine we_varF (by with_unfolding_all exact rfl) frz_own ?_ | (show WE (tOp _ _ _) _ _; first | refine we_isNd ?_ | refine we_notNd ?_ | refine we_notN ?_ | refine we_ixS (by with_unfolding_all exact rfl) ?_ | refine we_ixScr (by with_unfolding_all exact rfl) ?_ | refine we_inS (by with_unfolding_all exact rfl) ?_ | refine we_notInS (by with_unfolding_all exact rfl) ?_ | refine we_eqS (by with_unfolding_all exact rfl) ?_ | refine we_neS (by with_unfolding_all exact rfl) ?_ | refine we_opK ?_) | (show WE (tCB _ _) _ _; first | refine we_repr ?_ | refine we_isInt ?_ | refine we_isBl ?_ | refine we_isLst ?_ | refine we_isTup ?_ | refine we_lenO (by with_unfolding_all exact rfl) ?_ | refine we_lenS' (by with_unfolding_all exact rfl) ?_ | refine we_lenScr (by with_unfolding_all exact rfl) ?_ | refine we_cbK ?_) | refine we_dnew ?_ | refine we_lenSetI ?_ | refine we_revL ?_ | refine we_chain ?_ | refine we_slice ?_ | refine we_int ?_ | refine we_bl ?_ | refine we_non ?_ | refine we_str ?_ | refine we_neg ?_ | refine we_not ?_ | refine we_and ?_ | refine we_or ?_ | refine we_if ?_ | refine we_tup ?_ | refine we_lst ?_ | refine we_call ?_ | refine we_mt (by with_unfolding_all exact rfl) ?_)
  | (with_reducible show WS _ _ _ _; with_reducible first | refine ws_seqI ?_ | refine ws_seqA ?_ | refine ws_seqD ?_ | refine ws_asg (by with_unfolding_all exact rfl) ?_ | refine ws_asgG ?_ | refine ws_if ?_ | refine ws_ret ?_ | refine ws_drop ?_ | refine ws_next ?_ | refine ws_retN ?_)
  | (with_reducible show WT _ _ _; with_reducible first | refine wt_truL ?_ | refine wt_test ?_ | refine wt_B ?_ | refine wt_not ?_ | refine wt_and ?_ | refine wt_or ?_ | refine wt_yes ?_)
  | (with_reducible show WA _ _ _; with_reducible first | refine wa_nil ?_ | refine wa_cons (wq_of (we_var (by with_unfolding_all exact rfl) ?_)) | refine wa_slotU (by with_unfolding_all exact rfl) ?_ | refine wa_cons ?_)
  | (with_reducible show OpK _ _ _ _ _; with_reducible first | refine ok_neR ?_ | refine ok_eqR ?_ | refine ok_isB ?_ | refine ok_notB ?_ | refine ok_plusI ?_ | refine ok_sub ?_ | refine ok_lt ?_ | refine ok_le ?_ | refine ok_gt ?_ | refine ok_ge ?_ | refine ok_eqI ?_ | refine ok_neI ?_ | refine ok_mod (by first | assumption | decide | omega) ?_ | refine ok_ixL (by with_unfolding_all exact rfl) ?_)
  | (with_reducible show CbK _ _ _ _; with_reducible first | refine ck_tuple ?_ | refine ck_allF ?_ | refine ck_anyF ?_ | refine ck_abs ?_ | refine ck_sumI ?_ | refine ck_lenL ?_ | refine ck_lenT ?_ | refine ck_int ?_ | refine ck_intB ?_ | refine ck_max ?_ | refine ck_min ?_ | refine ck_list ?_)
  | with_reducible refine wq_of ?_
  | (with_reducible show WG _ _ _ _ _; with_reducible first | refine wg_name (by with_unfolding_all exact rfl) ?_ | refine wg_tup (by with_unfolding_all exact rfl) ?_ | refine wg_set (by with_unfolding_all exact rfl) ?_)
  | (with_reducible show WGs _ _ _ _ _; with_reducible first | refine wgs_cons ?_ | refine wgs_nil ?_)
  | (with_reducible show WO _ _ _; with_reducible first | refine wo_some ?_ | refine wo_none ?_)
  | refine ⟨_, argD5, ?_⟩
  | refine ⟨_, argD6, ?_⟩
  | refine ⟨_, argD7, ?_⟩
  | refine ⟨_, argD9, ?_⟩
  | with_reducible refine iteT ?_
  | with_reducible refine iteF ?_
  | with_reducible refine ⟨_, frz_per, ?_⟩
  | with_reducible refine ⟨_, frz_own, ?_⟩
  | refine ⟨_, rfl, ?_⟩
  | refine ⟨_, argD1, ?_⟩
  | refine ⟨_, argD2, ?_⟩
  | refine ⟨_, argD0, ?_⟩
  | refine ⟨_, argD3, ?_⟩
  | refine ⟨_, argD4, ?_⟩
  | refine ⟨_, _, rfl, rfl, rfl, ?_⟩
  | refine ⟨_, _, _, rfl, rfl, rfl, ?_⟩
  | refine ⟨(by simp only [List.length_cons, List.length_nil]; decide), ?_⟩
  | refine ⟨rfl, nd1, ?_⟩
  | refine ⟨rfl, nd0, ?_⟩
  | refine ⟨_, argD8, ?_⟩
  | refine ⟨_, argD10, ?_⟩)
local macro_rules | `(tactic| walk_at "v") => `(tactic| first
  | (with_reducible show WE _ _ _; with_reducible first | refine we_var (by with_unfolding_all exact rfl) ?_ | refine we_varF (by with_unfolding_all exact rfl) frz_own ?_ | (show WE (tOp _ _ _) _ _; first | refine we_isNd ?_ | refine we_notNd ?_ | refine we_notN ?_ | refine we_ixS (by with_unfolding_all exact rfl) ?_ | refine we_ixScr (by with_unfolding_all exact rfl) ?_ | refine we_inS (by with_unfolding_all exact rfl) ?_ | refine we_notInS (by with_unfolding_all exact rfl) ?_ | refine we_eqS (by with_unfolding_all exact rfl) ?_ | refine we_neS (by with_unfolding_all exact rfl) ?_ | refine we_opK ?_) | (show WE (tCB _ _) _ _; first | refine we_repr ?_ | refine we_lenWeb (by with_unfolding_all exact rfl) (by assumption) ?_ | refine we_isInt ?_ | refine we_isBl ?_ | refine we_isLst ?_ | refine we_isTup ?_ | refine we_lenO (by with_unfolding_all exact rfl) ?_ | refine we_lenS' (by with_unfolding_all exact rfl) ?_ | refine we_lenScr (by with_unfolding_all exact rfl) ?_ | refine we_cbK ?_) | refine we_dnew ?_ | refine we_lenSetI ?_ | refine we_revL ?_ | refine we_nbWeb (by with_unfolding_all exact rfl) (by assumption) (by assumption) ?_ | refine we_tiesWeb (by with_unfolding_all exact rfl) ?_ | refine we_chain ?_ | refine we_slice ?_ | refine we_int ?_ | refine we_bl ?_ | refine we_non ?_ | refine we_str ?_ | refine we_neg ?_ | refine we_not ?_ | refine we_and ?_ | refine we_or ?_ | refine we_if ?_ | refine we_tup ?_ | refine we_lst ?_ | refine we_call ?_ | refine we_mt (by with_unfolding_all exact rfl) ?_)
  | (with_reducible show WS _ _ _ _; with_reducible first | refine ws_seqI ?_ | refine ws_seqA ?_ | refine ws_seqD ?_ | refine ws_asg (by with_unfolding_all exact rfl) ?_ | refine ws_asgG ?_ | refine ws_if ?_ | refine ws_ret ?_ | refine ws_drop ?_ | refine ws_next ?_ | refine ws_retN ?_)
  | (with_reducible show WT _ _ _; with_reducible first | refine wt_truL ?_ | refine wt_test ?_ | refine wt_B ?_ | refine wt_not ?_ | refine wt_and ?_ | refine wt_or ?_ | refine wt_yes ?_)
  | (with_reducible show WA _ _ _; with_reducible first | refine wa_nil ?_ | refine wa_cons (wq_of (we_var (by with_unfolding_all exact rfl) ?_)) | refine wa_slotU (by with_unfolding_all exact rfl) ?_ | refine wa_cons ?_)
  | (with_reducible show OpK _ _ _ _ _; with_reducible first | refine ok_neR ?_ | refine ok_eqR ?_ | refine ok_isB ?_ | refine ok_notB ?_ | refine ok_plusI ?_ | refine ok_sub ?_ | refine ok_lt ?_ | refine ok_le ?_ | refine ok_gt ?_ | refine ok_ge ?_ | refine ok_eqI ?_ | refine ok_neI ?_ | refine ok_mod (by first | assumption | decide | omega) ?_ | refine ok_ixL (by with_unfolding_all exact rfl) ?_)
  | (with_reducible show CbK _ _ _ _; with_reducible first | refine ck_tuple ?_ | refine ck_allF ?_ | refine ck_anyF ?_ | refine ck_abs ?_ | refine ck_sumI ?_ | refine ck_lenL ?_ | refine ck_lenT ?_ | refine ck_int ?_ | refine ck_intB ?_ | refine ck_max ?_ | refine ck_min ?_ | refine ck_list ?_)
  | with_reducible refine wq_of ?_
  | (with_reducible show WG _ _ _ _ _; with_reducible first | refine wg_name (by with_unfolding_all exact rfl) ?_ | refine wg_tup (by with_unfolding_all exact rfl) ?_ | refine wg_set (by with_unfolding_all exact rfl) ?_)
  | (with_reducible show WGs _ _ _ _ _; with_reducible first | refine wgs_cons ?_ | refine wgs_nil ?_)
  | (with_reducible show WO _ _ _; with_reducible first | refine wo_some ?_ | refine wo_none ?_)
  | refine ⟨_, argD5, ?_⟩
  | refine ⟨_, argD6, ?_⟩
  | refine ⟨_, argD7, ?_⟩
  | refine ⟨_, argD9, ?_⟩
  | with_reducible refine iteT ?_
  | with_reducible refine iteF ?_
  | with_reducible refine ⟨_, frz_per, ?_⟩
  | with_reducible refine ⟨_, frz_own, ?_⟩
  | refine ⟨_, rfl, ?_⟩
  | refine ⟨_, argD1, ?_⟩
  | refine ⟨_, argD2, ?_⟩
  | refine ⟨_, argD0, ?_⟩
  | refine ⟨_, argD3, ?_⟩
  | refine ⟨_, argD4, ?_⟩
  | refine ⟨_, _, rfl, rfl, rfl, ?_⟩
  | refine ⟨_, _, _, rfl, rfl, rfl, ?_⟩
  | refine ⟨(by simp only [List.length_cons, List.length_nil]; decide), ?_⟩
  | refine ⟨rfl, nd1, ?_⟩
  | refine ⟨rfl, nd0, ?_⟩
  | refine ⟨_, argD8, ?_⟩
  | refine ⟨_, argD10, ?_⟩)
local macro_rules | `(tactic| walk_at "p") => `(tactic| refine ⟨_, _, rfl, (by omega), (by first | decide | omega), (by first | decide | omega), ?_⟩)
local macro_rules | `(tactic| walk_at "n") => `(tactic| try dsimp only [back, List.set_cons_zero, List.set_cons_succ, List.map_cons, List.map_nil, List.cons_append, List.nil_append])
local macro_rules | `(tactic| walk_at "q") => `(tactic| first | with_reducible refine ws_seqP (ws_par (by with_unfolding_all exact rfl) (by with_unfolding_all exact rfl) ?_) | refine ⟨_, _, rfl, ?_⟩ | walk_at "v")
namespace J
end J
end G

namespace G
open PySem L2
local macro_rules | `(tactic| walk_at "g1") => `(tactic| first
  | (with_reducible show WE _ _ _; with_reducible first | refine we_var (by with_unfolding_all exact rfl) ?_ | (show WE (tOp _ _ _) _ _; first | refine we_ixS (by with_unfolding_all exact rfl) ?_ | refine we_ixScr (by with_unfolding_all exact rfl) ?_ | refine we_inS (by with_unfolding_all exact rfl) ?_ | refine we_notInS (by with_unfolding_all exact rfl) ?_ | refine we_eqS (by with_unfolding_all exact rfl) ?_ | refine we_neS (by with_unfolding_all exact rfl) ?_ | refine we_opK ?_) | (show WE (tCB _ _) _ _; first | refine we_lenS' (by with_unfolding_all exact rfl) ?_ | refine we_lenScr (by with_unfolding_all exact rfl) ?_ | refine we_cbK ?_) | refine we_int ?_ | refine we_bl ?_ | refine we_non ?_ | refine we_str ?_ | refine we_neg ?_ | refine we_not ?_ | refine we_and ?_ | refine we_or ?_ | refine we_if ?_ | refine we_tup ?_ | refine we_lst ?_ | refine we_call ?_ | refine we_mt (by with_unfolding_all exact rfl) ?_)
  | (with_reducible show WS _ _ _ _; with_reducible first | refine ws_seqA ?_ | refine ws_seqD ?_ | refine ws_asg (by with_unfolding_all exact rfl) ?_ | refine ws_asgG ?_ | refine ws_if ?_ | refine ws_ret ?_ | refine ws_drop ?_ | refine ws_next ?_ | refine ws_retN ?_)
  | (with_reducible show WT _ _ _; with_reducible first | refine wt_test ?_ | refine wt_B ?_ | refine wt_not ?_ | refine wt_and ?_ | refine wt_or ?_ | refine wt_yes ?_)
  | (with_reducible show WA _ _ _; with_reducible first | refine wa_nil ?_ | refine wa_cons (wq_of (we_var (by with_unfolding_all exact rfl) ?_)) | refine wa_slotU (by with_unfolding_all exact rfl) ?_ | refine wa_cons ?_)
  | (with_reducible show OpK _ _ _ _ _; with_reducible first | refine ok_plusI ?_ | refine ok_sub ?_ | refine ok_lt ?_ | refine ok_le ?_ | refine ok_gt ?_ | refine ok_ge ?_ | refine ok_eqI ?_ | refine ok_neI ?_ | refine ok_mod (by first | assumption | decide | omega) ?_ | refine ok_ixL (by with_unfolding_all exact rfl) ?_)
  | (with_reducible show CbK _ _ _ _; with_reducible first | refine ck_lenL ?_ | refine ck_lenT ?_ | refine ck_int ?_ | refine ck_intB ?_ | refine ck_max ?_ | refine ck_min ?_ | refine ck_list ?_)
  | with_reducible refine wq_of ?_
  | (with_reducible show WG _ _ _ _ _; with_reducible first | refine wg_name (by with_unfolding_all exact rfl) ?_ | refine wg_tup (by with_unfolding_all exact rfl) ?_ | refine wg_set (by with_unfolding_all exact rfl) ?_)
  | (with_reducible show WGs _ _ _ _ _; with_reducible first | refine wgs_cons ?_ | refine wgs_nil ?_)
  | with_reducible refine iteT ?_
  | with_reducible refine iteF ?_
  | with_reducible refine ⟨_, frz_per, ?_⟩
  | with_reducible refine ⟨_, frz_own, ?_⟩
  | refine ⟨_, rfl, ?_⟩
  | refine ⟨_, argD1, ?_⟩
  | refine ⟨_, argD2, ?_⟩
  | refine ⟨_, argD0, ?_⟩
  | refine ⟨_, argD3, ?_⟩
  | refine ⟨_, argD4, ?_⟩
  | refine ⟨_, _, rfl, rfl, rfl, ?_⟩
  | refine ⟨_, _, _, rfl, rfl, rfl, ?_⟩
  | refine ⟨(by simp only [List.length_cons, List.length_nil]; decide), ?_⟩
  | refine ⟨rfl, nd1, ?_⟩
  | refine ⟨rfl, nd0, ?_⟩)
local macro_rules | `(tactic| walk_at "go") => `(tactic| repeat walk_at "g1")
local macro_rules | `(tactic| walk_at "g2") => `(tactic| first
  | (with_reducible show WE _ _ _; with_reducible first | refine we_var (by with_unfolding_all exact rfl) ?_ | (show WE (tOp _ _ _) _ _; first | refine we_notN ?_ | refine we_ixS (by with_unfolding_all exact rfl) ?_ | refine we_ixScr (by with_unfolding_all exact rfl) ?_ | refine we_inS (by with_unfolding_all exact rfl) ?_ | refine we_notInS (by with_unfolding_all exact rfl) ?_ | refine we_eqS (by with_unfolding_all exact rfl) ?_ | refine we_neS (by with_unfolding_all exact rfl) ?_ | refine we_opK ?_) | (show WE (tCB _ _) _ _; first | refine we_isInt ?_ | refine we_isBl ?_ | refine we_isLst ?_ | refine we_isTup ?_ | refine we_lenO (by with_unfolding_all exact rfl) ?_ | refine we_lenS' (by with_unfolding_all exact rfl) ?_ | refine we_lenScr (by with_unfolding_all exact rfl) ?_ | refine we_cbK ?_) | refine we_chain ?_ | refine we_slice ?_ | refine we_int ?_ | refine we_bl ?_ | refine we_non ?_ | refine we_str ?_ | refine we_neg ?_ | refine we_not ?_ | refine we_and ?_ | refine we_or ?_ | refine we_if ?_ | refine we_tup ?_ | refine we_lst ?_ | refine we_call ?_ | refine we_mt (by with_unfolding_all exact rfl) ?_)
  | (with_reducible show WS _ _ _ _; with_reducible first | refine ws_seqA ?_ | refine ws_seqD ?_ | refine ws_asg (by with_unfolding_all exact rfl) ?_ | refine ws_asgG ?_ | refine ws_if ?_ | refine ws_ret ?_ | refine ws_drop ?_ | refine ws_next ?_ | refine ws_retN ?_)
  | (with_reducible show WT _ _ _; with_reducible first | refine wt_test ?_ | refine wt_B ?_ | refine wt_not ?_ | refine wt_and ?_ | refine wt_or ?_ | refine wt_yes ?_)
  | (with_reducible show WA _ _ _; with_reducible first | refine wa_nil ?_ | refine wa_cons (wq_of (we_var (by with_unfolding_all exact rfl) ?_)) | refine wa_slotU (by with_unfolding_all exact rfl) ?_ | refine wa_cons ?_)
  | (with_reducible show OpK _ _ _ _ _; with_reducible first | refine ok_isB ?_ | refine ok_notB ?_ | refine ok_plusI ?_ | refine ok_sub ?_ | refine ok_lt ?_ | refine ok_le ?_ | refine ok_gt ?_ | refine ok_ge ?_ | refine ok_eqI ?_ | refine ok_neI ?_ | refine ok_mod (by first | assumption | decide | omega) ?_ | refine ok_ixL (by with_unfolding_all exact rfl) ?_)
  | (with_reducible show CbK _ _ _ _; with_reducible first | refine ck_lenL ?_ | refine ck_lenT ?_ | refine ck_int ?_ | refine ck_intB ?_ | refine ck_max ?_ | refine ck_min ?_ | refine ck_list ?_)
  | with_reducible refine wq_of ?_
  | (with_reducible show WG _ _ _ _ _; with_reducible first | refine wg_name (by with_unfolding_all exact rfl) ?_ | refine wg_tup (by with_unfolding_all exact rfl) ?_ | refine wg_set (by with_unfolding_all exact rfl) ?_)
  | (with_reducible show WGs _ _ _ _ _; with_reducible first | refine wgs_cons ?_ | refine wgs_nil ?_)
  | (with_reducible show WO _ _ _; with_reducible first | refine wo_some ?_ | refine wo_none ?_)
  | refine ⟨_, argD5, ?_⟩
  | refine ⟨_, argD6, ?_⟩
  | refine ⟨_, argD7, ?_⟩
  | refine ⟨_, argD9, ?_⟩
  | with_reducible refine iteT ?_
  | with_reducible refine iteF ?_
  | with_reducible refine ⟨_, frz_per, ?_⟩
  | with_reducible refine ⟨_, frz_own, ?_⟩
  | refine ⟨_, rfl, ?_⟩
  | refine ⟨_, argD1, ?_⟩
  | refine ⟨_, argD2, ?_⟩
  | refine ⟨_, argD0, ?_⟩
  | refine ⟨_, argD3, ?_⟩
  | refine ⟨_, argD4, ?_⟩
  | refine ⟨_, _, rfl, rfl, rfl, ?_⟩
  | refine ⟨_, _, _, rfl, rfl, rfl, ?_⟩
  | refine ⟨(by simp only [List.length_cons, List.length_nil]; decide), ?_⟩
  | refine ⟨rfl, nd1, ?_⟩
  | refine ⟨rfl, nd0, ?_⟩)
local macro_rules | `(tactic| walk_at "g2") => `(tactic| first | with_reducible refine we_isInt ?_ | with_reducible refine we_isBl ?_ | with_reducible refine we_isLst ?_ | with_reducible refine we_isTup ?_ | with_reducible refine we_chain ?_ | with_reducible refine we_slice ?_ | with_reducible refine wo_some ?_ | with_reducible refine wo_none ?_ | walk_at "g1")
abbrev t_is_count_0 (K : PySem.W.Frag) : TS :=
  (tRet (tAndV (tCB (rIsiA K) (tCons (tVar 0) (tCons (tC (.ty "int")) tNil))) (tAndV (tNotV (tCB (rIsiA K) (tCons (tVar 0) (tCons (tC (.ty "bool")) tNil)))) (tOp (rGeI) (tVar 0) (tC (.int 0))))))
def t_is_count (K : PySem.W.Frag) : TS :=
  (t_is_count_0 K)
abbrev N_is_count : List Str := ["value"]
/-- a whole number from 0 on -/
def cntD : PyData → Bool
  | .int n => decide (0 ≤ n)
  | _ => false
def F_is_count : Fw := fun gs kk _ => ∃ d, gs = [dat d] ∧ kk (dat (.bool (cntD d))) [none]
abbrev sp_is_count (K : PySem.W.Frag) : Sp := SpG 1 F_is_count
theorem pure_is_count {K : PySem.W.Frag} {vs : List V} {H : Hp} {Q : VK} {E : XK} (h : sp_is_count K vs H Q E) : t_is_count K { nx := fun _ H' => Q .non H', rt := Q } (start N_is_count vs) H := by
  refine body_ok (fun _ => false) ?_ h
  rintro gs kk xx ⟨d, rfl, hk⟩ -
  unfold t_is_count
  repeat walk_at "g2"
  have out : ∀ {b : Bool}, cntD d = b → ∃ g' Γp, Ent (dat (.bool b)) g' ∧ Les (mask (fun _ => false) 1 (List.map some [dat d] ++ List.replicate (N_is_count.length - 1) none)) Γp ∧ kk g' Γp := fun {b} e => ⟨_, [none], Ent.refl, les_none les_nil, e ▸ hk⟩
  refine ite_b (fun e => ?_) fun e => out (by cases d <;> first | rfl | exact Bool.noConfusion e)
  repeat walk_at "g2"
  refine ite_b (fun e2 => ?_) fun e2 => out (by cases d <;> first | rfl | exact Bool.noConfusion e | exact Bool.noConfusion e2)
  cases d with
  | int n =>
    repeat walk_at "g2"
    exact out rfl
  | bool b => exact Bool.noConfusion e2
  | none => exact Bool.noConfusion e
  | str s => exact Bool.noConfusion e
  | list s => exact Bool.noConfusion e
  | tuple s => exact Bool.noConfusion e
  | dict s => exact Bool.noConfusion e
abbrev t_is_tie_0 (K : PySem.W.Frag) : TS :=
  (tRet (tAndV (tCall (sp_is_count K) [] E0 (tCons (tVar 2) tNil)) (tAndV (tCall (sp_is_count K) [] E0 (tCons (tVar 3) tNil)) (tChain (rLtI) (rLtI) (tVar 2) (tVar 3) (tVar 0)))))
abbrev t_is_tie_1 (K : PySem.W.Frag) : TS :=
  (tSeq (tIfS (tOr (tNot (tB (tCB (rIsiA K) (tCons (tVar 1) (tCons (tC (.ty "tuple")) tNil))))) (tTest (tOp (rNeD K) (tCB (rLenA K) (tCons (tVar 1) tNil)) (tC (.int 2))))) (tRet (tC (.bl false))) tNext)
    (tSeq (tAsg (tVar 1) (gTup K 2 (gCons (gName 2) (gCons (gName 3) gNil))))
    (t_is_tie_0 K)))
def t_is_tie (K : PySem.W.Frag) : TS :=
  (t_is_tie_1 K)
abbrev N_is_tie : List Str := ["places", "value", "u", "v"]
/-- a pair of places, the first one below the second one -/
def tieB (n : Int) : PyData → Bool
  | .tuple [.int u, .int v] => decide (0 ≤ u) && (decide (0 ≤ v) && (decide (u < v) && decide (v < n)))
  | _ => false
def F_is_tie : Fw := fun gs kk _ => ∃ n d, gs = [dat (.int n), dat d] ∧ kk (dat (.bool (tieB n d))) [none, none]
abbrev sp_is_tie (K : PySem.W.Frag) : Sp := SpG 2 F_is_tie
theorem pure_is_tie {K : PySem.W.Frag} {vs : List V} {H : Hp} {Q : VK} {E : XK} (h : sp_is_tie K vs H Q E) : t_is_tie K { nx := fun _ H' => Q .non H', rt := Q } (start N_is_tie vs) H := by
  refine body_ok (fun _ => false) ?_ h
  rintro gs kk xx ⟨n, d, rfl, hk⟩ -
  unfold t_is_tie
  refine ws_seq (ws_if ?_)
  have hb : ∀ {b : Bool}, tieB n d = b → kk (dat (.bool b)) [none, none] := fun e => e ▸ hk
  repeat walk_at "g2"
  cases ht : isTup d with
  | false =>
    refine iteT (iteT ?_)
    repeat walk_at "g2"
    exact ⟨_, [none, none], Ent.refl, les_none (les_none les_nil), hb (by cases d <;> first | rfl | exact Bool.noConfusion ht)⟩
  | true =>
    refine iteF ?_
    obtain ⟨ds, rfl⟩ : ∃ ds, d = .tuple ds := by
      cases d <;> first | exact ⟨_, rfl⟩ | exact Bool.noConfusion ht
    repeat walk_at "g2"
    refine ite_ndec (fun e => ?_) fun e => ?_
    · repeat walk_at "g2"
      refine ⟨_, [none, none], Ent.refl, les_none (les_none les_nil), hb ?_⟩
      match ds, e with
      | [], _ => rfl
      | [x], _ => cases x <;> rfl
      | [_, _], e => exact (e rfl).elim
      | _ :: _ :: _ :: _, _ => unfold tieB; split <;> simp_all
    · obtain ⟨x, y, rfl⟩ : ∃ x y, ds = [x, y] := by
        match ds, e with
        | [x, y], _ => exact ⟨x, y, rfl⟩
        | [], e => simp at e
        | [_], e => simp at e
        | _ :: _ :: _ :: _, e => simp at e; omega
      have out : ∀ {b : Bool} {Γ : Ga}, tieB n (.tuple [x, y]) = b → Γ.length = 4 → ∃ g' Γp, Ent (dat (.bool b)) g' ∧ Les (mask (fun _ => false) 2 Γ) Γp ∧ kk g' Γp := fun {b Γ} e hl => ⟨_, [none, none], Ent.refl, les_none (les_none les_nil), hb e⟩
      refine ws_next (ws_seq (ws_asgG ?_))
      repeat walk_at "g2"
      cases hx : cntD x with
      | false =>
        refine iteF (out ?_ rfl)
        cases x <;> cases y <;> first | rfl | (simp only [cntD] at hx; simp only [tieB, hx, Bool.false_and])
      | true =>
        obtain ⟨u, rfl⟩ : ∃ u, x = .int u := by
          cases x <;> first | exact ⟨_, rfl⟩ | exact Bool.noConfusion hx
        have hu : decide (0 ≤ u) = true := hx
        refine iteT ?_
        repeat walk_at "g2"
        cases hy : cntD y with
        | false =>
          refine iteF (out ?_ rfl)
          cases y <;> first | rfl | (simp only [cntD] at hy; simp only [tieB, hy, Bool.false_and, Bool.and_false])
        | true =>
          obtain ⟨v, rfl⟩ : ∃ v, y = .int v := by
            cases y <;> first | exact ⟨_, rfl⟩ | exact Bool.noConfusion hy
          have hv : decide (0 ≤ v) = true := hy
          refine iteT ?_
          repeat walk_at "g2"
          refine ⟨_, _, rfl, od_B0, ite_dec (fun h1 => ?_) fun h1 => out ?_ rfl⟩
          · repeat walk_at "g2"
            refine ⟨_, _, rfl, od_B0, out ?_ rfl⟩
            simp only [tieB, hu, hv, decide_eq_true h1, Bool.true_and]
          · simp only [tieB, hu, hv, decide_eq_false h1, Bool.true_and, Bool.false_and]
end G

namespace G
open PySem L2
local macro_rules | `(tactic| walk_at "g1") => `(tactic| first
  | (with_reducible show WE _ _ _; with_reducible first | refine we_var (by with_unfolding_all exact rfl) ?_ | (show WE (tOp _ _ _) _ _; first | refine we_ixS (by with_unfolding_all exact rfl) ?_ | refine we_ixScr (by with_unfolding_all exact rfl) ?_ | refine we_inS (by with_unfolding_all exact rfl) ?_ | refine we_notInS (by with_unfolding_all exact rfl) ?_ | refine we_eqS (by with_unfolding_all exact rfl) ?_ | refine we_neS (by with_unfolding_all exact rfl) ?_ | refine we_opK ?_) | (show WE (tCB _ _) _ _; first | refine we_lenS' (by with_unfolding_all exact rfl) ?_ | refine we_lenScr (by with_unfolding_all exact rfl) ?_ | refine we_cbK ?_) | refine we_int ?_ | refine we_bl ?_ | refine we_non ?_ | refine we_str ?_ | refine we_neg ?_ | refine we_not ?_ | refine we_and ?_ | refine we_or ?_ | refine we_if ?_ | refine we_tup ?_ | refine we_lst ?_ | refine we_call ?_ | refine we_mt (by with_unfolding_all exact rfl) ?_)
  | (with_reducible show WS _ _ _ _; with_reducible first | refine ws_seqA ?_ | refine ws_seqD ?_ | refine ws_asg (by with_unfolding_all exact rfl) ?_ | refine ws_asgG ?_ | refine ws_if ?_ | refine ws_ret ?_ | refine ws_drop ?_ | refine ws_next ?_ | refine ws_retN ?_)
  | (with_reducible show WT _ _ _; with_reducible first | refine wt_test ?_ | refine wt_B ?_ | refine wt_not ?_ | refine wt_and ?_ | refine wt_or ?_ | refine wt_yes ?_)
  | (with_reducible show WA _ _ _; with_reducible first | refine wa_nil ?_ | refine wa_cons (wq_of (we_var (by with_unfolding_all exact rfl) ?_)) | refine wa_slotU (by with_unfolding_all exact rfl) ?_ | refine wa_cons ?_)
  | (with_reducible show OpK _ _ _ _ _; with_reducible first | refine ok_plusI ?_ | refine ok_sub ?_ | refine ok_lt ?_ | refine ok_le ?_ | refine ok_gt ?_ | refine ok_ge ?_ | refine ok_eqI ?_ | refine ok_neI ?_ | refine ok_mod (by first | assumption | decide | omega) ?_ | refine ok_ixL (by with_unfolding_all exact rfl) ?_)
  | (with_reducible show CbK _ _ _ _; with_reducible first | refine ck_lenL ?_ | refine ck_lenT ?_ | refine ck_int ?_ | refine ck_intB ?_ | refine ck_max ?_ | refine ck_min ?_ | refine ck_list ?_)
  | with_reducible refine wq_of ?_
  | (with_reducible show WG _ _ _ _ _; with_reducible first | refine wg_name (by with_unfolding_all exact rfl) ?_ | refine wg_tup (by with_unfolding_all exact rfl) ?_ | refine wg_set (by with_unfolding_all exact rfl) ?_)
  | (with_reducible show WGs _ _ _ _ _; with_reducible first | refine wgs_cons ?_ | refine wgs_nil ?_)
  | with_reducible refine iteT ?_
  | with_reducible refine iteF ?_
  | with_reducible refine ⟨_, frz_per, ?_⟩
  | with_reducible refine ⟨_, frz_own, ?_⟩
  | refine ⟨_, rfl, ?_⟩
  | refine ⟨_, argD1, ?_⟩
  | refine ⟨_, argD2, ?_⟩
  | refine ⟨_, argD0, ?_⟩
  | refine ⟨_, argD3, ?_⟩
  | refine ⟨_, argD4, ?_⟩
  | refine ⟨_, _, rfl, rfl, rfl, ?_⟩
  | refine ⟨_, _, _, rfl, rfl, rfl, ?_⟩
  | refine ⟨(by simp only [List.length_cons, List.length_nil]; decide), ?_⟩
  | refine ⟨rfl, nd1, ?_⟩
  | refine ⟨rfl, nd0, ?_⟩)
local macro_rules | `(tactic| walk_at "go") => `(tactic| repeat walk_at "g1")
local macro_rules | `(tactic| walk_at "g2") => `(tactic| first
  | (with_reducible show WE _ _ _; with_reducible first | refine we_var (by with_unfolding_all exact rfl) ?_ | (show WE (tOp _ _ _) _ _; first | refine we_notN ?_ | refine we_ixS (by with_unfolding_all exact rfl) ?_ | refine we_ixScr (by with_unfolding_all exact rfl) ?_ | refine we_inS (by with_unfolding_all exact rfl) ?_ | refine we_notInS (by with_unfolding_all exact rfl) ?_ | refine we_eqS (by with_unfolding_all exact rfl) ?_ | refine we_neS (by with_unfolding_all exact rfl) ?_ | refine we_opK ?_) | (show WE (tCB _ _) _ _; first | refine we_isInt ?_ | refine we_isBl ?_ | refine we_isLst ?_ | refine we_isTup ?_ | refine we_lenO (by with_unfolding_all exact rfl) ?_ | refine we_lenS' (by with_unfolding_all exact rfl) ?_ | refine we_lenScr (by with_unfolding_all exact rfl) ?_ | refine we_cbK ?_) | refine we_chain ?_ | refine we_slice ?_ | refine we_int ?_ | refine we_bl ?_ | refine we_non ?_ | refine we_str ?_ | refine we_neg ?_ | refine we_not ?_ | refine we_and ?_ | refine we_or ?_ | refine we_if ?_ | refine we_tup ?_ | refine we_lst ?_ | refine we_call ?_ | refine we_mt (by with_unfolding_all exact rfl) ?_)
  | (with_reducible show WS _ _ _ _; with_reducible first | refine ws_seqA ?_ | refine ws_seqD ?_ | refine ws_asg (by with_unfolding_all exact rfl) ?_ | refine ws_asgG ?_ | refine ws_if ?_ | refine ws_ret ?_ | refine ws_drop ?_ | refine ws_next ?_ | refine ws_retN ?_)
  | (with_reducible show WT _ _ _; with_reducible first | refine wt_test ?_ | refine wt_B ?_ | refine wt_not ?_ | refine wt_and ?_ | refine wt_or ?_ | refine wt_yes ?_)
  | (with_reducible show WA _ _ _; with_reducible first | refine wa_nil ?_ | refine wa_cons (wq_of (we_var (by with_unfolding_all exact rfl) ?_)) | refine wa_slotU (by with_unfolding_all exact rfl) ?_ | refine wa_cons ?_)
  | (with_reducible show OpK _ _ _ _ _; with_reducible first | refine ok_isB ?_ | refine ok_notB ?_ | refine ok_plusI ?_ | refine ok_sub ?_ | refine ok_lt ?_ | refine ok_le ?_ | refine ok_gt ?_ | refine ok_ge ?_ | refine ok_eqI ?_ | refine ok_neI ?_ | refine ok_mod (by first | assumption | decide | omega) ?_ | refine ok_ixL (by with_unfolding_all exact rfl) ?_)
  | (with_reducible show CbK _ _ _ _; with_reducible first | refine ck_lenL ?_ | refine ck_lenT ?_ | refine ck_int ?_ | refine ck_intB ?_ | refine ck_max ?_ | refine ck_min ?_ | refine ck_list ?_)
  | with_reducible refine wq_of ?_
  | (with_reducible show WG _ _ _ _ _; with_reducible first | refine wg_name (by with_unfolding_all exact rfl) ?_ | refine wg_tup (by with_unfolding_all exact rfl) ?_ | refine wg_set (by with_unfolding_all exact rfl) ?_)
  | (with_reducible show WGs _ _ _ _ _; with_reducible first | refine wgs_cons ?_ | refine wgs_nil ?_)
  | (with_reducible show WO _ _ _; with_reducible first | refine wo_some ?_ | refine wo_none ?_)
  | refine ⟨_, argD5, ?_⟩
  | refine ⟨_, argD6, ?_⟩
  | refine ⟨_, argD7, ?_⟩
  | refine ⟨_, argD9, ?_⟩
  | with_reducible refine iteT ?_
  | with_reducible refine iteF ?_
  | with_reducible refine ⟨_, frz_per, ?_⟩
  | with_reducible refine ⟨_, frz_own, ?_⟩
  | refine ⟨_, rfl, ?_⟩
  | refine ⟨_, argD1, ?_⟩
  | refine ⟨_, argD2, ?_⟩
  | refine ⟨_, argD0, ?_⟩
  | refine ⟨_, argD3, ?_⟩
  | refine ⟨_, argD4, ?_⟩
  | refine ⟨_, _, rfl, rfl, rfl, ?_⟩
  | refine ⟨_, _, _, rfl, rfl, rfl, ?_⟩
  | refine ⟨(by simp only [List.length_cons, List.length_nil]; decide), ?_⟩
  | refine ⟨rfl, nd1, ?_⟩
  | refine ⟨rfl, nd0, ?_⟩)
abbrev t_law_web_0 (K : PySem.W.Frag) : TS :=
  (tDrop (tBM K "list" (rExtend) (tVar 6) (tCons (tLc (iRng1 (tCons (tVar 7) tNil)) (gName 10) (tTest (tOp (rEqD K) (tCall (sp_law_pick K) [] E0 (tCons (tVar 0) (tCons (tVar 5) tNil))) (tC (.int 0)))) (tTup (tCons (tVar 10) (tCons (tVar 7) tNil))) [10]) tNil)))
abbrev t_law_web_1 (K : PySem.W.Frag) : TS :=
  (tDrop (tBM K "list" (rAppend) (tVar 6) (tCons (tTup (tCons (tOp (rIx K) (tLst (tCons (tOp (rSubI) (tVar 7) (tC (.int 1))) (tCons (tCall (sp_law_pick K) [] E0 (tCons (tVar 0) (tCons (tVar 7) tNil))) tNil))) (tCB (rInt1) (tCons (tOp (rGtI) (tVar 4) (tC (.int 2))) tNil))) (tCons (tVar 7) tNil))) tNil)))
abbrev t_law_web_2 (K : PySem.W.Frag) : TS :=
  (tDrop (tBM K "list" (rAppend) (tVar 6) (tCons (tTup (tCons (tCall (sp_law_pick K) [] E0 (tCons (tVar 0) (tCons (tVar 7) tNil))) (tCons (tVar 7) tNil))) tNil)))
abbrev t_law_web_3 (K : PySem.W.Frag) : TS :=
  (tSeq (tAsg (tOp (rPlus K) (tC (.int 1)) (tCall (sp_law_pick K) [] E0 (tCons (tVar 0) (tCons (tOp (rSubI) (tVar 2) (tC (.int 1))) tNil)))) (gName 7))
    (t_law_web_2 K))
abbrev t_law_web_4 (K : PySem.W.Frag) : TS :=
  (tFor (iRng1 (tCons (tCall (sp_law_pick K) [] E0 (tCons (tVar 0) (tCons (tC (.int 4)) tNil))) tNil)) (gName 8) (tIfS (tTest (tOp (rGtI) (tVar 2) (tC (.int 1)))) (t_law_web_3 K) tNext))
abbrev t_law_web_5 (K : PySem.W.Frag) : TS :=
  (tSeq (tIfS (tAnd (tTest (tOp (rGtI) (tVar 2) (tC (.int 2)))) (tTest (tOp (rEqD K) (tOp (rModI) (tCB (rInt1) (tCons (tVar 4) tNil)) (tC (.int 2))) (tC (.int 0))))) (tDrop (tBM K "list" (rAppend) (tVar 6) (tCons (tTup (tCons (tC (.int 0)) (tCons (tOp (rSubI) (tVar 2) (tC (.int 1))) tNil))) tNil))) tNext)
    (t_law_web_4 K))
abbrev t_law_web_6 (K : PySem.W.Frag) : TS :=
  (tSeq (tFor (iRng2 (tCons (tC (.int 1)) (tCons (tVar 2) tNil))) (gName 7) (tIfS (tTest (tOp (rLtI) (tCall (sp_law_pick K) [] E0 (tCons (tVar 0) (tCons (tC (.int 9)) tNil))) (tC (.int 8)))) (t_law_web_1 K) tNext))
    (t_law_web_5 K))
abbrev t_law_web_7 (K : PySem.W.Frag) : TS :=
  (tSeq (tAsg (tTup (tCons (tCB (rMin2) (tCons (tOp (rIx K) (tVar 3) (tVar 10)) (tCons (tOp (rIx K) (tVar 3) (tVar 7)) tNil))) (tCons (tCB (rMax2) (tCons (tOp (rIx K) (tVar 3) (tVar 10)) (tCons (tOp (rIx K) (tVar 3) (tVar 7)) tNil))) tNil))) (gName 11))
    (tIfS (tTest (tOp (rNotInD K) (tVar 11) (tVar 9))) (tDrop (tBM K "list" (rAppend) (tVar 9) (tCons (tVar 11) tNil))) tNext))
abbrev t_law_web_8 (K : PySem.W.Frag) : TS :=
  (tSeq (tFor (iList K (tVar 6)) (gTup K 2 (gCons (gName 10) (gCons (gName 7) gNil))) (t_law_web_7 K))
    (tRet (tTup (tCons (tVar 2) (tCons (tCB (rSortA K) (tCons (tVar 9) tNil)) tNil)))))
abbrev t_law_web_9 (K : PySem.W.Frag) : TS :=
  (tSeq (tIfS (tAnd (tTest (tOp (rEqD K) (tVar 4) (tC (.int 0)))) (tTest (tOp (rLeI) (tVar 2) (tC (.int 10))))) (tFor (iRng1 (tCons (tVar 2) tNil)) (gName 7) (t_law_web_0 K)) (t_law_web_6 K))
    (tSeq (tAsg (tLst tNil) (gName 9))
    (t_law_web_8 K)))
abbrev t_law_web_10 (K : PySem.W.Frag) : TS :=
  (tSeq (tAsg (tOp (rPlus K) (tC (.int 1)) (tCall (sp_law_pick K) [] E0 (tCons (tVar 0) (tCons (tC (.int 4)) tNil)))) (gName 5))
    (tSeq (tAsg (tLst tNil) (gName 6))
    (t_law_web_9 K)))
abbrev t_law_web_11 (K : PySem.W.Frag) : TS :=
  (tSeq (tIfS (tTest (tOp (rEqD K) (tCall (sp_law_pick K) [] E0 (tCons (tVar 0) (tCons (tC (.int 2)) tNil))) (tC (.int 1)))) (tAsg (tCall (sp_law_shuffled K) [] E0 (tCons (tVar 0) (tCons (tVar 3) tNil))) (gName 3)) tNext)
    (tSeq (tAsg (tCall (sp_law_pick K) [] E0 (tCons (tVar 0) (tCons (tC (.int 5)) tNil))) (gName 4))
    (t_law_web_10 K)))
abbrev t_law_web_12 (K : PySem.W.Frag) : TS :=
  (tSeq (tAsg (tCall (sp_law_pick K) [] E0 (tCons (tVar 0) (tCons (tOp (rPlus K) (tVar 1) (tC (.int 1))) tNil))) (gName 2))
    (tSeq (tAsg (tLstRg (tRg1 (tVar 2))) (gName 3))
    (t_law_web_11 K)))
def t_law_web (K : PySem.W.Frag) : TS :=
  (t_law_web_12 K)
abbrev N_law_web : List Str := ["urn", "most", "places", "order", "kind", "share", "pairs", "v", "k", "ties", "u", "tie"]
theorem ord_get {os : List PyData} {p x : Int} (h : os.Perm ((upTo p).map .int)) (h0 : 0 ≤ x) (h1 : x < p) : ∃ y : Int, os[x.toNat]? = some (.int y) ∧ 0 ≤ y ∧ y < p := by
  have hl : x.toNat < os.length := by rw [h.length_eq, List.length_map, upTo_length]; omega
  have hm : os[x.toNat] ∈ (upTo p).map PyData.int := h.mem_iff.mp (List.getElem_mem hl)
  obtain ⟨y, hy, e⟩ := List.mem_map.mp hm
  exact ⟨y, by rw [List.getElem?_eq_getElem hl, e], mem_upTo.mp hy⟩
theorem ord_at {os : List PyData} {p : Int} (h : os.Perm ((upTo p).map .int)) (x : Int) (h0 : 0 ≤ x) (h1 : x < p) : ∃ y : Int, atI os x = some (.int y) ∧ 0 ≤ y ∧ y < p := by
  obtain ⟨y, e, hy⟩ := ord_get h h0 h1
  exact ⟨y, at_nat x.toNat (by omega) e, hy⟩
theorem ord_ne {os : List PyData} {p u v a b : Int} (h : os.Perm ((upTo p).map .int)) (h0 : 0 ≤ u) (h1 : u < v) (h2 : v < p) (ha : atI os u = some (.int a)) (hb : atI os v = some (.int b)) : a ≠ b := by
  have hn : os.Nodup := h.nodup_iff.mpr (List.Pairwise.map _ (fun (a b : Int) (h : a ≠ b) e => h (by injection e)) upTo_nodup)
  obtain ⟨a', ea, _⟩ := ord_get h h0 (show u < p by omega)
  obtain ⟨b', eb, _⟩ := ord_get h (show 0 ≤ v by omega) h2
  have e1 := (at_nat u.toNat (by omega) ea).symm.trans ha
  have e2 := (at_nat v.toNat (by omega) eb).symm.trans hb
  cases e1
  cases e2
  intro e
  subst e
  have := (List.getElem_inj (h₀ := (List.getElem?_eq_some_iff.mp ea).1) (h₁ := (List.getElem?_eq_some_iff.mp eb).1) hn).mp ((List.getElem?_eq_some_iff.mp ea).2.trans (List.getElem?_eq_some_iff.mp eb).2.symm)
  omega
def tri : Nat → Nat
  | 0 => 0
  | n + 1 => tri n + n
theorem tri_le : ∀ n : Nat, n < 11 → tri n ≤ 45 := by decide
abbrev F_law_web : Fw := fun gs kk xx => ∃ m most, gs = [urn m, dat (.int most)] ∧ 1000 ≤ m ∧ 0 ≤ most ∧ most ≤ 40 ∧ ∀ p ts, 0 ≤ p → p ≤ most → Ties p ts → ts.length ≤ 45 → kk (dat (.tuple [.int p, .list (ts.map tieD)])) [some (urn (m - 1000)), none]
abbrev sp_law_web (K : PySem.W.Frag) : Sp := SpG 2 F_law_web
theorem pure_law_web {K : PySem.W.Frag} {vs : List V} {H : Hp} {Q : VK} {E : XK} (h : sp_law_web K vs H Q E) : t_law_web K { nx := fun _ H' => Q .non H', rt := Q } (L2.start N_law_web vs) H := by
  refine body_ok (fun i => i == 0) ?_ h
  rintro gs kk xx ⟨m, most, rfl, hm, h0, h1, hk⟩ -
  unfold t_law_web
  walk_at "go"
  refine ⟨_, _, rfl, by omega, by omega, by omega, fun p p0 p1 => ?_⟩
  walk_at "go"
  refine we_upTo ?_
  walk_at "go"
  refine ⟨⟨p0, by omega⟩, ?_⟩
  refine ws_cut (fun Γ => ∃ (m1 : Nat) (os : List PyData) (o4 o5 o6 o7 o8 o9 o10 o11 : Option Gp), Γ = [some (urn m1), some (dat (.int most)), some (dat (.int p)), some (own os), o4, o5, o6, o7, o8, o9, o10, o11] ∧ m ≤ m1 + 110 ∧ os.Perm ((upTo p).map .int)) ?_ ?_
  · walk_at "go"
    refine ⟨_, _, rfl, by omega, by omega, by omega, fun r r0 r1 => ?_⟩
    walk_at "go"
    have hl : (List.map PyData.int (upTo p)).length ≤ 101 := by rw [List.length_map, upTo_length]; omega
    refine ite_dec (fun h => ?_) (fun h => ?_)
    · walk_at "go"
      refine we_varF rfl frz_own ?_
      walk_at "go"
      refine ⟨_, _, rfl, by omega, by omega, fun es he => ?_⟩
      exact ⟨_, _, _, _, _, _, _, _, _, _, rfl, by omega, he⟩
    · walk_at "go"
      exact ⟨_, _, _, _, _, _, _, _, _, _, rfl, by omega, List.Perm.refl _⟩
  rintro _ ⟨m1, os, o4, o5, o6, o7, o8, o9, o10, o11, rfl, hm1, hos⟩
  walk_at "go"
  refine ⟨_, _, rfl, by omega, by omega, by omega, fun kd kd0 kd1 => ?_⟩
  walk_at "go"
  refine ⟨_, _, rfl, by omega, by omega, by omega, fun sh sh0 sh1 => ?_⟩
  walk_at "go"
  have hol : os.length = p.toNat := by rw [hos.length_eq, List.length_map, upTo_length]
  refine ws_cut (fun Γ => ∃ (m1 : Nat) (prs : List (Int × Int)) (o4 o5 o7 o8 o9 o10 o11 : Option Gp), Γ = [some (urn m1), some (dat (.int most)), some (dat (.int p)), some (own os), o4, o5, some (own (prs.map tieD)), o7, o8, o9, o10, o11] ∧ m ≤ m1 + 900 ∧ (∀ t ∈ prs, 0 ≤ t.1 ∧ t.1 < t.2 ∧ t.2 < p) ∧ prs.length ≤ 45) ?_ ?_
  · refine ws_if ?_
    walk_at "go"
    have brB : WS (fun i => i == 0) (tSeq (tFor (iRng2 (tCons (tC (.int 1)) (tCons (tVar 2) tNil))) (gName 7) (tIfS (tTest (tOp (rLtI) (tCall (sp_law_pick K) [] E0 (tCons (tVar 0) (tCons (tC (.int 9)) tNil))) (tC (.int 8)))) (tDrop (tBM K "list" (rAppend) (tVar 6) (tCons (tTup (tCons (tOp (rIx K) (tLst (tCons (tOp (rSubI) (tVar 7) (tC (.int 1))) (tCons (tCall (sp_law_pick K) [] E0 (tCons (tVar 0) (tCons (tVar 7) tNil))) tNil))) (tCB (rInt1) (tCons (tOp (rGtI) (tVar 4) (tC (.int 2))) tNil))) (tCons (tVar 7) tNil))) tNil))) tNext))
    (tSeq (tIfS (tAnd (tTest (tOp (rGtI) (tVar 2) (tC (.int 2)))) (tTest (tOp (rEqD K) (tOp (rModI) (tCB (rInt1) (tCons (tVar 4) tNil)) (tC (.int 2))) (tC (.int 0))))) (tDrop (tBM K "list" (rAppend) (tVar 6) (tCons (tTup (tCons (tC (.int 0)) (tCons (tOp (rSubI) (tVar 2) (tC (.int 1))) tNil))) tNil))) tNext)
    (tFor (iRng1 (tCons (tCall (sp_law_pick K) [] E0 (tCons (tVar 0) (tCons (tC (.int 4)) tNil))) tNil)) (gName 8) (tIfS (tTest (tOp (rGtI) (tVar 2) (tC (.int 1)))) (tSeq (tAsg (tOp (rPlus K) (tC (.int 1)) (tCall (sp_law_pick K) [] E0 (tCons (tVar 0) (tCons (tOp (rSubI) (tVar 2) (tC (.int 1))) tNil)))) (gName 7))
    (tDrop (tBM K "list" (rAppend) (tVar 6) (tCons (tTup (tCons (tCall (sp_law_pick K) [] E0 (tCons (tVar 0) (tCons (tVar 7) tNil))) (tCons (tVar 7) tNil))) tNil)))) tNext)))) [some (urn (m1 - 1 - 1)), some (dat (.int most)), some (dat (.int p)), some (own os), some (dat (.int kd)), some (dat (.int (1 + sh))), some (own []), o7, o8, o9, o10, o11]
      (Pe.to ⟨fun Γ => ∃ Γp, Les (mask (fun i => i == 0) 2 Γ) Γp ∧ kk (dat .none) Γp, fun g Γ => ∃ g' Γp, Ent g g' ∧ Les (mask (fun i => i == 0) 2 Γ) Γp ∧ kk g' Γp, fun _ => False, fun _ => False⟩ fun Γ => ∃ (m1 : Nat) (prs : List (Int × Int)) (o4 o5 o7 o8 o9 o10 o11 : Option Gp), Γ = [some (urn m1), some (dat (.int most)), some (dat (.int p)), some (own os), o4, o5, some (own (prs.map tieD)), o7, o8, o9, o10, o11] ∧ m ≤ m1 + 900 ∧ (∀ t ∈ prs, 0 ≤ t.1 ∧ t.1 < t.2 ∧ t.2 < p) ∧ prs.length ≤ 45) := by
      refine ws_cut (fun Γ => ∃ (m2 : Nat) (prs : List (Int × Int)) (o7 o8 o9 o10 o11 : Option Gp), Γ = [some (urn m2), some (dat (.int most)), some (dat (.int p)), some (own os), some (dat (.int kd)), some (dat (.int (1 + sh))), some (own (prs.map tieD)), o7, o8, o9, o10, o11] ∧ m1 ≤ m2 + 202 ∧ (∀ t ∈ prs, 0 ≤ t.1 ∧ t.1 < t.2 ∧ t.2 < p) ∧ prs.length ≤ 39) ?_ ?_
      · refine ws_for (fun i Γ => ∃ (m2 : Nat) (prs : List (Int × Int)) (o7 : Option Gp), Γ = [some (urn m2), some (dat (.int most)), some (dat (.int p)), some (own os), some (dat (.int kd)), some (dat (.int (1 + sh))), some (own (prs.map tieD)), o7, o8, o9, o10, o11] ∧ m1 ≤ m2 + 2 + 2 * i ∧ (∀ t ∈ prs, 0 ≤ t.1 ∧ t.1 < t.2 ∧ t.2 < p) ∧ prs.length ≤ i) ?_
        refine wi_range2 ?_
        walk_at "go"
        refine ⟨_, _, rfl, by omega, ⟨_, [], _, rfl, by omega, by simp, Nat.le_refl _⟩, ?_, ?_⟩
        · rintro _ ⟨m2, prs, q7, rfl, h2, h3, h4⟩
          exact ⟨m2, prs, _, _, _, _, _, rfl, by omega, h3, by omega⟩
        · rintro i _ hi ⟨m2, prs, q7, rfl, h2, h3, h4⟩
          walk_at "go"
          refine ⟨_, _, rfl, by omega, by omega, by omega, fun r r0 r1 => ?_⟩
          walk_at "go"
          refine ite_dec (fun hr => ?_) (fun hr => ?_)
          · walk_at "go"
            refine ⟨_, _, rfl, by omega, by omega, by omega, fun x x0 x1 => ?_⟩
            walk_at "go"
            obtain ⟨w, hw, w0, w1⟩ : ∃ w : Int, atI [PyData.int (1 + (i : Int) - 1), PyData.int x] (if decide (2 < kd) = true then 1 else 0) = some (.int w) ∧ 0 ≤ w ∧ w < 1 + (i : Int) := by
              split
              · exact ⟨x, rfl, x0, x1⟩
              · exact ⟨_, rfl, by omega, by omega⟩
            refine ok_ixL hw ?_
            walk_at "go"
            refine ⟨_, _, _, _, rfl, argD1, mo_append (by rw [List.length_map]; omega), ?_⟩
            refine ⟨_, prs ++ [(w, 1 + (i : Int))], _, by rw [List.map_append]; rfl, by omega, ?_, by simp; omega⟩
            intro t ht
            rcases List.mem_append.mp ht with ht | ht
            · exact h3 t ht
            · rw [List.mem_singleton.mp ht]
              exact ⟨w0, w1, by simp only; omega⟩
          · walk_at "go"
            exact ⟨_, prs, _, rfl, by omega, h3, by omega⟩
      rintro _ ⟨m2, prs, o7, o8, o9, o10, o11, rfl, h2, h3, h4⟩
      refine ws_cut (fun Γ => ∃ (m2 : Nat) (prs : List (Int × Int)) (o7 o8 o9 o10 o11 : Option Gp), Γ = [some (urn m2), some (dat (.int most)), some (dat (.int p)), some (own os), some (dat (.int kd)), some (dat (.int (1 + sh))), some (own (prs.map tieD)), o7, o8, o9, o10, o11] ∧ m1 ≤ m2 + 202 ∧ (∀ t ∈ prs, 0 ≤ t.1 ∧ t.1 < t.2 ∧ t.2 < p) ∧ prs.length ≤ 40) ?_ ?_
      · walk_at "go"
        refine ite_dec (fun hp => ?_) (fun hp => ?_)
        · walk_at "go"
          refine ite_dec (fun hr => ?_) (fun hr => ?_)
          · walk_at "go"
            refine ⟨_, _, _, _, rfl, argD1, mo_append (by rw [List.length_map]; omega), ?_⟩
            refine ⟨_, prs ++ [(0, p - 1)], _, _, _, _, _, by rw [List.map_append]; rfl, by omega, ?_, by simp; omega⟩
            intro t ht
            rcases List.mem_append.mp ht with ht | ht
            · exact h3 t ht
            · rw [List.mem_singleton.mp ht]
              exact ⟨Int.le_refl 0, by simp only; omega, by simp only; omega⟩
          · walk_at "go"
            exact ⟨_, prs, _, _, _, _, _, rfl, by omega, h3, by omega⟩
        · walk_at "go"
          exact ⟨_, prs, _, _, _, _, _, rfl, by omega, h3, by omega⟩
      rintro _ ⟨m2, prs, o7, o8, o9, o10, o11, rfl, h2, h3, h4⟩
      refine ws_for (fun i Γ => ∃ (m2 : Nat) (prs : List (Int × Int)) (o7 o8 : Option Gp), Γ = [some (urn m2), some (dat (.int most)), some (dat (.int p)), some (own os), some (dat (.int kd)), some (dat (.int (1 + sh))), some (own (prs.map tieD)), o7, o8, o9, o10, o11] ∧ m1 ≤ m2 + 203 + 2 * i ∧ (∀ t ∈ prs, 0 ≤ t.1 ∧ t.1 < t.2 ∧ t.2 < p) ∧ prs.length ≤ 40 + i) ?_
      refine wi_range1 ?_
      walk_at "go"
      refine ⟨_, _, rfl, by omega, by omega, by omega, fun r r0 r1 => ?_⟩
      walk_at "go"
      refine ⟨by omega, by omega, ⟨_, prs, _, _, rfl, by omega, h3, by omega⟩, ?_, ?_⟩
      · rintro _ ⟨m2, prs, q7, q8, rfl, h2, h3, h4⟩
        exact ⟨m2, prs, _, _, _, _, _, _, _, rfl, by omega, h3, by omega⟩
      · rintro i _ hi ⟨m2, prs, q7, q8, rfl, h2, h3, h4⟩
        walk_at "go"
        refine ite_dec (fun hp => ?_) (fun hp => ?_)
        · walk_at "go"
          refine ⟨_, _, rfl, by omega, by omega, by omega, fun x x0 x1 => ?_⟩
          walk_at "go"
          refine ⟨_, _, rfl, by omega, by omega, by omega, fun y y0 y1 => ?_⟩
          walk_at "go"
          refine ⟨_, _, _, _, rfl, argD1, mo_append (by rw [List.length_map]; omega), ?_⟩
          refine ⟨_, prs ++ [(y, 1 + x)], _, _, by rw [List.map_append]; rfl, by omega, ?_, by simp; omega⟩
          intro t ht
          rcases List.mem_append.mp ht with ht | ht
          · exact h3 t ht
          · rw [List.mem_singleton.mp ht]
            exact ⟨y0, y1, by simp only; omega⟩
        · walk_at "go"
          exact ⟨_, prs, _, _, rfl, by omega, h3, by omega⟩
    refine ite_dec (fun hk0 => ?_) (fun hk0 => ?_)
    · walk_at "go"
      refine ite_dec (fun hp10 => ?_) (fun hp10 => ?_)
      · refine ws_for (fun i Γ => ∃ (m2 : Nat) (prs : List (Int × Int)) (o7 o10 : Option Gp), Γ = [some (urn m2), some (dat (.int most)), some (dat (.int p)), some (own os), some (dat (.int kd)), some (dat (.int (1 + sh))), some (own (prs.map tieD)), o7, o8, o9, o10, o11] ∧ m1 ≤ m2 + 2 + 10 * i ∧ (∀ t ∈ prs, 0 ≤ t.1 ∧ t.1 < t.2 ∧ t.2 < p) ∧ prs.length ≤ tri i) ?_
        refine wi_range1 ?_
        walk_at "go"
        refine ⟨by omega, by omega, ⟨_, [], _, _, rfl, by omega, by simp, by simp⟩, ?_, ?_⟩
        · rintro _ ⟨m2, prs, q7, q10, rfl, h2, h3, h4⟩
          have ht := tri_le p.toNat (by omega)
          exact ⟨m2, prs, _, _, _, _, _, _, _, rfl, by omega, h3, by omega⟩
        · rintro i _ hi ⟨m2, prs, q7, q10, rfl, h2, h3, h4⟩
          walk_at "go"
          refine we_lc (fun j acc Γ => ∃ (m3 : Nat) (us : List Int), Γ = [some (urn m3), some (dat (.int most)), some (dat (.int p)), some (own os), some (dat (.int kd)), some (dat (.int (1 + sh))), some (own (prs.map tieD)), some (dat (.int (0 + (i : Int)))), o8, o9, (if j = 0 then q10 else none), o11] ∧ acc = (us.map fun u => (u, (0 + (i : Int)))).map tieD ∧ (∀ u ∈ us, 0 ≤ u ∧ u < i) ∧ us.length ≤ j ∧ m2 ≤ m3 + j) ?_
          refine wi_range1 ?_
          walk_at "go"
          refine ⟨by omega, by omega, ⟨_, [], rfl, rfl, by simp, Nat.le_refl _, Nat.le_refl _⟩, ?_, ?_⟩
          · rintro acc _ ⟨m3, us, rfl, rfl, h5, h6, h7⟩
            walk_at "go"
            have ht := tri_le i (by omega)
            have hts : tri (i + 1) = tri i + i := rfl
            refine ⟨_, _, _, _, rfl, argD1, mo_extend (by simp only [List.length_map]; omega), ?_⟩
            refine ⟨_, prs ++ us.map fun u => (u, (0 + (i : Int))), _, _, by rw [List.map_append]; rfl, by omega, ?_, by simp; omega⟩
            intro t ht
            rcases List.mem_append.mp ht with ht | ht
            · exact h3 t ht
            · obtain ⟨u, hu, e⟩ := List.mem_map.mp ht
              obtain ⟨u0, u1⟩ := h5 u hu
              rw [← e]
              exact ⟨u0, by simp only; omega, by simp only; omega⟩
          · rintro j acc _ hj ⟨m3, us, rfl, rfl, h5, h6, h7⟩ hlen
            walk_at "go"
            refine ⟨_, _, rfl, by omega, by omega, by omega, fun r r0 r1 => ?_⟩
            walk_at "go"
            refine ite_dec (fun hr => ?_) (fun hr => ?_)
            · walk_at "go"
              refine ⟨by simp only [List.length_map]; omega, _, us ++ [0 + (j : Int)], rfl, by simp [tieD], ?_, by simp; omega, by omega⟩
              intro u hu
              rcases List.mem_append.mp hu with hu | hu
              · exact h5 u hu
              · rw [List.mem_singleton.mp hu]
                omega
            · exact ⟨_, us, rfl, rfl, h5, by omega, by omega⟩
      · exact brB
    · walk_at "go"
      exact brB
  · rintro _ ⟨m2, prs, o4, o5, o7, o8, o9, o10, o11, rfl, hm2, hpr, hpl⟩
    walk_at "go"
    refine ws_cut (fun Γ => ∃ (ts : List (Int × Int)) (o4 o5 o6 o7 o8 o10 o11 : Option Gp), Γ = [some (urn m2), some (dat (.int most)), some (dat (.int p)), some (own os), o4, o5, o6, o7, o8, some (own (ts.map tieD)), o10, o11] ∧ (∀ t ∈ ts, 0 ≤ t.1 ∧ t.1 < t.2 ∧ t.2 < p) ∧ ts.Nodup ∧ ts.length ≤ 45) ?_ ?_
    · refine ws_for (fun i Γ => ∃ (ts : List (Int × Int)) (o7 o8 o10 o11 : Option Gp), Γ = [some (urn m2), some (dat (.int most)), some (dat (.int p)), some (own os), o4, o5, some (dat (.list (prs.map tieD))), o7, o8, some (own (ts.map tieD)), o10, o11] ∧ (∀ t ∈ ts, 0 ≤ t.1 ∧ t.1 < t.2 ∧ t.2 < p) ∧ ts.Nodup ∧ ts.length ≤ i) ?_
      refine wi_list ?_
      refine wq_of (we_varF rfl frz_own ?_)
      refine ⟨_, frz_per, _, rfl, ⟨[], _, _, _, _, rfl, by simp, List.nodup_nil, Nat.le_refl _⟩, ?_, ?_⟩
      · rintro _ ⟨ts, q7, q8, q10, q11, rfl, h1, h2, h3⟩
        rw [List.length_map] at h3
        exact ⟨_, _, _, _, _, _, _, _, rfl, h1, h2, by omega⟩
      · rintro i _ hi ⟨ts, q7, q8, q10, q11, rfl, h1, h2, h3⟩
        rw [List.length_map] at hi
        have hg : (prs.map tieD).getD i .none = tieD prs[i] := by
          rw [List.getD_eq_getElem?_getD, List.getElem?_map, List.getElem?_eq_getElem hi]
          rfl
        show WG _ _ (dP ((prs.map tieD).getD i .none)) _ _
        rw [hg]
        obtain ⟨b0, b1, b2⟩ := hpr prs[i] (List.getElem_mem hi)
        generalize prs[i] = t at b0 b1 b2
        obtain ⟨u, v⟩ := t
        have hat : ∀ x : Int, 0 ≤ x → x < p → ∃ y : Int, atI os x = some (.int y) ∧ 0 ≤ y ∧ y < p := ord_at hos
        obtain ⟨yu, hu, u0, u1⟩ := hat u b0 (by simp only at b1 b2; omega)
        obtain ⟨yv, hv, v0, v1⟩ := hat v (by simp only at b0 b1; omega) b2
        have hne : yu ≠ yv := ord_ne hos b0 b1 b2 hu hv
        show WG _ _ (dP (.tuple [.int u, .int v])) _ _
        walk_at "go"
        refine ⟨_, _, rfl, rfl, hu, ?_⟩
        walk_at "go"
        refine ⟨_, _, rfl, rfl, hv, ?_⟩
        walk_at "go"
        refine ⟨_, _, rfl, rfl, hu, ?_⟩
        walk_at "go"
        refine ⟨_, _, rfl, rfl, hv, ?_⟩
        walk_at "go"
        refine ⟨⟨(lay_tie (t := (if yv < yu then yv else yu, if yv > yu then yv else yu))).shaped, lay_ties.shaped⟩, ?_⟩
        walk_at "go"
        rw [show PyData.tuple [PyData.int (if yv < yu then yv else yu), PyData.int (if yv > yu then yv else yu)] = tieD (if yv < yu then yv else yu, if yv > yu then yv else yu) from rfl, any_ties]
        refine ite_ndec (fun hm => ?_) (fun hm => ?_)
        · refine ws_drop (we_mt rfl (wa_cons (wq_of (we_var rfl ⟨_, frz_per, wa_nil ?_⟩))))
          refine ⟨_, _, _, _, rfl, argD1 (d := tieD (if yv < yu then yv else yu, if yv > yu then yv else yu)), mo_append (by rw [List.length_map]; omega), ?_⟩
          refine ⟨ts ++ [(if yv < yu then yv else yu, if yv > yu then yv else yu)], _, _, _, _, by rw [List.map_append]; rfl, ?_, ?_, by simp; omega⟩
          · intro t ht
            rcases List.mem_append.mp ht with ht | ht
            · exact h1 t ht
            · rw [List.mem_singleton.mp ht]
              simp only
              split <;> split <;> omega
          · exact List.nodup_append.mpr ⟨h2, List.nodup_cons.mpr ⟨by simp, List.nodup_nil⟩, fun a ha b hb => by
              rw [List.mem_singleton.mp hb]
              intro e
              exact hm (e ▸ ha)⟩
        · refine ws_next ?_
          exact ⟨ts, _, _, _, _, rfl, h1, h2, by omega⟩
    · rintro _ ⟨ts, o4, o5, o6, o7, o8, o10, o11, rfl, h1, h2, h3⟩
      walk_at "go"
      refine we_varF rfl frz_own ?_
      walk_at "go"
      refine ck_sortP fun ts' hp hs => ?_
      walk_at "go"
      exact ⟨_, _, Ent.refl, les_some (urn_le (by omega)) (les_none les_nil), hk p ts' p0 (by omega) ⟨lex_strict hs (hp.nodup_iff.mpr h2), fun t ht => h1 t (hp.mem_iff.mp ht)⟩ (by have := hp.length_eq; omega)⟩
end G

namespace G
open PySem L2
local macro_rules | `(tactic| walk_at "g1") => `(tactic| first
  | (with_reducible show WE _ _ _; with_reducible first | refine we_var (by with_unfolding_all exact rfl) ?_ | (show WE (tOp _ _ _) _ _; first | refine we_ixS (by with_unfolding_all exact rfl) ?_ | refine we_ixScr (by with_unfolding_all exact rfl) ?_ | refine we_inS (by with_unfolding_all exact rfl) ?_ | refine we_notInS (by with_unfolding_all exact rfl) ?_ | refine we_eqS (by with_unfolding_all exact rfl) ?_ | refine we_neS (by with_unfolding_all exact rfl) ?_ | refine we_opK ?_) | (show WE (tCB _ _) _ _; first | refine we_lenS' (by with_unfolding_all exact rfl) ?_ | refine we_lenScr (by with_unfolding_all exact rfl) ?_ | refine we_cbK ?_) | refine we_int ?_ | refine we_bl ?_ | refine we_non ?_ | refine we_str ?_ | refine we_neg ?_ | refine we_not ?_ | refine we_and ?_ | refine we_or ?_ | refine we_if ?_ | refine we_tup ?_ | refine we_lst ?_ | refine we_call ?_ | refine we_mt (by with_unfolding_all exact rfl) ?_)
  | (with_reducible show WS _ _ _ _; with_reducible first | refine ws_seqA ?_ | refine ws_seqD ?_ | refine ws_asg (by with_unfolding_all exact rfl) ?_ | refine ws_asgG ?_ | refine ws_if ?_ | refine ws_ret ?_ | refine ws_drop ?_ | refine ws_next ?_ | refine ws_retN ?_)
  | (with_reducible show WT _ _ _; with_reducible first | refine wt_test ?_ | refine wt_B ?_ | refine wt_not ?_ | refine wt_and ?_ | refine wt_or ?_ | refine wt_yes ?_)
  | (with_reducible show WA _ _ _; with_reducible first | refine wa_nil ?_ | refine wa_cons (wq_of (we_var (by with_unfolding_all exact rfl) ?_)) | refine wa_slotU (by with_unfolding_all exact rfl) ?_ | refine wa_cons ?_)
  | (with_reducible show OpK _ _ _ _ _; with_reducible first | refine ok_plusI ?_ | refine ok_sub ?_ | refine ok_lt ?_ | refine ok_le ?_ | refine ok_gt ?_ | refine ok_ge ?_ | refine ok_eqI ?_ | refine ok_neI ?_ | refine ok_mod (by first | assumption | decide | omega) ?_ | refine ok_ixL (by with_unfolding_all exact rfl) ?_)
  | (with_reducible show CbK _ _ _ _; with_reducible first | refine ck_lenL ?_ | refine ck_lenT ?_ | refine ck_int ?_ | refine ck_intB ?_ | refine ck_max ?_ | refine ck_min ?_ | refine ck_list ?_)
  | with_reducible refine wq_of ?_
  | (with_reducible show WG _ _ _ _ _; with_reducible first | refine wg_name (by with_unfolding_all exact rfl) ?_ | refine wg_tup (by with_unfolding_all exact rfl) ?_ | refine wg_set (by with_unfolding_all exact rfl) ?_)
  | (with_reducible show WGs _ _ _ _ _; with_reducible first | refine wgs_cons ?_ | refine wgs_nil ?_)
  | with_reducible refine iteT ?_
  | with_reducible refine iteF ?_
  | with_reducible refine ⟨_, frz_per, ?_⟩
  | with_reducible refine ⟨_, frz_own, ?_⟩
  | refine ⟨_, rfl, ?_⟩
  | refine ⟨_, argD1, ?_⟩
  | refine ⟨_, argD2, ?_⟩
  | refine ⟨_, argD0, ?_⟩
  | refine ⟨_, argD3, ?_⟩
  | refine ⟨_, argD4, ?_⟩
  | refine ⟨_, _, rfl, rfl, rfl, ?_⟩
  | refine ⟨_, _, _, rfl, rfl, rfl, ?_⟩
  | refine ⟨(by simp only [List.length_cons, List.length_nil]; decide), ?_⟩
  | refine ⟨rfl, nd1, ?_⟩
  | refine ⟨rfl, nd0, ?_⟩)
local macro_rules | `(tactic| walk_at "go") => `(tactic| repeat walk_at "g1")
local macro_rules | `(tactic| walk_at "g2") => `(tactic| first
  | (with_reducible show WE _ _ _; with_reducible first | refine we_var (by with_unfolding_all exact rfl) ?_ | (show WE (tOp _ _ _) _ _; first | refine we_notN ?_ | refine we_ixS (by with_unfolding_all exact rfl) ?_ | refine we_ixScr (by with_unfolding_all exact rfl) ?_ | refine we_inS (by with_unfolding_all exact rfl) ?_ | refine we_notInS (by with_unfolding_all exact rfl) ?_ | refine we_eqS (by with_unfolding_all exact rfl) ?_ | refine we_neS (by with_unfolding_all exact rfl) ?_ | refine we_opK ?_) | (show WE (tCB _ _) _ _; first | refine we_isInt ?_ | refine we_isBl ?_ | refine we_isLst ?_ | refine we_isTup ?_ | refine we_lenO (by with_unfolding_all exact rfl) ?_ | refine we_lenS' (by with_unfolding_all exact rfl) ?_ | refine we_lenScr (by with_unfolding_all exact rfl) ?_ | refine we_cbK ?_) | refine we_chain ?_ | refine we_slice ?_ | refine we_int ?_ | refine we_bl ?_ | refine we_non ?_ | refine we_str ?_ | refine we_neg ?_ | refine we_not ?_ | refine we_and ?_ | refine we_or ?_ | refine we_if ?_ | refine we_tup ?_ | refine we_lst ?_ | refine we_call ?_ | refine we_mt (by with_unfolding_all exact rfl) ?_)
  | (with_reducible show WS _ _ _ _; with_reducible first | refine ws_seqA ?_ | refine ws_seqD ?_ | refine ws_asg (by with_unfolding_all exact rfl) ?_ | refine ws_asgG ?_ | refine ws_if ?_ | refine ws_ret ?_ | refine ws_drop ?_ | refine ws_next ?_ | refine ws_retN ?_)
  | (with_reducible show WT _ _ _; with_reducible first | refine wt_test ?_ | refine wt_B ?_ | refine wt_not ?_ | refine wt_and ?_ | refine wt_or ?_ | refine wt_yes ?_)
  | (with_reducible show WA _ _ _; with_reducible first | refine wa_nil ?_ | refine wa_cons (wq_of (we_var (by with_unfolding_all exact rfl) ?_)) | refine wa_slotU (by with_unfolding_all exact rfl) ?_ | refine wa_cons ?_)
  | (with_reducible show OpK _ _ _ _ _; with_reducible first | refine ok_isB ?_ | refine ok_notB ?_ | refine ok_plusI ?_ | refine ok_sub ?_ | refine ok_lt ?_ | refine ok_le ?_ | refine ok_gt ?_ | refine ok_ge ?_ | refine ok_eqI ?_ | refine ok_neI ?_ | refine ok_mod (by first | assumption | decide | omega) ?_ | refine ok_ixL (by with_unfolding_all exact rfl) ?_)
  | (with_reducible show CbK _ _ _ _; with_reducible first | refine ck_lenL ?_ | refine ck_lenT ?_ | refine ck_int ?_ | refine ck_intB ?_ | refine ck_max ?_ | refine ck_min ?_ | refine ck_list ?_)
  | with_reducible refine wq_of ?_
  | (with_reducible show WG _ _ _ _ _; with_reducible first | refine wg_name (by with_unfolding_all exact rfl) ?_ | refine wg_tup (by with_unfolding_all exact rfl) ?_ | refine wg_set (by with_unfolding_all exact rfl) ?_)
  | (with_reducible show WGs _ _ _ _ _; with_reducible first | refine wgs_cons ?_ | refine wgs_nil ?_)
  | (with_reducible show WO _ _ _; with_reducible first | refine wo_some ?_ | refine wo_none ?_)
  | refine ⟨_, argD5, ?_⟩
  | refine ⟨_, argD6, ?_⟩
  | refine ⟨_, argD7, ?_⟩
  | refine ⟨_, argD9, ?_⟩
  | with_reducible refine iteT ?_
  | with_reducible refine iteF ?_
  | with_reducible refine ⟨_, frz_per, ?_⟩
  | with_reducible refine ⟨_, frz_own, ?_⟩
  | refine ⟨_, rfl, ?_⟩
  | refine ⟨_, argD1, ?_⟩
  | refine ⟨_, argD2, ?_⟩
  | refine ⟨_, argD0, ?_⟩
  | refine ⟨_, argD3, ?_⟩
  | refine ⟨_, argD4, ?_⟩
  | refine ⟨_, _, rfl, rfl, rfl, ?_⟩
  | refine ⟨_, _, _, rfl, rfl, rfl, ?_⟩
  | refine ⟨(by simp only [List.length_cons, List.length_nil]; decide), ?_⟩
  | refine ⟨rfl, nd1, ?_⟩
  | refine ⟨rfl, nd0, ?_⟩)
local macro_rules | `(tactic| walk_at "g2") => `(tactic| first | with_reducible refine we_isInt ?_ | with_reducible refine we_isBl ?_ | with_reducible refine we_isLst ?_ | with_reducible refine we_isTup ?_ | with_reducible refine we_chain ?_ | with_reducible refine we_lenO (by with_unfolding_all exact rfl) ?_ | with_reducible refine we_slice ?_ | with_reducible refine wo_some ?_ | with_reducible refine wo_none ?_ | walk_at "g1")
/-- the addresses of the program's classes -/
structure Ad where
  C_Web : Addr
  C_HueError : Addr
  C_InvalidWeb : Addr
  C_InvalidLists : Addr
  C_InvalidPlace : Addr
structure Clf (K : PySem.W.Frag) (a : Ad) : Prop where
  cl_Web : Cls K a.C_Web
  nT : NoAttr K a.C_Web "_ties"
  nN : NoAttr K a.C_Web "_near"
  ins : InsC K a.C_Web
  oth : Oth K a.C_Web
def t_Web_len_ (K : PySem.W.Frag) (a : Ad) : TS :=
  (tRet (tCB (rLenA K) (tCons (tFld K (tVar 0) "_near") tNil)))
abbrev N_Web_len_ : List Str := ["self"]
def F_Web_len_ (a : Ad) : Fw := fun gs kk _ => ∃ ds xs, gs = [per (objP a.C_Web ds)] ∧ lookD "_near" ds = some (.list xs) ∧ kk (dat (.int xs.length)) [none]
abbrev sp_Web_len_ (K : PySem.W.Frag) (a : Ad) : Sp := SpG 1 (F_Web_len_ a)
theorem pure_Web_len_ {K : PySem.W.Frag} {a : Ad} (c : Clf K a) {vs : List V} {H : Hp} {Q : VK} {E : XK} (h : sp_Web_len_ K a vs H Q E) : t_Web_len_ K a { nx := fun _ H' => Q .non H', rt := Q } (start N_Web_len_ vs) H := by
  refine body_ok (fun _ => false) ?_ h
  rintro gs kk xx ⟨ds, xs, rfl, hl, hk⟩ -
  unfold t_Web_len_
  repeat walk_at "g2"
  refine we_fldP c.cl_Web c.nN rfl hl ?_
  repeat walk_at "g2"
  exact ⟨_, [none], Ent.refl, les_none les_nil, hk⟩
def t_Web_ties (K : PySem.W.Frag) (a : Ad) : TS :=
  (tRet (tCB (rListOf K) (tCons (tFld K (tVar 0) "_ties") tNil)))
abbrev N_Web_ties : List Str := ["self"]
def F_Web_ties (a : Ad) : Fw := fun gs kk _ => ∃ ds xs, gs = [per (objP a.C_Web ds)] ∧ lookD "_ties" ds = some (.list xs) ∧ kk (own xs) [none]
abbrev sp_Web_ties (K : PySem.W.Frag) (a : Ad) : Sp := SpG 1 (F_Web_ties a)
theorem pure_Web_ties {K : PySem.W.Frag} {a : Ad} (c : Clf K a) {vs : List V} {H : Hp} {Q : VK} {E : XK} (h : sp_Web_ties K a vs H Q E) : t_Web_ties K a { nx := fun _ H' => Q .non H', rt := Q } (start N_Web_ties vs) H := by
  refine body_ok (fun _ => false) ?_ h
  rintro gs kk xx ⟨ds, xs, rfl, hl, hk⟩ -
  unfold t_Web_ties
  repeat walk_at "g2"
  refine we_fldP c.cl_Web c.nT rfl hl ?_
  repeat walk_at "g2"
  exact ⟨_, [none], Ent.refl, les_none les_nil, hk⟩
abbrev t_neighbour_lists_0 (K : PySem.W.Frag) : TS :=
  (tSeq (tDrop (tBM K "list" (rAppend) (tOp (rIx K) (tVar 2) (tVar 3)) (tCons (tVar 4) tNil)))
    (tDrop (tBM K "list" (rAppend) (tOp (rIx K) (tVar 2) (tVar 4)) (tCons (tVar 3) tNil))))
abbrev t_neighbour_lists_1 (K : PySem.W.Frag) : TS :=
  (tSeq (tAsg (tLc (iRng1 (tCons (tVar 0) tNil)) (gName 5) tYes (tLst tNil) [5]) (gName 2))
    (tSeq (tFor (iList K (tVar 1)) (gTup K 2 (gCons (gName 3) (gCons (gName 4) gNil))) (t_neighbour_lists_0 K))
    (tRet (tVar 2))))
def t_neighbour_lists (K : PySem.W.Frag) : TS :=
  (t_neighbour_lists_1 K)
abbrev N_neighbour_lists : List Str := ["places", "ties", "near", "u", "v", "place"]
/-- y is put at the end of the m-th one -/
def putAt (dss : List (List PyData)) (m : Nat) (y : PyData) : List (List PyData) := dss.set m (dss.getD m [] ++ [y])
def nearStep (dss : List (List PyData)) (t : Int × Int) : List (List PyData) := putAt (putAt dss t.1.toNat (.int t.2)) t.2.toNat (.int t.1)
/-- for each place the ones it is tied to, in the order of the ties -/
def nearL (n : Nat) (ts : List (Int × Int)) : List (List PyData) := ts.foldl nearStep (List.replicate n [])
theorem putAt_len {dss : List (List PyData)} {m : Nat} {y : PyData} : (putAt dss m y).length = dss.length := List.length_set
theorem nearStep_len {dss : List (List PyData)} {t : Int × Int} : (nearStep dss t).length = dss.length := by unfold nearStep; rw [putAt_len, putAt_len]
theorem nearFold_len : ∀ (ts : List (Int × Int)) (dss : List (List PyData)), (ts.foldl nearStep dss).length = dss.length
  | [], _ => rfl
  | t :: ts, dss => by rw [List.foldl_cons, nearFold_len ts, nearStep_len]
theorem nearL_len {n : Nat} {ts : List (Int × Int)} : (nearL n ts).length = n := by unfold nearL; rw [nearFold_len, List.length_replicate]
/-- none is longer than the ties -/
theorem putAt_le {dss : List (List PyData)} {m b : Nat} {y : PyData} (h : ∀ ds ∈ dss, ds.length ≤ b) : ∀ ds ∈ putAt dss m y, ds.length ≤ b + 1 := fun ds hd => by
  unfold putAt at hd
  rcases List.mem_or_eq_of_mem_set hd with hd | e
  · exact Nat.le_succ_of_le (h ds hd)
  · rw [e, List.length_append, List.getD_eq_getElem?_getD]
    cases e2 : dss[m]? with
    | none => simp
    | some x => simpa using h x (List.mem_of_getElem? e2)
theorem nearFold_le : ∀ (ts : List (Int × Int)) (dss : List (List PyData)) (b : Nat), (∀ ds ∈ dss, ds.length ≤ b) → ∀ ds ∈ ts.foldl nearStep dss, ds.length ≤ b + 2 * ts.length
  | [], _, _, h => h
  | t :: ts, dss, b, h => fun ds hd => by
    rw [List.foldl_cons] at hd
    have := nearFold_le ts (nearStep dss t) (b + 2) (putAt_le (putAt_le h)) ds hd
    simp only [List.length_cons]
    omega
theorem take_fold {α β : Type} {f : β → α → β} {xs : List α} {i : Nat} {x : α} {b : β} (h : xs[i]? = some x) : (xs.take (i + 1)).foldl f b = f ((xs.take i).foldl f b) x := by
  rw [List.take_succ, h, List.foldl_append]
  rfl
theorem ixN_in {n : Nat} {j : Int} (h0 : 0 ≤ j) (h1 : j.toNat < n) : ixN n j = some j.toNat := by
  unfold ixN
  rw [if_pos h0, if_pos (by omega)]
def F_neighbour_lists : Fw := fun gs kk _ => ∃ (n : Nat) (ts : List (Int × Int)), gs = [dat (.int n), dat (.list (ts.map tieD))] ∧ n < 100000 ∧ ts.length < 10000 ∧ (∀ t ∈ ts, 0 ≤ t.1 ∧ t.1 < t.2 ∧ t.2 < n) ∧ kk (own2 (nearL n ts)) [none, none]
abbrev sp_neighbour_lists (K : PySem.W.Frag) : Sp := SpG 2 F_neighbour_lists
theorem pure_neighbour_lists {K : PySem.W.Frag} {vs : List V} {H : Hp} {Q : VK} {E : XK} (h : sp_neighbour_lists K vs H Q E) : t_neighbour_lists K { nx := fun _ H' => Q .non H', rt := Q } (start N_neighbour_lists vs) H := by
  refine body_ok (fun _ => false) ?_ h
  rintro gs kk xx ⟨n, ts, rfl, hn, hs, hts, hk⟩ -
  unfold t_neighbour_lists
  refine ws_seq (ws_asg rfl ?_)
  refine we_lcE (fun i Γ => Γ = [some (dat (.int n)), some (dat (.list (ts.map tieD))), none, none, none, none]) ?_
  refine wi_range1 ?_
  repeat walk_at "g2"
  refine ⟨by omega, by omega, by omega, rfl, ?_, ?_⟩
  · rintro Γ2 rfl
    rw [Int.toNat_natCast]
    refine ws_seq ?_
    refine ws_for (fun i Γ => ∃ x y, Γ = [some (dat (.int n)), some (dat (.list (ts.map tieD))), some (own2 ((ts.take i).foldl nearStep (List.replicate n []))), x, y, none]) ?_
    refine wi_list ?_
    repeat walk_at "g2"
    refine ⟨⟨_, _, rfl⟩, ?_, ?_⟩
    · rintro Γ2 ⟨x, y, rfl⟩
      refine ws_ret (we_varM rfl ?_)
      rw [List.length_map, List.take_length]
      exact ⟨_, [none, none], Ent.refl, les_none (les_none les_nil), hk⟩
    · rintro i Γ2 hi ⟨x, y, rfl⟩
      rw [List.length_map] at hi
      obtain ⟨t, ht⟩ := getD_of hi
      have hm := hts t (List.mem_of_getElem? ht)
      have e : (ts.map tieD).getD i .none = tieD t := getD_at (by rw [List.getElem?_map, ht]; rfl)
      dsimp only
      rw [e]
      have e2 := take_fold (f := nearStep) (b := List.replicate n []) ht
      have hln : ((ts.take i).foldl nearStep (List.replicate n [])).length = n := by rw [nearFold_len, List.length_replicate]
      have hle := nearFold_le (ts.take i) (List.replicate n []) 0 fun ds hd => by rw [(List.mem_replicate.mp hd).2]; exact Nat.le_refl _
      have htk : (ts.take i).length ≤ ts.length := by rw [List.length_take]; omega
      generalize (ts.take i).foldl nearStep (List.replicate n []) = dss at *
      have at_ : ∀ {es : List (List PyData)} {m : Nat}, m < es.length → es[m]? = some (es.getD m []) := fun {es m} h => by rw [List.getD_eq_getElem?_getD, List.getElem?_eq_getElem h]; rfl
      show WG _ _ (dP (.tuple [.int t.1, .int t.2])) _ _
      repeat walk_at "g2"
      refine we_apAt rfl ?_
      repeat walk_at "g2"
      have h1 : t.1.toNat < dss.length := by omega
      refine ⟨t.1, t.1.toNat, dss, _, .int t.2, rfl, rfl, ixN_in (by omega) (by omega), at_ h1, rfl, ?_, ?_⟩
      · have := hle _ (List.mem_of_getElem? (at_ h1))
        omega
      repeat walk_at "g2"
      refine we_apAt rfl ?_
      repeat walk_at "g2"
      have h2 : t.2.toNat < (putAt dss t.1.toNat (.int t.2)).length := by rw [putAt_len]; omega
      refine ⟨t.2, t.2.toNat, putAt dss t.1.toNat (.int t.2), _, .int t.1, rfl, rfl, ixN_in (by omega) (by omega), at_ h2, rfl, ?_, ?_⟩
      · have := putAt_le hle _ (List.mem_of_getElem? (at_ h2))
        omega
      exact ⟨_, _, by rw [e2]; rfl⟩
  · rintro i Γ2 hi rfl -
    exact wg_name rfl rfl
end G

/-! ### set(ties) of up to a thousand different ties: no two hashes alike, so the table only must have room -/
namespace GW
open PySem PySem.Spec PyProof.Rows L2
/-! #### the round of 5 i + 1, for the masks that come -/
def BigM (m : Nat) : Prop := m = 7 ∨ m = 31 ∨ m = 127 ∨ m = 511 ∨ m = 2047
def noz (m : Nat) : Nat → Nat → Bool
  | 0, _ => true
  | n + 1, x => (x != 0) && noz m n ((x * 5 + 1) % (m + 1))
theorem noz_spec {m : Nat} : ∀ {n a : Nat}, noz m n (lcgN m a) = true → ∀ k, k < n → lcgN m (a + k) ≠ 0
  | 0, _, _, k, hk => absurd hk (Nat.not_lt_zero _)
  | n + 1, a, h, k, hk => by
    have h := (Bool.and_eq_true _ _).mp h
    cases k with
    | zero => simpa using h.1
    | succ k =>
      have := noz_spec (n := n) (a := a + 1) h.2 k (by omega)
      rwa [show a + 1 + k = a + (k + 1) by omega] at this
theorem noz_all {m : Nat} (hm : BigM m) : noz m m (lcgN m 1) = true := by
  rcases hm with e | e | e | e | e <;> subst e <;> decide +kernel
theorem five_inj {m : Nat} (hm : BigM m) {a b : Nat} (ha : a ≤ m) (hb : b ≤ m) (e : (a * 5 + 1) % (m + 1) = (b * 5 + 1) % (m + 1)) : a = b := by
  rcases hm with z | z | z | z | z <;> subst z <;> omega
theorem lcgN_le (m : Nat) : ∀ k, lcgN m k ≤ m
  | 0 => Nat.zero_le _
  | k + 1 => Nat.le_of_lt_succ (Nat.mod_lt _ (Nat.succ_pos _))
theorem lcg_apart {m : Nat} (hm : BigM m) {d : Nat} (h0 : 0 < d) (hd : d ≤ m) : ∀ a, lcgN m (a + d) ≠ lcgN m a
  | 0 => by
    have := noz_spec (noz_all hm) (d - 1) (by omega)
    rw [show 1 + (d - 1) = 0 + d by omega] at this
    exact this
  | a + 1 => fun e => by
    rw [show a + 1 + d = a + d + 1 by omega] at e
    exact lcg_apart hm h0 hd a (five_inj hm (lcgN_le m _) (lcgN_le m _) e)
theorem cover {m : Nat} {f : Nat → Nat} (hb : ∀ k, f k ≤ m) (hd : ∀ a d, 0 < d → d ≤ m → f (a + d) ≠ f a) {j : Nat} (hj : j ≤ m) : ∃ k, k ≤ m ∧ f k = j := by
  refine Decidable.byContradiction fun hn => ?_
  have nd : ((List.range (m + 1)).map f).Nodup := by
    refine List.Pairwise.map f (R := fun a b => a < b ∧ b ≤ m) (fun a b ⟨h1, h2⟩ e => ?_) ?_
    · have := hd a (b - a) (by omega) (by omega)
      rw [show a + (b - a) = b by omega] at this
      exact this e.symm
    · rw [List.pairwise_iff_getElem]
      intro i k hi hk hik
      simp only [List.length_range] at hi hk
      simp only [List.getElem_range]
      omega
  have sub : ∀ x ∈ (List.range (m + 1)).map f, x ∈ (List.range (m + 1)).erase j := fun x hx => by
    obtain ⟨k, hk, rfl⟩ := List.mem_map.mp hx
    have hk := List.mem_range.mp hk
    exact (List.mem_erase_of_ne fun e => hn ⟨k, by omega, e⟩).mpr (List.mem_range.mpr (Nat.lt_succ_of_le (hb k)))
  have := nat_nodup_len _ _ nd sub
  rw [List.length_map, List.length_erase_of_mem (List.mem_range.mpr (by omega)), List.length_range] at this
  omega
theorem round {m : Nat} (hm : BigM m) {i j : Nat} (hi : i ≤ m) (hj : j ≤ m) : ∃ k, k ≤ m ∧ lcgI m i k = j := by
  obtain ⟨a, _, rfl⟩ := cover (lcgN_le m) (fun a d h0 hd => lcg_apart hm h0 hd a) hi
  refine cover (f := lcgI m (lcgN m a)) (fun k => by rw [lcgN_add]; exact lcgN_le m _) (fun b d h0 hd => ?_) hj
  rw [lcgN_add, lcgN_add, ← Nat.add_assoc]
  exact lcg_apart hm h0 hd _
theorem runs {m : Nat} (hm : BigM m) (h : Int) {j : Nat} (hj : j ≤ m) : ∃ n, n ≤ m + 12 ∧ runI m (SetTable.bits h) n = j := by
  obtain ⟨k, hk, e⟩ := round hm (runI_le m (SetTable.bits h) 12) hj
  exact ⟨12 + k, by omega, by rw [runI_tail (bits_lt h), e]⟩
theorem way_bd (m : Nat) (h : Int) (k : Nat) : way m h k ≤ m := by
  have hi : SetTable.bits h % (m + 1) ≤ m := Nat.le_of_lt_succ (Nat.mod_lt _ (Nat.succ_pos _))
  have r := runEnd_bd hi
  have q := nth_in (m := m) k (runAt m (SetTable.bits h % (m + 1)) (SetTable.bits h)) (by
    show SetTable.bits h % (m + 1) + (SetTable.runEnd m (SetTable.bits h % (m + 1)) - SetTable.bits h % (m + 1)) ≤ m
    omega)
  show (nth m _ k).j ≤ m
  omega
/-! #### the table has room -/
structure Lay (t : SetTable) (n : Nat) : Prop where
  ris : Ris t.place.toList
  dm : t.dummies = #[]
  sz : t.place.size = n
  mok : BigM t.mask
  bd : ∀ x ∈ t.place.toList, x ≤ t.mask
theorem Lay.odd {t : SetTable} {n : Nat} (T : Lay t n) : ¬ t.gaveWay = true := by
  unfold SetTable.gaveWay
  have : t.mask % 2 = 1 := by rcases T.mok with e | e | e | e | e <;> rw [e]
  rw [this]
  decide
/-- the probe of a hash that isn't there meets an empty slot -/
theorem Lay.free {t : SetTable} {n : Nat} (T : Lay t n) (hl : n ≤ t.mask) {hashAt : Nat → Int} {h : Int} (hn : ∀ i, i < n → hashAt i ≠ h) : ∃ j, j ≤ t.mask ∧ j ∉ t.place.toList ∧ t.probe hashAt h (t.probeStart h) = some (.empty j none) := by
  obtain ⟨j, hj, hnj⟩ := st_missing t.place.toList (t.mask + 1) (by rw [Array.length_toList, T.sz]; omega)
  obtain ⟨r, hr, e⟩ := runs T.mok h (Nat.le_of_lt_succ hj)
  obtain ⟨k, hk, e2⟩ := run_nth t.mask (SetTable.bits h) r
  have hw : way t.mask h k = j := by
    show (nth t.mask _ k).j = j
    rw [e2]
    exact e
  obtain ⟨K, k1, k2, k3⟩ := st_least (p := fun k => way t.mask h k ∉ t.place.toList) k (by show way t.mask h k ∉ _; rw [hw]; exact hnj)
  rcases go_spec t T.ris T.dm hashAt h (10 * SetTable.turns t.mask) K (t.probeStart h) rfl (by unfold SetTable.turns; omega) (fun q hq => Classical.not_not.mp (k3 q hq)) k2 with ⟨q, i, _, hi, hh, _⟩ | ⟨_, hp⟩
  · exact absurd hh (hn i (by rw [← T.sz, ← Array.length_toList]; exact (List.getElem?_eq_some_iff.mp hi).1))
  · exact ⟨_, way_bd _ _ _, k2, hp⟩
theorem Lay.put {t : SetTable} {n : Nat} (T : Lay t n) {j : Nat} (hj : j ≤ t.mask) (hn : j ∉ t.place.toList) : Lay (t.put j).1 (n + 1) ∧ SetTable.below t.place j ≤ n := by
  have hb : SetTable.below t.place j ≤ t.place.toList.length := by rw [Array.length_toList]; exact (below_cut T.ris j).1
  have hpp := put_place t j
  refine ⟨⟨ris_insert T.ris fun e => hn (List.mem_of_getElem? (by rw [Array.getElem?_toList]; exact e)), put_dm T.dm j, ?_, T.mok, fun x hx => ?_⟩, ?_⟩
  · rw [← Array.length_toList, hpp, len_ins _ hb, Array.length_toList, T.sz]
  · rw [hpp] at hx
    rcases mem_ins.1 hx with z | z
    · rw [z]; exact hj
    · exact T.bd x z
  · rw [← T.sz, ← Array.length_toList]; exact hb
/-! #### laid anew -/
structure Sit (m n : Nat) (owner : Array (Option Nat)) : Prop where
  sz : owner.size = m + 1
  all : ∀ k, k < n → ∃ j, j ≤ m ∧ oAt owner j = some k
  ps : ∃ ps : List Nat, ps.length = n ∧ ∀ j, j ≤ m → oAt owner j ≠ none → j ∈ ps
theorem Sit.free {m n : Nat} (hm : BigM m) {owner : Array (Option Nat)} (W : Sit m n owner) (hl : n ≤ m) (h : Int) :
    ∃ j, j ≤ m ∧ oAt owner j = none ∧ SetTable.layClean.free m owner (SetTable.turns m) (SetTable.bits h % (m + 1)) (SetTable.bits h) = some j := by
  obtain ⟨ps, hps, hin⟩ := W.ps
  obtain ⟨j0, h0, hn0⟩ := st_missing ps (m + 1) (by omega)
  have hj0 : oAt owner j0 = none := Classical.not_not.mp fun z => hn0 (hin j0 (Nat.le_of_lt_succ h0) z)
  obtain ⟨r, hr, e⟩ := runs hm h (Nat.le_of_lt_succ h0)
  have hw : way m h (off m (SetTable.bits h % (m + 1)) (SetTable.bits h) r) = j0 := by
    show (nth m _ _).j = j0
    rw [nth_off, itL_run]
    exact e
  obtain ⟨K, k1, k2, k3⟩ := st_least (p := fun k => oAt owner (way m h k) = none) (off m (SetTable.bits h % (m + 1)) (SetTable.bits h) r) (by show oAt owner (way m h _) = none; rw [hw]; exact hj0)
  refine ⟨_, way_bd m h K, k2, free_spec m owner (SetTable.turns m) r _ _ K (by unfold SetTable.turns; omega) k1 (fun k hk => ?_) ?_⟩
  · have q := k3 k hk
    revert q
    show oAt owner (way m h k) ≠ none → (oAt owner (way m h k)).isNone = false
    cases oAt owner (way m h k) with
    | none => intro q; exact absurd rfl q
    | some _ => intro _; rfl
  · have q : oAt owner (nth m _ K).j = none := k2
    rw [q]
    rfl
theorem Sit.step {m n : Nat} {owner : Array (Option Nat)} (W : Sit m n owner) {j : Nat} (hj : j ≤ m) (e : oAt owner j = none) : Sit m (n + 1) (owner.setIfInBounds j (some n)) := by
  obtain ⟨ps, hps, hin⟩ := W.ps
  have hself := oAt_set_self (some n) (show j < owner.size by rw [W.sz]; omega)
  refine ⟨by rw [Array.size_setIfInBounds]; exact W.sz, fun k hk => ?_, ⟨j :: ps, by simp [hps], fun i hi z => ?_⟩⟩
  · by_cases c : k < n
    · obtain ⟨i, hi, ei⟩ := W.all k c
      exact ⟨i, hi, by rw [oAt_set_ne _ fun z => by rw [z, e] at ei; cases ei]; exact ei⟩
    · obtain rfl : k = n := by omega
      exact ⟨j, hj, hself⟩
  · by_cases c : i = j
    · rw [c]; exact List.mem_cons_self
    · rw [oAt_set_ne _ c] at z
      exact List.mem_cons_of_mem _ (hin i hi z)
theorem Sit.fold {m : Nat} (hm : BigM m) : ∀ (rest : List Int) (n : Nat) (owner : Array (Option Nat)), Sit m n owner → n + rest.length ≤ m →
    ∃ owner', rest.foldl (stepF m) (some (owner, n)) = some (owner', n + rest.length) ∧ Sit m (n + rest.length) owner'
  | [], n, owner, W, _ => ⟨owner, rfl, W⟩
  | h :: rest, n, owner, W, hl => by
    rw [List.length_cons] at hl
    obtain ⟨j, hj, e, hf⟩ := W.free hm (by omega) h
    obtain ⟨o2, f, W2⟩ := Sit.fold hm rest (n + 1) _ (W.step hj e) (by omega)
    have ea : n + 1 + rest.length = n + (h :: rest).length := by rw [List.length_cons]; omega
    rw [ea] at f W2
    exact ⟨o2, by rw [List.foldl_cons, stepF_some hf]; exact f, W2⟩
theorem relaid {t : SetTable} {hs : Array Int} {wanted M : Nat} (hw : SetTable.sizeAbove wanted - 1 = M) (hM : BigM M) (hn : hs.size ≤ M) :
    ∃ t' order, t.relaid hs wanted = some (t', order) ∧ order.toList.Perm (List.range hs.size) ∧ Lay t' hs.size ∧ t'.mask = M ∧ t'.led = t.led ∧ t'.plain = t.plain := by
  obtain ⟨owner, f, W⟩ := Sit.fold hM hs.toList 0 (Array.replicate (M + 1) none) ⟨by simp, fun k hk => absurd hk (Nat.not_lt_zero _), ⟨[], rfl, fun j hj e => absurd (oAt_init hj) e⟩⟩ (by rw [Array.length_toList]; omega)
  rw [Nat.zero_add, Array.length_toList] at W
  have e : SetTable.layClean M hs = some owner := by rw [layClean_eq, f]; rfl
  have hr : t.relaid hs wanted = some (tabOf t M owner, ((liveOf M owner).map (·.2)).toArray) := by rw [relaid_eq, hw, e]; rfl
  have ris := ris_live (fun j => owner.getD j none) (List.range (M + 1)) List.pairwise_lt_range
  have r1 : Ris ((liveOf M owner).map (·.1)) := ris.1
  have r2 : ∀ x ∈ (liveOf M owner).map (·.1), x ∈ List.range (M + 1) := ris.2
  obtain ⟨ps, p1, p2⟩ := W.ps
  have nd : ((liveOf M owner).map (·.1)).Nodup := List.Pairwise.imp (fun h => Nat.ne_of_lt h) r1
  have a := nat_nodup_len ((liveOf M owner).map (·.1)) ps nd fun x hx => by
    obtain ⟨⟨y, k⟩, hq, rfl⟩ := List.mem_map.mp hx
    obtain ⟨b1, b2⟩ := (mem_live W.sz).1 hq
    exact p2 y b1 (by rw [b2]; exact fun z => nomatch z)
  have all : ∀ k, k < hs.size → k ∈ (liveOf M owner).map (·.2) := fun k hk => by
    obtain ⟨j, b1, b2⟩ := W.all k hk
    exact List.mem_map.mpr ⟨(j, k), (mem_live W.sz).2 ⟨b1, b2⟩, rfl⟩
  have b := nat_nodup_len (List.range hs.size) ((liveOf M owner).map (·.2)) List.nodup_range fun k hk => all k (List.mem_range.mp hk)
  rw [List.length_map] at a b
  rw [List.length_range] at b
  have hlen : (liveOf M owner).length = hs.size := by omega
  refine ⟨_, _, hr, perm_range _ _ (by show ((liveOf M owner).map (·.2)).length = _; rw [List.length_map, hlen]) all, ⟨r1, rfl, ?_, hM, fun x hx => Nat.le_of_lt_succ (List.mem_range.mp (r2 x hx))⟩, rfl, rfl, rfl⟩
  show ((liveOf M owner).map (·.1)).toArray.size = _
  rw [List.size_toArray, List.length_map, hlen]
end GW

namespace GW
open PySem PySem.Spec PyProof.Rows L2
/-! #### the set of tuples, no two hashes alike -/
structure Wid (P : Program) (w : World) (h : Heap) (a : Addr) (L : List (Addr × List Int)) (es : Array (Int × Value)) (ep : Nat) (t : SetTable) : Prop where
  ob : ∃ o, h.get? a = some o ∧ o.ExactSet ∧ o.data = .set es ep t
  rows : es.toList.Perm (rowsOf P w L)
  lay : Lay t L.length
  plain : t.plain = true
  led : w.params.followText "set-order" = true ∨ t.led = true
  room : L.length * 5 < t.mask * 3
section
variable {P : Program} {w : World} {A : Around} {E : Value → Shared → Prop} {s : Shared} {a : Addr} {L : List (Addr × List Int)} {es : Array (Int × Value)} {ep : Nat} {t : SetTable}
theorem rows_len (h : es.toList.Perm (rowsOf P w L)) : es.size = L.length := by
  have := h.length_eq
  unfold rowsOf at this
  rwa [Array.length_toList, List.length_map] at this
theorem fits_of {n : Nat} (T : Lay t n) (hn : n ≤ t.mask) {k : Nat} (hk : k = n) : t.fits k = true := by
  subst hk
  unfold SetTable.fits SetTable.fill
  rw [T.dm, T.sz, Bool.and_eq_true, beq_iff_eq, decide_eq_true_eq]
  exact ⟨rfl, by show k + 0 ≤ _; omega⟩
theorem Wid.fits (R : Wid P w s.heap a L es ep t) : t.fits es.size = true := fits_of R.lay (by have := R.room; omega) (rows_len R.rows)
/-- what isn't there finds a free slot -/
theorem wid_search (R : Wid P w s.heap a L es ep t) {x : Value} {h : Int} (hn : ∀ p ∈ L, thash P w p.2 ≠ h) {Q : SetFound → Shared → Prop}
    (hQ : ∀ j, j ≤ t.mask → j ∉ t.place.toList → Q (.free j false) s) : wpAny (model P w) A (setSearch a x h true) Q E s := by
  obtain ⟨o, ho, _, hd⟩ := R.ob
  have hl := rows_len R.rows
  unfold setSearch
  rw [show (100000 : Nat) = 99999 + 1 from rfl, setSearchFrom_succ]
  refine wpAny_bind (wpAny_setState_of ho hd R.fits ?_)
  dsimp only
  refine wp_if_neg R.lay.odd ?_
  try refine wpAny_bind (wpAny_pure ?_)
  obtain ⟨j, hj, hnj, hp⟩ := R.lay.free (by have := R.room; omega) (hashAt := fun i => (es[i]?.map (·.1)).getD 0) (h := h) fun i hi => by
    have hi2 : i < es.size := by rw [hl]; exact hi
    have hm : es[i] ∈ es.toList := by simp
    obtain ⟨p, hpL, hpe⟩ := List.mem_map.mp (R.rows.mem_iff.mp hm)
    show (es[i]?.map (·.1)).getD 0 ≠ h
    rw [Array.getElem?_eq_getElem hi2, ← hpe]
    exact hn p hpL
  rw [show (none : Option SetTable.Probe).getD (t.probeStart h) = t.probeStart h from rfl, hp]
  dsimp only
  exact wpAny_pure (hQ j hj hnj)
theorem wid_relay {o : Obj} {n M wanted : Nat} (ho : s.heap.get? a = some o) (hex : o.ExactSet) (hd : o.data = .set es ep t) (hr : es.toList.Perm (rowsOf P w L)) (T : Lay t L.length) (hf : L.length ≤ t.mask) (pl : t.plain = true)
    (ld : w.params.followText "set-order" = true ∨ t.led = true) (hw : SetTable.sizeAbove wanted - 1 = M) (hM : BigM M) (hn : L.length * 5 < M * 3) {Q : Unit → Shared → Prop}
    (hQ : ∀ h' es' ep' t', Heap.SameBut a s.heap h' → Wid P w h' a L es' ep' t' → Q () { s with heap := h' }) : wpAny (model P w) A (setRelay a wanted) Q E s := by
  have hsl := rows_len hr
  have hM2 : M ≤ 2047 := by rcases hM with e | e | e | e | e <;> omega
  obtain ⟨t', order, e, hp, T', em, el, epl⟩ := relaid (t := t) (hs := es.map (·.1)) hw hM (by rw [Array.size_map, hsl]; omega)
  rw [Array.size_map] at hp T'
  have pm : (order.filterMap (es[·]?)).toList.Perm es.toList := by
    have h1 : (order.toList.filterMap fun i => es[i]?).Perm ((List.range es.size).filterMap fun i => es[i]?) := hp.filterMap _
    have h2 : ∀ n, n ≤ es.size → (List.range n).filterMap (fun i => es[i]?) = es.toList.take n := by
      intro n
      induction n with
      | zero => intro _; rfl
      | succ n ih =>
        intro hn
        have hlt : n < es.size := hn
        rw [List.range_succ, List.filterMap_append, ih (Nat.le_of_lt hlt), List.take_succ, Array.getElem?_toList, Array.getElem?_eq_getElem hlt]
        rw [List.filterMap_cons_some (Array.getElem?_eq_getElem hlt)]
        rfl
    rw [h2 _ (Nat.le_refl _), ← Array.length_toList, List.take_length] at h1
    rw [Array.toList_filterMap]
    exact h1
  have hs2 : (order.filterMap (es[·]?)).size = es.size := by rw [← Array.length_toList, pm.length_eq, Array.length_toList]
  rw [setRelay_eq]
  refine wpAny_bind (wpAny_setState_of ho hd (fits_of T hf hsl) ?_)
  dsimp only
  refine wp_if_neg (by rw [sizeLine_eq]; omega) ?_
  try refine wpAny_bind (wpAny_pure ?_)
  rw [e]
  dsimp only
  refine wpAny_bind ?_
  refine wp_if_neg (by rw [hs2]; simp) ?_
  try refine wpAny_bind (wpAny_pure ?_)
  refine wpAny_pure ?_
  dsimp only
  refine wpAny_storeSet_of ho hd ?_ (by rw [hs2, hsl, sizeLine_eq]; omega)
  refine hQ _ (order.filterMap (es[·]?)) (ep + 1) t' (Heap.SameBut.update ..) ⟨⟨_, store_at ho hd, ⟨hex.1, hex.2.1, hex.2.2⟩, rfl⟩, pm.trans hr, hsl ▸ T', by rw [epl]; exact pl, by rw [el]; exact ld, by rw [em]; exact hn⟩
theorem sizes : SetTable.sizeAbove (SetTable.grown 5) = 32 ∧ SetTable.sizeAbove (SetTable.grown 19) = 128 ∧ SetTable.sizeAbove (SetTable.grown 77) = 512 ∧ SetTable.sizeAbove (SetTable.grown 307) = 2048 := by decide +kernel
/-- one more, its hash a new one -/
theorem wid_add (R : Wid P w s.heap a L es ep t) {x : Addr} {k : List Int} (hx : IsT P w s.heap k x) (hn : ∀ p ∈ L, thash P w p.2 ≠ thash P w k) (few : L.length + 1 ≤ 1000) {Q : Bool → Shared → Prop}
    (hQ : ∀ h' es' ep' t', Heap.SameBut a s.heap h' → Wid P w h' a ((x, k) :: L) es' ep' t' → Q true { s with heap := h' }) : wpAny (model P w) A (setAddHashed a (.ref x) (thash P w k)) Q E s := by
  obtain ⟨o, ho, hex, hd⟩ := R.ob
  have hsl := rows_len R.rows
  have hroom := R.room
  unfold setAddHashed
  refine wpAny_holding ?_
  rw [show (100000 : Nat) = 99999 + 1 from rfl, setAddHashedIn_succ]
  refine wpAny_bind (wpAny_setState_of ho hd R.fits ?_)
  dsimp only
  refine wp_if_neg (by simp [byScan, Value.scannable]) ?_
  try refine wpAny_bind (wpAny_pure ?_)
  refine wpAny_bind (wid_search R hn fun j hj hnj => ?_)
  dsimp only
  refine wpAny_bind (wpAny_setState_of ho hd R.fits ?_)
  dsimp only
  obtain ⟨T1, hb⟩ := R.lay.put hj hnj
  have hp1 : (t.put j).1.plain = true := R.plain
  have hm1 : (t.put j).1.mask = t.mask := rfl
  have ld1 : w.params.followText "set-order" = true ∨ (t.put j).1.led = true := R.led
  have hp2 : (t.put j).2 = SetTable.below t.place j := rfl
  generalize hpt : t.put j = pt at T1 hp1 hm1 ld1 hp2 ⊢
  obtain ⟨t1, p⟩ := pt
  dsimp only at T1 hp1 hm1 ld1 hp2 ⊢
  first
    | (refine wpAny_bind ?_; refine wp_if_pos hp1 ?_; refine hashBy_tup hx ?_)
    | refine wp_if_pos hp1 (wpAny_bind (hashBy_tup hx ?_))
  simp only [if_true]
  have pm : (SetTable.insertAt es p (thash P w k, Value.ref x)).toList.Perm (rowsOf P w ((x, k) :: L)) := by
    rw [SetTable.toList_insertAt]
    exact (put_perm _ _ _).trans (R.rows.cons _)
  have hes := rows_len pm
  generalize SetTable.insertAt es p (thash P w k, Value.ref x) = es1 at pm hes ⊢
  have hlen : ((x, k) :: L).length = L.length + 1 := rfl
  refine wpAny_bind (wpAny_storeSet_of ho hd ?_ (by rw [hes, hlen, sizeLine_eq]; omega))
  have sb : Heap.SameBut a s.heap (s.heap.update a (Obj.putSet es1 t1)) := Heap.SameBut.update ..
  have ho1 := store_at (es' := es1) (t' := t1) ho hd
  generalize s.heap.update a (Obj.putSet es1 t1) = h1 at sb ho1 ⊢
  have hfull : t1.tooFull = decide ((L.length + 1) * 5 ≥ t.mask * 3) := by
    unfold SetTable.tooFull SetTable.fill
    rw [T1.dm, T1.sz, hm1]
    rfl
  by_cases hf : (L.length + 1) * 5 ≥ t.mask * 3
  · have hf1 : t1.tooFull = true := by rw [hfull]; exact decide_eq_true hf
    first
      | (refine wpAny_bind ?_; refine wp_if_pos (by simp [hf1]) ?_)
      | (refine wp_if_pos (by simp [hf1]) ?_; refine wpAny_bind ?_)
    rw [hsl]
    obtain ⟨z1, z2, z3, z4⟩ := sizes
    have go : ∀ M, SetTable.sizeAbove (SetTable.grown (L.length + 1)) - 1 = M → BigM M → (L.length + 1) * 5 < M * 3 →
        wpAny (model P w) A (setRelay a (SetTable.grown (L.length + 1))) (fun _ s' => wpAny (model P w) A (pure true) Q E s') E { s with heap := h1 } := fun M a1 a2 a3 =>
      wid_relay (L := (x, k) :: L) (n := 0) (s := { s with heap := h1 }) ho1 ⟨hex.1, hex.2.1, hex.2.2⟩ rfl pm T1 (by rw [hlen, hm1]; omega) hp1 ld1 a1 a2 a3 fun h2 es2 ep2 t2 sb2 R2 => wpAny_pure (hQ h2 es2 ep2 t2 (sb.trans sb2) R2)
    rcases R.lay.mok with e | e | e | e | e
    · obtain e2 : L.length = 4 := by omega
      exact go 31 (by rw [e2, z1]) (by unfold BigM; omega) (by omega)
    · obtain e2 : L.length = 18 := by omega
      exact go 127 (by rw [e2, z2]) (by unfold BigM; omega) (by omega)
    · obtain e2 : L.length = 76 := by omega
      exact go 511 (by rw [e2, z3]) (by unfold BigM; omega) (by omega)
    · obtain e2 : L.length = 306 := by omega
      exact go 2047 (by rw [e2, z4]) (by unfold BigM; omega) (by omega)
    · omega
  · have hf1 : ¬ t1.tooFull = true := by rw [hfull, decide_eq_true_eq]; exact hf
    first
      | refine wp_if_neg (by simp [hf1]) ?_
      | (refine wpAny_bind ?_; refine wp_if_neg (by simp [hf1]) ?_; refine wpAny_pure ?_)
    exact wpAny_pure (hQ h1 es1 (ep + 1) t1 sb ⟨⟨_, ho1, ⟨hex.1, hex.2.1, hex.2.2⟩, rfl⟩, pm, T1, hp1, ld1, by rw [hm1, hlen]; omega⟩)
end
end GW

namespace GW
open PySem PySem.Spec PyProof.Rows L2
/-- the hash of a tuple of ints -/
def thI (k : List Int) : Int := reduceHash (Builtin.Tuple.tupleHashOf (k.map hashInt))
section
variable {P : Program} {w : World} {A : Around} {E : Value → Shared → Prop} {s : Shared}
theorem Wid.keep {h h' : Heap} {a : Addr} {L : List (Addr × List Int)} {es : Array (Int × Value)} {ep : Nat} {t : SetTable} (R : Wid P w h a L es ep t) (ha : ∀ o, h.get? a = some o → h'.get? a = some o) : Wid P w h' a L es ep t := by
  obtain ⟨o, ho, r⟩ := R.ob
  exact ⟨⟨o, ha o ho, r⟩, R.rows, R.lay, R.plain, R.led, R.room⟩
abbrev newS (w : World) : Obj := { cls := .type "set", dict := none, data := .set #[] 0 (.fresh 0 0 (!w.params.followText "set-order")) }
theorem wid_new {h : Heap} {a : Addr} (ho : h.get? a = some (newS w)) : Wid P w h a [] #[] 0 (.fresh 0 0 (!w.params.followText "set-order")) := by
  refine ⟨⟨_, ho, ⟨rfl, rfl, rfl⟩, rfl⟩, List.Perm.refl _, ⟨List.Pairwise.nil, rfl, rfl, .inl rfl, fun x hx => nomatch hx⟩, rfl, ?_, by show 0 * 5 < 7 * 3; decide⟩
  show _ ∨ (!w.params.followText "set-order") = true
  cases w.params.followText "set-order"
  · exact .inr rfl
  · exact .inl rfl
theorem next_rev {α : Type} {l : List α} {i : Nat} {x : α} (h : l[i]? = some x) : (l.take (i + 1)).reverse = x :: (l.take i).reverse := by
  rw [take_next h, List.reverse_append]
  rfl
/-- the loop of set(xs) -/
theorem wid_loop {I : Addr} {fp wr : List Addr} {G : Array GenState → Array GenState → Prop} {Pv : Nat → Value → Prop} {St : Nat → Shared → Prop} {R : Result → Shared → Prop} {ks : List (Addr × List Int)}
    (W : WalksS P w A.in1 I fp wr G ks.length Pv St) (S : Addr) (hSf : S ∉ fp) (few : ks.length ≤ 1000) (nd : (ks.map fun p => thash P w p.2).Nodup) (hval : ∀ i v, Pv i v → ∃ p, ks[i]? = some p ∧ v = .ref p.1)
    (h0 : Heap) (hk : ∀ p ∈ ks, IsT P w h0 p.2 p.1) (hS0 : h0.get? S = none) (hw0 : ∀ b ∈ wr, h0.get? b = none) (hu : A.in1.units < cLine) :
    ∀ (m i : Nat) (s : Shared), ks.length - i = m → i ≤ ks.length → St i s → (∀ b o, h0.get? b = some o → s.heap.get? b = some o) → (∃ es ep t, Wid P w s.heap S (ks.take i).reverse es ep t) →
      (∀ s' es ep t, Moved (S :: wr) G s s' → Wid P w s'.heap S ks.reverse es ep t → (∀ b o, h0.get? b = some o → s'.heap.get? b = some o) → R (.ok (.ret .none)) s') →
      codeAny (model P w) A (.builtin "set.update.loop" ⟨[.ref S, .ref I], []⟩) R s := by
  have hSw : S ∉ wr := fun h => hSf (W.sub _ h)
  have hsub : ∀ b ∈ wr, b ∈ S :: wr := fun b hb => List.mem_cons_of_mem _ hb
  have keepM : ∀ {s s' : Shared}, Moved wr G s s' → (∀ b o, h0.get? b = some o → s.heap.get? b = some o) → ∀ b o, h0.get? b = some o → s'.heap.get? b = some o := fun hm hkp b o e =>
    hm.heap b o (fun hb => by rw [hw0 b hb] at e; cases e) (hkp b o e)
  intro m
  induction m with
  | zero =>
    intro i s hm hi hst hkp ⟨es, ep, t, hS⟩ hR
    obtain rfl : i = ks.length := by omega
    refine codeAny_builtin F.entry_set_update_loop ?_
    rw [Around.under_plainId F.plain_set_update_loop _]
    show wpAny _ A.in1 (pyNext (.ref I) >>= _) _ _ s
    refine wpAny_bind (W.done s _ _ hst fun s' hm => ?_)
    show wpAny _ A.in1 (ret Value.none) _ _ s'
    rw [List.take_length] at hS
    exact wpAny_pure (hR s' es ep t (hm.mono hsub) (hS.keep fun o e => hm.heap S o hSw e) (keepM hm hkp))
  | succ m ih =>
    intro i s hm' hi hst hkp ⟨es, ep, t, hS⟩ hR
    have hlt : i < ks.length := by omega
    refine codeAny_builtin F.entry_set_update_loop ?_
    rw [Around.under_plainId F.plain_set_update_loop _]
    show wpAny _ A.in1 (pyNext (.ref I) >>= _) _ _ s
    refine wpAny_bind (W.item i s _ _ hlt hst fun v s' hP hst' hm => ?_)
    obtain ⟨p, hp, rfl⟩ := hval i v hP
    have hkp' := keepM hm hkp
    have hx : IsT P w s'.heap p.2 p.1 := isT_keep (hk p (List.mem_of_getElem? hp)) hkp'
    show wpAny _ A.in1 (holding [Value.ref p.1] (setAdd S (.ref p.1)) >>= _) _ _ s'
    refine wpAny_bind (wpAny_holding ?_)
    unfold setAdd
    refine wpAny_holding (wpAny_bind (wpAny_pyHash_tuple hu hx ?_))
    have new : ∀ q ∈ (ks.take i).reverse, thash P w q.2 ≠ thash P w p.2 := fun q hq e => by
      obtain ⟨j, hj, ej⟩ := List.getElem_of_mem (List.mem_reverse.mp hq)
      rw [List.length_take] at hj
      rw [List.getElem_take] at ej
      have hi2 : ks[i] = p := (List.getElem?_eq_some_iff.mp hp).2
      have := List.pairwise_iff_getElem.mp nd j i (by rw [List.length_map]; omega) (by rw [List.length_map]; exact hlt) (by omega)
      rw [List.getElem_map, List.getElem_map, ej, hi2] at this
      exact this e
    refine wid_add (s := { s' with toks := s'.toks + (p.2.length + 1) }) (hS.keep fun o e => hm.heap S o hSw e) hx new (by rw [List.length_reverse, List.length_take]; omega) fun h' es' ep' t' hsb hS2 => ?_
    have hkp2 : ∀ b o, h0.get? b = some o → h'.get? b = some o := fun b o e => (hsb.2 b (fun z => by rw [z, hS0] at e; cases e)).trans (hkp' b o e)
    refine wpAny_pure ⟨plainId_quiet F.plain_set_update_loop _, ih (i + 1) _ (by omega) hlt (W.frame _ s' _ _ hst' (Nat.le_add_right _ _) fun b hb o e => ?_) hkp2 ⟨es', ep', t', by rw [next_rev hp]; exact hS2⟩ fun s'' es2 ep2 t2 hm'' hS'' hkp'' => ?_⟩
    · rw [hsb.2 b (fun h : b = S => hSf (by rw [← h]; exact hb))]; exact e
    · refine hR s'' es2 ep2 t2 (Moved.trans W.gtrans ((hm.mono hsub).then_heap (Nat.le_add_right _ _) fun b o hb e => ?_) hm'') hS'' hkp''
      rw [hsb.2 b (fun h : b = S => hb (by rw [h]; exact List.mem_cons_self))]; exact e
theorem call_set_wid {l : Addr} {items : Array Value} {ks : List (Addr × List Int)} {Q : Value → Shared → Prop} (hh : A.handled = none) (hl : s.heap.IsList l items) (hit : items.toList = ks.map fun p => Value.ref p.1)
    (hk : ∀ p ∈ ks, IsT P w s.heap p.2 p.1) (few : ks.length ≤ 1000) (nd : (ks.map fun p => thash P w p.2).Nodup) (hu : A.units + 3 < cLine)
    (h : ∀ (h' : Heap) (tk : Nat) es ep t, Wid P w h' s.heap.objs.size ks.reverse es ep t → (∀ b o, s.heap.get? b = some o → h'.get? b = some o) → Q (.ref s.heap.objs.size) { s with heap := h', toks := tk }) :
    wpAny (model P w) A (call (.type "set") [.ref l]) Q E s := by
  have hisz : items.size = ks.length := by
    have := congrArg List.length hit
    rwa [Array.length_toList, List.length_map] at this
  have hval : ∀ (i : Nat) (v : Value), items[i]? = some v → ∃ p, ks[i]? = some p ∧ v = .ref p.1 := fun i v hv => by
    rw [← Array.getElem?_toList, hit, List.getElem?_map] at hv
    obtain ⟨p, hp, e⟩ := Option.map_eq_some_iff.mp hv
    exact ⟨p, hp, e.symm⟩
  have none_of : ∀ b, s.heap.objs.size ≤ b → s.heap.get? b = none := fun b hb => by
    cases q : s.heap.get? b with
    | none => rfl
    | some o => exact absurd (Nat.lt_of_lt_of_le (Heap.lt_size q) hb) (Nat.lt_irrefl _)
  generalize hH1 : s.heap.push (newS w) = H1
  have hS : H1.get? s.heap.objs.size = some (newS w) := by rw [← hH1]; exact Heap.get?_push_size _ rfl
  have hz1 : H1.objs.size = s.heap.objs.size + 1 := by rw [← hH1]; exact Heap.size_push ..
  have old : ∀ b o, s.heap.get? b = some o → H1.get? b = some o := fun b o e => by rw [← hH1]; exact Heap.get?_push_of_some _ e
  obtain ⟨c, tl, hmro⟩ := F.called_set.mro
  have hmade := F.called_set.made
  have hsub := F.called_set.sub
  refine wpAny_call (codeAny_of_tree ?_)
  show wpAny _ _ (callAny (.type "set") _) _ _ _
  refine wpAny_pure ⟨Code.quiet_builtin _ (by decide +kernel), codeAny_builtin F.entry_type_call ?_⟩
  rw [Around.under_plain (weight_type_call_type "set" [.ref l] []) rfl]
  have h1 := F.called_set.notType
  have h2 := F.called_set.canCreate
  have hct := F.typeCall_set_1 (.ref l)
  repeat (any_goals (first | assumption | wp_step))
  refine codeAny_mono (code_set_led1 (.ref l) (E := E) (Q₁ := fun obj s₁ => obj = .ref s.heap.objs.size ∧ s₁ = { s with heap := H1 }) ⟨rfl, by rw [← hH1]⟩) fun r s₁ hr => ?_
  rcases r with e | fl
  · exact hr
  cases fl with
  | ret obj =>
    obtain ⟨rfl, rfl⟩ := hr
    have hT : Shared.TypeIs { s with heap := H1 } (.ref s.heap.objs.size) "set" := ⟨_, hS, rfl⟩
    have hli := F.called_set.init.lookup
    have hbi := F.called_set.init.bind (.ref s.heap.objs.size)
    repeat (any_goals (first | assumption | wp_step))
    refine codeAny_mono (codeAny_call_builtin (R := wants (fun r s₂ => r = .none ∧ ∃ h' tk es ep t, s₂ = { s with heap := h', toks := tk } ∧ Wid P w h' s.heap.objs.size ks.reverse es ep t ∧ ∀ b o, s.heap.get? b = some o → h'.get? b = some o) E)
      F.called_set.init.plain F.entry_set_init (check_set_init_1 hT ?_)) fun r₂ s₂ hr₂ => ?_
    · obtain ⟨⟨ocls, odict, odata, oslots⟩, hol, hcl, nl, hdl⟩ := hl
      simp only at hcl hdl
      subst hcl hdl
      have hol' := old _ _ hol
      have hsls := F.sub_list_set
      have hslf := F.sub_list_frozenset
      have hne : (Value.type "list" == Value.type "dict") = false := by decide
      have hl1 : H1.IsList l items := ⟨_, hol', rfl, nl, rfl⟩
      unfold Builtin.«set.__init__» noKeywords Builtin.Frozenset.updateFrom
      generalize hPI : pyIter = PI
      wp_walk
      subst hPI
      refine wpAny_pyIter_list hl1 (wpAny_bind (wpAny_runValue ?_))
      have hlS : l < s.heap.objs.size := Heap.lt_size hol
      refine wid_loop (ks := ks) (hisz ▸ (Walks.list (show A.in1.in1.in1.handled = none by simp [hh]) _ l (show l ≠ H1.objs.size from Nat.ne_of_lt (by rw [hz1]; exact Nat.lt_succ_of_lt hlS)) items).toS) s.heap.objs.size ?_ few nd hval s.heap hk (none_of _ (Nat.le_refl _)) ?_ hu (ks.length - 0) 0 _ rfl (Nat.zero_le _)
        ⟨⟨_, Heap.get?_push_size _ rfl, rfl, rfl⟩, (hl1.push _)⟩ (fun b o e => Heap.get?_push_of_some _ (old b o e)) ⟨#[], 0, _, wid_new (Heap.get?_push_of_some _ hS)⟩ ?_
      · simp only [List.mem_cons, List.not_mem_nil, or_false, not_or]
        exact ⟨by rw [hz1]; exact Nat.ne_of_lt (Nat.lt_succ_self _), Nat.ne_of_gt hlS⟩
      · intro b hb
        rw [List.mem_singleton.mp hb]
        exact none_of _ (by rw [hz1]; exact Nat.le_succ _)
      · intro s' es ep t hm hS' hkp
        obtain ⟨h', g2, d', tk', os'⟩ := s'
        obtain rfl : g2 = s.gens := hm.gens
        obtain rfl : d' = s.drawn := hm.drawn
        obtain rfl : os' = s.os := hm.os
        show wpAny _ _ _ _ _ _
        refine wpAny_pure ?_
        show wpAny _ _ (ret Value.none) _ _ _
        exact wpAny_pure ⟨rfl, h', tk', es, ep, t, rfl, hS', hkp⟩
    · rcases r₂ with e | fl₂
      · exact hr₂
      cases fl₂ with
      | ret r =>
        obtain ⟨rfl, h', tk, es, ep, t, rfl, hS', hk'⟩ := hr₂
        repeat (any_goals (first | assumption | wp_step))
        exact h _ _ _ _ _ hS' hk'
      | _ => exact hr₂.elim
  | _ => exact hr.elim
end
end GW

namespace GW
open PySem PySem.Spec PyProof.Rows L2
/-- len(set(xs)): up to 63 tuples of ints, or up to 1000 without two hashes alike -/
def tLenSetW (K : PySem.W.Frag) (ta : TE) : TE := fun σ H Q => ta σ H fun x H1 => ∃ (l : Addr) (ks : List (Addr × List Int)), x = .ref l ∧ SqL K H1 l (ks.map fun p => V.ref p.1) ∧ (∀ p ∈ ks, SqT K H1 p.1 (p.2.map V.int)) ∧
  ((ks.length < 64 ∧ ∀ L : List (Addr × List Int), (∀ p ∈ L, p ∈ ks) → (∀ p ∈ ks, p.2 ∈ L.map (·.2)) → (L.map (·.2)).Nodup → Q (.int (L.length : Nat)) H1) ∨
   (ks.length ≤ 1000 ∧ (ks.map fun p => thI p.2).Nodup ∧ Q (.int (ks.length : Nat)) H1))
theorem pe_lenSetW {X : Cx} {a : Expr} {ta : TE} {p p2 q pos : Pos} (hc : X.calm = true) (hg : Gl X "len") (hm : X.mg "len" = none) (hg2 : Gl X "set") (hm2 : X.mg "set" = none) (hu : X.A.units + 64 < cLine) (ha : PE X a ta)
    (na : starEach [a] X.env = (false, eval a X.env) :: starEach [] X.env := by rfl) : PE X (.Call (.Name "len" p) [.Call (.Name "set" p2) [a] [] q] [] pos) (tLenSetW X.K ta) := by
  refine ⟨fun pins s σ H Q I h => Call_ (ld_blt I hg hm boot_len (PyProof.Rows.callWith_builtin1 (PyProof.Rows.args_cons (Call_ (ld_blt I hg2 hm2 boot_set (PyProof.Rows.callWith_type1 (PyProof.Rows.args_cons (thn (ha.run pins s σ H _ I h) fun v s1 ⟨x, H1, I1, r1, q1⟩ => PyProof.Rows.args_nil ?_) na) na rfl))) rfl) rfl rfl))⟩
  obtain ⟨l, ks, rfl, hq, hk, q1⟩ := q1
  cases r1
  obtain ⟨its, rv, pl, hz⟩ := I1.list hq
  have hit := refs_of_vals rv
  have hkT : ∀ p ∈ ks, IsT X.prog X.w s1.heap p.2 p.1 := fun p hp => I1.isT (hk p hp)
  rcases q1 with ⟨h64, q1⟩ | ⟨few, nd, q1⟩
  · refine call_set_tups (P := X.prog) (w := X.w) ks (I1.ok.hd hc) pl.isList (by simpa using hit) hkT h64 (by omega) fun h' tk L es ep t R g kp => PyProof.Rows.args_nil ?_
    obtain ⟨o, ho, hex, hd⟩ := R.ob
    have R' : SetTR X.prog X.w (Shared.heap { s1 with heap := h', toks := tk }) s1.heap.objs.size L es ep t := R
    have hsz := R'.size (s := { s1 with heap := h', toks := tk })
    have hfew := R.few
    have I2 : Inv X pins σ H1 { s1 with heap := h', toks := tk } := I1.kept fun b o e => kp b o e
    refine call_len_set ho hex hd (R'.fits (s := { s1 with heap := h', toks := tk })) (by omega) ⟨.int es.size, H1, I2.tok _, ⟨_, rfl⟩, ?_⟩
    rw [hsz]
    exact q1 L (fun p hp => List.mem_of_mem_take (g.sub p hp)) (fun p hp => g.all p (by rw [List.take_length]; exact hp)) R.nd
  · refine call_set_wid (P := X.prog) (w := X.w) (ks := ks) (I1.ok.hd hc) pl.isList (by simpa using hit) hkT few nd (by omega) fun h' tk es ep t R kp => PyProof.Rows.args_nil ?_
    obtain ⟨o, ho, hex, hd⟩ := R.ob
    have hsz := rows_len R.rows
    rw [List.length_reverse] at hsz
    have I2 : Inv X pins σ H1 { s1 with heap := h', toks := tk } := I1.kept fun b o e => kp b o e
    refine call_len_set ho hex hd (Wid.fits (s := { s1 with heap := h', toks := tk }) R) (by omega) ⟨.int es.size, H1, I2.tok _, ⟨_, rfl⟩, ?_⟩
    rw [hsz]
    exact q1
/-! #### the hashes of the ties of up to 40 places -/
def chk : List Nat → Nat → Bool
  | [], _ => true
  | x :: xs, acc => !acc.testBit x && chk xs (acc ||| (1 <<< x))
theorem chk_spec : ∀ {xs : List Nat} {acc : Nat}, chk xs acc = true → xs.Nodup ∧ ∀ x ∈ xs, acc.testBit x = false
  | [], _, _ => ⟨List.nodup_nil, fun _ h => nomatch h⟩
  | x :: xs, acc, h => by
    have h := (Bool.and_eq_true _ _).mp h
    obtain ⟨h1, h2⟩ := chk_spec h.2
    have hx : acc.testBit x = false := by simpa using h.1
    refine ⟨List.nodup_cons.mpr ⟨fun hm => ?_, h1⟩, fun y hy => ?_⟩
    · have := h2 x hm
      rw [Nat.testBit_or, Nat.testBit_shiftLeft] at this
      simp at this
    · rcases List.mem_cons.mp hy with e | hy
      · rw [e]; exact hx
      · have := h2 y hy
        rw [Nat.testBit_or, Bool.or_eq_false_iff] at this
        exact this.1
def keyN (h : Int) : Nat := (h % 100000).toNat
def pairsN : List (Nat × Nat) := (List.range 40).flatMap fun v => (List.range v).map fun u => (u, v)
def keyP (p : Nat × Nat) : Nat := keyN (thI [(p.1 : Int), (p.2 : Int)])
theorem keys_ok : chk (pairsN.map keyP) 0 = true := by decide +kernel
theorem pairs_len : pairsN.length = 780 := by decide +kernel
theorem inj_of {α β : Type} {f : α → β} : ∀ {l : List α}, (l.map f).Nodup → ∀ a ∈ l, ∀ b ∈ l, f a = f b → a = b
  | x :: l, h, a, ha, b, hb, e => by
    obtain ⟨h1, h2⟩ := List.nodup_cons.mp h
    rcases List.mem_cons.mp ha with za | za
    · rcases List.mem_cons.mp hb with zb | zb
      · rw [za, zb]
      · exact absurd (List.mem_map.mpr ⟨b, zb, by rw [← e, za]⟩) h1
    · rcases List.mem_cons.mp hb with zb | zb
      · exact absurd (List.mem_map.mpr ⟨a, za, by rw [e, zb]⟩) h1
      · exact inj_of h2 a za b zb e
/-- ties of at most 40 places -/
def Narrow (ts : List (Int × Int)) : Prop := ∀ t ∈ ts, 0 ≤ t.1 ∧ t.1 < t.2 ∧ t.2 < 40
theorem narrow_in {t : Int × Int} (h : 0 ≤ t.1 ∧ t.1 < t.2 ∧ t.2 < 40) : (t.1.toNat, t.2.toNat) ∈ pairsN ∧ t = (((t.1.toNat : Nat) : Int), ((t.2.toNat : Nat) : Int)) := by
  refine ⟨List.mem_flatMap.mpr ⟨t.2.toNat, List.mem_range.mpr (by omega), List.mem_map.mpr ⟨t.1.toNat, List.mem_range.mpr (by omega), rfl⟩⟩, ?_⟩
  refine Prod.ext ?_ ?_
  · show t.1 = _; omega
  · show t.2 = _; omega
theorem narrow_eq {s t : Int × Int} (hs : 0 ≤ s.1 ∧ s.1 < s.2 ∧ s.2 < 40) (ht : 0 ≤ t.1 ∧ t.1 < t.2 ∧ t.2 < 40) (e : (s.1.toNat, s.2.toNat) = (t.1.toNat, t.2.toNat)) : s = t := by
  injection e with e1 e2
  exact Prod.ext (by omega) (by omega)
theorem hash_inj {s t : Int × Int} (hs : 0 ≤ s.1 ∧ s.1 < s.2 ∧ s.2 < 40) (ht : 0 ≤ t.1 ∧ t.1 < t.2 ∧ t.2 < 40) (e : thI [s.1, s.2] = thI [t.1, t.2]) : s = t := by
  obtain ⟨a1, a2⟩ := narrow_in hs
  obtain ⟨b1, b2⟩ := narrow_in ht
  have := inj_of (chk_spec keys_ok).1 _ a1 _ b1 (by
    show keyN (thI [((s.1.toNat : Nat) : Int), ((s.2.toNat : Nat) : Int)]) = keyN (thI [((t.1.toNat : Nat) : Int), ((t.2.toNat : Nat) : Int)])
    rw [show ((s.1.toNat : Nat) : Int) = s.1 by omega, show ((s.2.toNat : Nat) : Int) = s.2 by omega, show ((t.1.toNat : Nat) : Int) = t.1 by omega, show ((t.2.toNat : Nat) : Int) = t.2 by omega, e])
  exact narrow_eq hs ht this
theorem narrow_len {ts : List (Int × Int)} (h : Narrow ts) (nd : ts.Nodup) : ts.length ≤ 780 := by
  have key : ∀ (l : List (Int × Int)) (D : List (Nat × Nat)), l.Nodup → (∀ t ∈ l, 0 ≤ t.1 ∧ t.1 < t.2 ∧ t.2 < 40) → (∀ t ∈ l, (t.1.toNat, t.2.toNat) ∈ D) → l.length ≤ D.length := by
    intro l
    induction l with
    | nil => intro D _ _ _; exact Nat.zero_le _
    | cons x l ih =>
      intro D nd hn hD
      obtain ⟨h1, h2⟩ := List.nodup_cons.mp nd
      have hx := hD x List.mem_cons_self
      have := ih (D.erase (x.1.toNat, x.2.toNat)) h2 (fun t ht => hn t (List.mem_cons_of_mem _ ht)) fun t ht => (List.mem_erase_of_ne fun e => h1 (narrow_eq (hn t (List.mem_cons_of_mem _ ht)) (hn x List.mem_cons_self) e ▸ ht)).mpr (hD t (List.mem_cons_of_mem _ ht))
      rw [List.length_erase_of_mem hx] at this
      have := List.length_pos_of_mem hx
      rw [List.length_cons]
      omega
  rw [← pairs_len]
  exact key ts pairsN nd h fun t ht => (narrow_in (h t ht)).1
end GW
namespace G
open PySem L2
section
variable {K : PySem.W.Frag} {Γ : Ga} {k : Gp → Ga → Prop} {te : TE}
theorem lenSet_count {ks L : List (Addr × List Int)} {ts : List (Int × Int)} (e2 : ks.map (·.2) = ts.map (fun t => [t.1, t.2])) (h1 : ∀ p ∈ L, p ∈ ks) (h2 : ∀ p ∈ ks, p.2 ∈ L.map (·.2)) (h3 : (L.map (·.2)).Nodup) :
    L.length ≤ ts.length ∧ (L.length = ts.length ↔ ts.Nodup) := by
  have inj : ∀ {s t : Int × Int}, [s.1, s.2] = [t.1, t.2] → s = t := fun {s t} e => by
    simp at e
    exact Prod.ext e.1 e.2
  have hsub : ∀ x ∈ L.map (·.2), x ∈ ts.map (fun t => [t.1, t.2]) := fun x hx => by
    obtain ⟨p, hp, rfl⟩ := List.mem_map.mp hx
    rw [← e2]
    exact List.mem_map.mpr ⟨p, h1 p hp, rfl⟩
  have hsup : ∀ x ∈ ts.map (fun t => [t.1, t.2]), x ∈ L.map (·.2) := fun x hx => by
    rw [← e2] at hx
    obtain ⟨p, hp, rfl⟩ := List.mem_map.mp hx
    exact h2 p hp
  have hle := nodup_len _ _ h3 hsub
  rw [List.length_map, List.length_map] at hle
  refine ⟨hle, fun e => Decidable.byContradiction fun hn => ?_, fun hn => ?_⟩
  · have key : ∀ us : List (Int × Int), ¬ us.Nodup → ∃ us' : List (Int × Int), us'.length < us.length ∧ ∀ x ∈ us, x ∈ us' := fun us => by
      induction us with
      | nil => intro h; exact absurd List.nodup_nil h
      | cons a us ih =>
        intro h
        by_cases hm : a ∈ us
        · exact ⟨us, by simp, fun x hx => by
            rcases List.mem_cons.mp hx with e | hx
            · rw [e]; exact hm
            · exact hx⟩
        · obtain ⟨us', h1, h2⟩ := ih fun z => h (List.nodup_cons.mpr ⟨hm, z⟩)
          exact ⟨a :: us', by simpa using h1, fun x hx => by
            rcases List.mem_cons.mp hx with e | hx
            · simp [e]
            · simp [h2 x hx]⟩
    obtain ⟨us', h4, h5⟩ := key ts hn
    have := nodup_len _ (us'.map fun t => [t.1, t.2]) h3 fun x hx => by
      obtain ⟨t, ht, rfl⟩ := List.mem_map.mp (hsub x hx)
      exact List.mem_map.mpr ⟨t, h5 t ht, rfl⟩
    rw [List.length_map, List.length_map] at this
    omega
  · have := nodup_len (ts.map fun t => [t.1, t.2]) (L.map (·.2)) (List.Pairwise.map _ (fun a b hab e => hab (inj e)) hn) hsup
    rw [List.length_map, List.length_map] at this
    omega
/-- len(set(ties)): as many as there are different ones; up to 63, or different ones of at most 40 places -/
theorem we_lenSetW (h : WQ te Γ fun q Γ1 => ∃ ts : List (Int × Int), q = dP (.list (ts.map tieD)) ∧ (ts.length < 64 ∨ (GW.Narrow ts ∧ ts.Nodup)) ∧ ∀ m : Nat, m ≤ ts.length → (m = ts.length ↔ ts.Nodup) → k (dat (.int m)) Γ1) : WE (GW.tLenSetW K te) Γ k := by
  intro ω σ H S Q f
  refine h ω σ H S _ fun v q Γ1 ω1 H1 ⟨ts, e, hl, hk⟩ S1 p f1 => ?_
  subst e
  obtain ⟨a, xs, rfl, ha, hd⟩ := DR.lst_inv p
  obtain ⟨ks, rfl, e2, hks⟩ := ties_keys hd
  have hlen : ks.length = ts.length := by
    have := congrArg List.length e2
    simpa using this
  refine ⟨a, ks, rfl, SqL.of (vw_H ha), fun p hp => SqT.of (vw_H (hks p hp)), ?_⟩
  rcases hl with hl | ⟨hw, hn⟩
  · refine .inl ⟨by omega, fun L h1 h2 h3 => ?_⟩
    obtain ⟨c1, c2⟩ := lenSet_count e2 h1 h2 h3
    exact f _ _ Γ1 ω1 H1 (hk L.length c1 c2) S1 (DR.int _) f1
  · refine .inr ⟨by have := GW.narrow_len hw hn; omega, ?_, ?_⟩
    · have e3 : (ks.map fun p => GW.thI p.2) = ts.map fun t => GW.thI [t.1, t.2] := by
        rw [show (ks.map fun p => GW.thI p.2) = (ks.map (·.2)).map GW.thI by rw [List.map_map]; rfl, e2, List.map_map]
        rfl
      rw [e3]
      refine List.pairwise_map.mpr ?_
      have both : ∀ l : List (Int × Int), l.Nodup → (∀ t ∈ l, t ∈ ts) → l.Pairwise fun s t => GW.thI [s.1, s.2] ≠ GW.thI [t.1, t.2] := by
        intro l
        induction l with
        | nil => intro _ _; exact .nil
        | cons x l ih =>
          intro nd hs
          obtain ⟨n1, n2⟩ := List.nodup_cons.mp nd
          exact List.pairwise_cons.mpr ⟨fun y hy e => n1 (GW.hash_inj (hw x (hs x List.mem_cons_self)) (hw y (hs y (List.mem_cons_of_mem _ hy))) e ▸ hy), ih n2 fun t ht => hs t (List.mem_cons_of_mem _ ht)⟩
      exact both ts hn fun t ht => ht
    · rw [hlen]
      exact f _ _ Γ1 ω1 H1 (hk ts.length (Nat.le_refl _) ⟨fun _ => hn, fun _ => rfl⟩) S1 (DR.int _) f1
end
end G

/-! ### own things looked at as they stand; lists of fresh lists; each list grown by one -/
namespace G
open PySem L2
/-- the slots of Γ as they stand: what may be looked at -/
def Still (Γ Γ0 : Ga) : Prop := Γ0.length = Γ.length ∧ ∀ (i : Nat) (g0 : Gp), Γ0[i]? = some (some g0) → ∃ g q, Γ[i]? = some (some g) ∧ Frz g q ∧ g0 = per q
theorem we_still {Γ Γ0 : Ga} {k : Gp → Ga → Prop} {te : TE} (s : Still Γ Γ0) (h : WE te Γ0 fun g _ => ∃ d, g = dat d ∧ scal d = true ∧ k (dat d) Γ) : WE te Γ k := fun ω σ H S Q f => by
  classical
  let ω0 : Col := fun a => if ω a = 1 then 1 else 0
  have c0 : ∀ c, c ≠ 1 → Same (vw ω H c) (vw ω0 H 0) := fun c hc a o z => vw_mk (by
    show (if ω a = 1 then 1 else 0) = 0
    rw [if_neg (by rw [vw_c z]; exact hc)]) (vw_H z)
  have S0 : Sta Γ0 ω0 σ H := ⟨by rw [s.1]; exact S.1, fun i g0 hi => by
    obtain ⟨g, q, hg, fz, rfl⟩ := s.2 i g0 hi
    obtain ⟨v, e, p⟩ := S.2 i g hg
    exact ⟨v, e, fz _ _ _ _ (c0 0 (by decide)) (c0 _ (by omega)) p⟩⟩
  refine h ω0 σ H S0 _ fun v g Γ' ω' H' ⟨d, eg, hd, hk⟩ S' p fr => ?_
  subst eg
  let ω2 : Col := fun a => if (H a).isSome then ω a else 1
  have keep : ∀ c, Same (vw ω H c) (vw ω2 H' c) := fun c a o z => by
    have hH := vw_H z
    have hc := vw_c z
    refine vw_mk (by show (if (H a).isSome then ω a else 1) = c; rw [hH]; exact hc) ?_
    by_cases h1 : ω a = 1
    · exact vw_H (fr.2 a o (vw_mk (by show (if ω a = 1 then 1 else 0) = 1; rw [if_pos h1]) hH))
    · exact vw_H (fr.1 a o (vw_mk (by show (if ω a = 1 then 1 else 0) = 0; rw [if_neg h1]) hH))
  exact f v (dat d) Γ ω2 H' hk (S.move (keep 0) fun i _ _ => keep _) (DR.scal hd p) ⟨keep 0, keep 1⟩
section
variable {K : PySem.W.Frag} {P : Nat → Bool} {Γ : Ga} {D : Pe} {k : Gp → Ga → Prop} {te : TE} {g : TG}
end
inductive StillL : Ga → Ga → Prop
  | nil : StillL [] []
  | non {o : Option Gp} {Γ Γ0 : Ga} : StillL Γ Γ0 → StillL (o :: Γ) (none :: Γ0)
  | per {q : Per} {Γ Γ0 : Ga} : StillL Γ Γ0 → StillL (some (per q) :: Γ) (some (per q) :: Γ0)
  | frz {g : Gp} {q : Per} {Γ Γ0 : Ga} : Frz g q → StillL Γ Γ0 → StillL (some g :: Γ) (some (per q) :: Γ0)
theorem StillL.still : ∀ {Γ Γ0 : Ga}, StillL Γ Γ0 → Still Γ Γ0
  | _, _, .nil => ⟨rfl, fun i g0 h => by simp at h⟩
  | _, _, .non t => ⟨by simp [t.still.1], fun i g0 h => by
    match i, h with
    | 0, h => cases h
    | i + 1, h => exact t.still.2 i g0 (by simpa using h)⟩
  | _, _, .per t => ⟨by simp [t.still.1], fun i g0 h => by
    match i, h with
    | 0, h => cases h; exact ⟨_, _, rfl, frz_per, rfl⟩
    | i + 1, h => exact t.still.2 i g0 (by simpa using h)⟩
  | _, _, .frz z t => ⟨by simp [t.still.1], fun i g0 h => by
    match i, h with
    | 0, h => cases h; exact ⟨_, _, rfl, z, rfl⟩
    | i + 1, h => exact t.still.2 i g0 (by simpa using h)⟩
end G

/-! ### an own list lent for an expression that makes a list of pairs; an own list handed to a constructor -/
namespace G
open PySem L2
theorem ties_move {A A' : Hp} (s : ∀ (a : Addr) (xs : List V), A a = some (.tup xs) → A' a = some (.tup xs)) : ∀ {ps : List (Int × Int)} {vs : List V}, DRs A vs (ps.map tieD) → DRs A' vs (ps.map tieD)
  | [], _, h => by cases h; exact .nil
  | t :: ps, _, h => by
    cases h with | cons x y =>
    obtain ⟨_, a, rfl, ha⟩ := key_tie x
    exact .cons (.tup (s _ _ ha) (.cons (.int _) (.cons (.int _) .nil))) (ties_move s y)
section
variable {K : PySem.W.Frag} {Γ Γ0 : Ga} {k : Gp → Ga → Prop} {te : TE} {tr : TA} {C : Addr} {E : XK} {F : Fw}
/-- Γ0: slot i of Γ as it stands, and what is frozen -/
def Lent1 (i : Nat) (ds : List PyData) (Γ Γ0 : Ga) : Prop := Γ[i]? = some (some (own ds)) ∧ Γ0.length = Γ.length ∧ ∀ (j : Nat) (g0 : Gp), Γ0[j]? = some (some g0) → (j = i ∧ g0 = dat (.list ds)) ∨ ∃ q, g0 = per q ∧ Γ[j]? = some (some (per q))
theorem we_lendT {i : Nat} {ds : List PyData} (s : Lent1 i ds Γ Γ0) (h : WE te Γ0 fun g _ => ∃ ps : List (Int × Int), g = own (ps.map tieD) ∧ k (own (ps.map tieD)) Γ) : WE te Γ k := fun ω σ H S Q f => by
  classical
  obtain ⟨v0, ev, L, xs, rfl, hL, hx⟩ := S.2 i _ s.1
  let ω0 : Col := fun a => if a = L ∨ ω a = 0 then 0 else 1
  have k0 : Same (vw ω H 0) (vw ω0 H 0) := fun a o z => vw_mk (by show (if _ then 0 else 1) = 0; rw [if_pos (.inr (vw_c z))]) (vw_H z)
  have S0 : Sta Γ0 ω0 σ H := ⟨by rw [s.2.1]; exact S.1, fun j g0 hj => by
    rcases s.2.2 j g0 hj with ⟨rfl, rfl⟩ | ⟨q, rfl, hq⟩
    · exact ⟨_, ev, DR.lst (vw_mk (by show (if _ then 0 else 1) = 0; rw [if_pos (.inl rfl)]) (vw_H hL)) (hx.mono k0)⟩
    · obtain ⟨v, e, p⟩ := S.2 j _ hq
      exact ⟨v, e, q.mono k0 p⟩⟩
  refine h ω0 σ H S0 _ fun v g Γ' ω' H' ⟨ps, eg, hk⟩ S' p fr => ?_
  subst eg
  obtain ⟨r, vs, rfl, hr, hd⟩ := p
  -- what was, is, and its colour is 0 or 1
  have was : ∀ a o, H a = some o → H' a = some o ∧ (ω' a = 0 → a = L ∨ ω a = 0) ∧ ω' a ≠ 2 := fun a o z => by
    by_cases c : a = L ∨ ω a = 0
    · have y := fr.1 a o (vw_mk (by show (if _ then 0 else 1) = 0; rw [if_pos c]) z)
      exact ⟨vw_H y, fun _ => c, by rw [vw_c y]; decide⟩
    · have y := fr.2 a o (vw_mk (by show (if _ then 0 else 1) = 1; rw [if_neg c]) z)
      exact ⟨vw_H y, fun e => absurd ((vw_c y).symm.trans e) (by decide), by rw [vw_c y]; decide⟩
  let ω2 : Col := fun a => if (H a).isSome then ω a else ω' a
  have keep : ∀ c, Same (vw ω H c) (vw ω2 H' c) := fun c a o z => vw_mk (by show (if (H a).isSome = true then ω a else ω' a) = c; rw [vw_H z]; exact (if_pos rfl).trans (vw_c z)) (was a o (vw_H z)).1
  have hrn : H r = none := by
    cases e : H r with
    | none => rfl
    | some o => exact absurd (vw_c hr) (was r o e).2.2
  refine f (.ref r) (own (ps.map tieD)) Γ ω2 H' hk (S.move (keep 0) fun i _ _ => keep _) ⟨r, vs, rfl, vw_mk (by show (if (H r).isSome = true then ω r else ω' r) = 2; rw [hrn, if_neg (by simp)]; exact vw_c hr) (vw_H hr), ties_move (fun a ys z => ?_) hd⟩ ⟨keep 0, keep 1⟩
  refine vw_mk ?_ (vw_H z)
  show (if (H a).isSome = true then ω a else ω' a) = 0
  cases e : H a with
  | none => rw [if_neg (by simp)]; exact vw_c z
  | some o =>
    obtain ⟨w1, w2, _⟩ := was a o e
    rcases w2 (vw_c z) with c | c
    · subst c
      rw [vw_H z] at w1
      rw [vw_H hL] at e
      cases e
      cases w1
    · exact (if_pos rfl).trans c
end
end G

namespace G
open PySem L2
local macro_rules | `(tactic| walk_at "g1") => `(tactic| first
  | (with_reducible show WE _ _ _; with_reducible first | refine we_var (by with_unfolding_all exact rfl) ?_ | (show WE (tOp _ _ _) _ _; first | refine we_ixS (by with_unfolding_all exact rfl) ?_ | refine we_ixScr (by with_unfolding_all exact rfl) ?_ | refine we_inS (by with_unfolding_all exact rfl) ?_ | refine we_notInS (by with_unfolding_all exact rfl) ?_ | refine we_eqS (by with_unfolding_all exact rfl) ?_ | refine we_neS (by with_unfolding_all exact rfl) ?_ | refine we_opK ?_) | (show WE (tCB _ _) _ _; first | refine we_lenS' (by with_unfolding_all exact rfl) ?_ | refine we_lenScr (by with_unfolding_all exact rfl) ?_ | refine we_cbK ?_) | refine we_int ?_ | refine we_bl ?_ | refine we_non ?_ | refine we_str ?_ | refine we_neg ?_ | refine we_not ?_ | refine we_and ?_ | refine we_or ?_ | refine we_if ?_ | refine we_tup ?_ | refine we_lst ?_ | refine we_call ?_ | refine we_mt (by with_unfolding_all exact rfl) ?_)
  | (with_reducible show WS _ _ _ _; with_reducible first | refine ws_seqA ?_ | refine ws_seqD ?_ | refine ws_asg (by with_unfolding_all exact rfl) ?_ | refine ws_asgG ?_ | refine ws_if ?_ | refine ws_ret ?_ | refine ws_drop ?_ | refine ws_next ?_ | refine ws_retN ?_)
  | (with_reducible show WT _ _ _; with_reducible first | refine wt_test ?_ | refine wt_B ?_ | refine wt_not ?_ | refine wt_and ?_ | refine wt_or ?_ | refine wt_yes ?_)
  | (with_reducible show WA _ _ _; with_reducible first | refine wa_nil ?_ | refine wa_cons (wq_of (we_var (by with_unfolding_all exact rfl) ?_)) | refine wa_slotU (by with_unfolding_all exact rfl) ?_ | refine wa_cons ?_)
  | (with_reducible show OpK _ _ _ _ _; with_reducible first | refine ok_plusI ?_ | refine ok_sub ?_ | refine ok_lt ?_ | refine ok_le ?_ | refine ok_gt ?_ | refine ok_ge ?_ | refine ok_eqI ?_ | refine ok_neI ?_ | refine ok_mod (by first | assumption | decide | omega) ?_ | refine ok_ixL (by with_unfolding_all exact rfl) ?_)
  | (with_reducible show CbK _ _ _ _; with_reducible first | refine ck_lenL ?_ | refine ck_lenT ?_ | refine ck_int ?_ | refine ck_intB ?_ | refine ck_max ?_ | refine ck_min ?_ | refine ck_list ?_)
  | with_reducible refine wq_of ?_
  | (with_reducible show WG _ _ _ _ _; with_reducible first | refine wg_name (by with_unfolding_all exact rfl) ?_ | refine wg_tup (by with_unfolding_all exact rfl) ?_ | refine wg_set (by with_unfolding_all exact rfl) ?_)
  | (with_reducible show WGs _ _ _ _ _; with_reducible first | refine wgs_cons ?_ | refine wgs_nil ?_)
  | with_reducible refine iteT ?_
  | with_reducible refine iteF ?_
  | with_reducible refine ⟨_, frz_per, ?_⟩
  | with_reducible refine ⟨_, frz_own, ?_⟩
  | refine ⟨_, rfl, ?_⟩
  | refine ⟨_, argD1, ?_⟩
  | refine ⟨_, argD2, ?_⟩
  | refine ⟨_, argD0, ?_⟩
  | refine ⟨_, argD3, ?_⟩
  | refine ⟨_, argD4, ?_⟩
  | refine ⟨_, _, rfl, rfl, rfl, ?_⟩
  | refine ⟨_, _, _, rfl, rfl, rfl, ?_⟩
  | refine ⟨(by simp only [List.length_cons, List.length_nil]; decide), ?_⟩
  | refine ⟨rfl, nd1, ?_⟩
  | refine ⟨rfl, nd0, ?_⟩)
local macro_rules | `(tactic| walk_at "go") => `(tactic| repeat walk_at "g1")
local macro_rules | `(tactic| walk_at "g2") => `(tactic| first
  | (with_reducible show WE _ _ _; with_reducible first | refine we_var (by with_unfolding_all exact rfl) ?_ | (show WE (tOp _ _ _) _ _; first | refine we_notN ?_ | refine we_ixS (by with_unfolding_all exact rfl) ?_ | refine we_ixScr (by with_unfolding_all exact rfl) ?_ | refine we_inS (by with_unfolding_all exact rfl) ?_ | refine we_notInS (by with_unfolding_all exact rfl) ?_ | refine we_eqS (by with_unfolding_all exact rfl) ?_ | refine we_neS (by with_unfolding_all exact rfl) ?_ | refine we_opK ?_) | (show WE (tCB _ _) _ _; first | refine we_isInt ?_ | refine we_isBl ?_ | refine we_isLst ?_ | refine we_isTup ?_ | refine we_lenO (by with_unfolding_all exact rfl) ?_ | refine we_lenS' (by with_unfolding_all exact rfl) ?_ | refine we_lenScr (by with_unfolding_all exact rfl) ?_ | refine we_cbK ?_) | refine we_chain ?_ | refine we_slice ?_ | refine we_int ?_ | refine we_bl ?_ | refine we_non ?_ | refine we_str ?_ | refine we_neg ?_ | refine we_not ?_ | refine we_and ?_ | refine we_or ?_ | refine we_if ?_ | refine we_tup ?_ | refine we_lst ?_ | refine we_call ?_ | refine we_mt (by with_unfolding_all exact rfl) ?_)
  | (with_reducible show WS _ _ _ _; with_reducible first | refine ws_seqA ?_ | refine ws_seqD ?_ | refine ws_asg (by with_unfolding_all exact rfl) ?_ | refine ws_asgG ?_ | refine ws_if ?_ | refine ws_ret ?_ | refine ws_drop ?_ | refine ws_next ?_ | refine ws_retN ?_)
  | (with_reducible show WT _ _ _; with_reducible first | refine wt_test ?_ | refine wt_B ?_ | refine wt_not ?_ | refine wt_and ?_ | refine wt_or ?_ | refine wt_yes ?_)
  | (with_reducible show WA _ _ _; with_reducible first | refine wa_nil ?_ | refine wa_cons (wq_of (we_var (by with_unfolding_all exact rfl) ?_)) | refine wa_slotU (by with_unfolding_all exact rfl) ?_ | refine wa_cons ?_)
  | (with_reducible show OpK _ _ _ _ _; with_reducible first | refine ok_isB ?_ | refine ok_notB ?_ | refine ok_plusI ?_ | refine ok_sub ?_ | refine ok_lt ?_ | refine ok_le ?_ | refine ok_gt ?_ | refine ok_ge ?_ | refine ok_eqI ?_ | refine ok_neI ?_ | refine ok_mod (by first | assumption | decide | omega) ?_ | refine ok_ixL (by with_unfolding_all exact rfl) ?_)
  | (with_reducible show CbK _ _ _ _; with_reducible first | refine ck_lenL ?_ | refine ck_lenT ?_ | refine ck_int ?_ | refine ck_intB ?_ | refine ck_max ?_ | refine ck_min ?_ | refine ck_list ?_)
  | with_reducible refine wq_of ?_
  | (with_reducible show WG _ _ _ _ _; with_reducible first | refine wg_name (by with_unfolding_all exact rfl) ?_ | refine wg_tup (by with_unfolding_all exact rfl) ?_ | refine wg_set (by with_unfolding_all exact rfl) ?_)
  | (with_reducible show WGs _ _ _ _ _; with_reducible first | refine wgs_cons ?_ | refine wgs_nil ?_)
  | (with_reducible show WO _ _ _; with_reducible first | refine wo_some ?_ | refine wo_none ?_)
  | refine ⟨_, argD5, ?_⟩
  | refine ⟨_, argD6, ?_⟩
  | refine ⟨_, argD7, ?_⟩
  | refine ⟨_, argD9, ?_⟩
  | with_reducible refine iteT ?_
  | with_reducible refine iteF ?_
  | with_reducible refine ⟨_, frz_per, ?_⟩
  | with_reducible refine ⟨_, frz_own, ?_⟩
  | refine ⟨_, rfl, ?_⟩
  | refine ⟨_, argD1, ?_⟩
  | refine ⟨_, argD2, ?_⟩
  | refine ⟨_, argD0, ?_⟩
  | refine ⟨_, argD3, ?_⟩
  | refine ⟨_, argD4, ?_⟩
  | refine ⟨_, _, rfl, rfl, rfl, ?_⟩
  | refine ⟨_, _, _, rfl, rfl, rfl, ?_⟩
  | refine ⟨(by simp only [List.length_cons, List.length_nil]; decide), ?_⟩
  | refine ⟨rfl, nd1, ?_⟩
  | refine ⟨rfl, nd0, ?_⟩)
local macro_rules | `(tactic| walk_at "g2") => `(tactic| first | with_reducible refine we_isInt ?_ | with_reducible refine we_isBl ?_ | with_reducible refine we_isLst ?_ | with_reducible refine we_isTup ?_ | with_reducible refine we_chain ?_ | with_reducible refine we_lenO (by with_unfolding_all exact rfl) ?_ | with_reducible refine we_lenSetW ?_ | with_reducible refine we_slice ?_ | with_reducible refine wo_some ?_ | with_reducible refine wo_none ?_ | walk_at "g1")
abbrev t_check_web_0 (K : PySem.W.Frag) (a : Ad) (E : XK) : TS :=
  (tSeq (tIfS (tNot (tB (tCB (rAllA K) (tCons (tLc (iList K (tVar 1)) (gName 2) tYes (tCall (sp_is_tie K) [] E0 (tCons (tVar 0) (tCons (tVar 2) tNil))) [2]) tNil)))) (tRaise E (.ref a.C_InvalidWeb)) tNext)
    (tIfS (tTest (tOp (rLtI) (GW.tLenSetW K (tVar 1)) (tCB (rLenA K) (tCons (tVar 1) tNil)))) (tRaise E (.ref a.C_InvalidWeb)) tNext))
abbrev t_check_web_1 (K : PySem.W.Frag) (a : Ad) (E : XK) : TS :=
  (tSeq (tIfS (tNot (tB (tCB (rIsiA K) (tCons (tVar 1) (tCons (tC (.ty "list")) tNil))))) (tRaise E (.ref a.C_InvalidWeb)) tNext)
    (t_check_web_0 K a E))
def t_check_web (K : PySem.W.Frag) (a : Ad) (E : XK) : TS :=
  (tSeq (tIfS (tNot (tB (tCall (sp_is_count K) [] E0 (tCons (tVar 0) tNil)))) (tRaise E (.ref a.C_InvalidWeb)) tNext)
    (t_check_web_1 K a E))
abbrev N_check_web : List Str := ["places", "ties", "tie"]
/-- right values for a web, ts its ties as they were passed -/
def WebOk (p d : PyData) : Prop := ∃ (n : Nat) (ts : List (Int × Int)), p = .int n ∧ d = .list (ts.map tieD) ∧ (∀ t ∈ ts, 0 ≤ t.1 ∧ t.1 < t.2 ∧ t.2 < n) ∧ ts.Nodup
theorem tie_of {n : Int} : ∀ {d : PyData}, tieB n d = true → ∃ t : Int × Int, d = tieD t ∧ 0 ≤ t.1 ∧ t.1 < t.2 ∧ t.2 < n := fun {d} h => by
  unfold tieB at h
  split at h
  · rename_i u v
    simp only [Bool.and_eq_true, decide_eq_true_eq] at h
    exact ⟨(u, v), rfl, h.1, h.2.2.1, h.2.2.2⟩
  · cases h
theorem tie_to {n : Int} {t : Int × Int} (h : 0 ≤ t.1 ∧ t.1 < t.2 ∧ t.2 < n) : tieB n (tieD t) = true := by
  show (decide (0 ≤ t.1) && (decide (0 ≤ t.2) && (decide (t.1 < t.2) && decide (t.2 < n)))) = true
  rw [decide_eq_true h.1, decide_eq_true (by omega : 0 ≤ t.2), decide_eq_true h.2.1, decide_eq_true h.2.2]
  rfl
theorem ties_of {n : Int} : ∀ {ds : List PyData}, ds.all (tieB n) = true → ∃ ts : List (Int × Int), ds = ts.map tieD ∧ ∀ t ∈ ts, 0 ≤ t.1 ∧ t.1 < t.2 ∧ t.2 < n
  | [], _ => ⟨[], rfl, by simp⟩
  | d :: ds, h => by
    rw [List.all_cons, Bool.and_eq_true] at h
    obtain ⟨t, e, ht⟩ := tie_of h.1
    obtain ⟨ts, es, hts⟩ := ties_of h.2
    exact ⟨t :: ts, by rw [e, es]; rfl, fun x hx => by
      rcases List.mem_cons.mp hx with e | hx
      · rw [e]; exact ht
      · exact hts x hx⟩
/-- right values for a web of at most 40 places -/
def WideD (p d : PyData) : Prop := ∃ (n : Nat) (ts : List (Int × Int)), p = .int n ∧ n ≤ 40 ∧ d = .list (ts.map tieD) ∧ (∀ t ∈ ts, 0 ≤ t.1 ∧ t.1 < t.2 ∧ t.2 < n) ∧ ts.Nodup
theorem tieD_inj {s t : Int × Int} (h : tieD s = tieD t) : s = t := by
  unfold tieD at h
  simp at h
  exact Prod.ext h.1 h.2
theorem ties_inj : ∀ {s t : List (Int × Int)}, s.map tieD = t.map tieD → s = t
  | [], [], _ => rfl
  | [], _ :: _, h => by simp at h
  | _ :: _, [], h => by simp at h
  | a :: s, b :: t, h => by
    simp only [List.map_cons, List.cons.injEq] at h
    rw [tieD_inj h.1, ties_inj h.2]
def F_check_web (a : Ad) : Fw := fun gs kk xx => ∃ p d, gs = [dat p, dat d] ∧ (∀ ds, d = .list ds → ds.length < 64 ∨ WideD p d) ∧ (WebOk p d → kk (dat .none) [none, none]) ∧ (¬ WebOk p d → xx (.ref a.C_InvalidWeb) [none, none])
abbrev sp_check_web (K : PySem.W.Frag) (a : Ad) : Sp := SpG 2 (F_check_web a)
theorem pure_check_web {K : PySem.W.Frag} {a : Ad} (c : Clf K a) {vs : List V} {H : Hp} {Q : VK} {E : XK} (h : sp_check_web K a vs H Q E) : t_check_web K a E { nx := fun _ H' => Q .non H', rt := Q } (start N_check_web vs) H := by
  refine body_okX (fun _ => false) ?_ h
  rintro gs kk xx ⟨p, d, rfl, hs, hk, hr⟩ -
  unfold t_check_web
  have bad : ∀ {Γ : Ga}, Γ.length = 3 → ¬ WebOk p d → ∃ Γp, Les (mask (fun _ => false) 2 Γ) Γp ∧ xx (.ref a.C_InvalidWeb) Γp := fun _ e => ⟨[none, none], les_none (les_none les_nil), hr e⟩
  refine wsx_seq (wsx_if ?_)
  repeat walk_at "g2"
  cases hp : cntD p with
  | false => exact iteT (wsx_raise (bad rfl fun ⟨n, ts, e, _⟩ => by
      rw [e] at hp
      simp [cntD] at hp))
  | true =>
    obtain ⟨n, rfl⟩ : ∃ n : Nat, p = .int n := by
      cases p <;> first | exact Bool.noConfusion hp | skip
      rename_i i
      exact ⟨i.toNat, by rw [Int.toNat_of_nonneg (of_decide_eq_true hp)]⟩
    refine iteF (wsx_of (ws_next (wsx_seq (wsx_if ?_))))
    repeat walk_at "g2"
    cases ht : isLst d with
    | false => exact iteT (wsx_raise (bad rfl fun ⟨n, ts, _, e, _⟩ => by
        rw [e] at ht
        exact Bool.noConfusion ht))
    | true =>
      obtain ⟨ds, rfl⟩ : ∃ ds, d = .list ds := by
        cases d <;> first | exact ⟨_, rfl⟩ | exact Bool.noConfusion ht
      have hl := hs ds rfl
      have hl0 : ds.length < 1000 := by
        rcases hl with h | ⟨n0, ts0, e1, h40, e2, hv, hnd⟩
        · omega
        · obtain rfl : ds = ts0.map tieD := PyData.list.inj e2
          have := GW.narrow_len (fun t ht => by have := hv t ht; omega) hnd
          rw [List.length_map]
          omega
      refine iteF (wsx_of (ws_next (wsx_seq (wsx_if ?_))))
      repeat walk_at "g2"
      refine we_lc (fun i acc Γ => acc = (ds.take i).map (fun d => .bool (tieB n d)) ∧ Γ = [some (dat (.int n)), some (dat (.list ds)), none]) ?_
      refine wi_list ?_
      repeat walk_at "g2"
      refine ⟨⟨rfl, rfl⟩, ?_, ?_⟩
      · rintro acc Γ2 ⟨rfl, rfl⟩
        repeat walk_at "g2"
        rw [List.take_length]
        refine ck_allM ?_
        repeat walk_at "g2"
        cases hb : ds.all (tieB n) with
        | false => exact iteT (wsx_raise (bad rfl fun ⟨m, ts, em, e, hts, _⟩ => by
            cases e
            cases em
            have : (ts.map tieD).all (tieB n) = true := by
              rw [List.all_eq_true]
              intro x hx
              obtain ⟨t, ht, rfl⟩ := List.mem_map.mp hx
              exact tie_to (hts t ht)
            rw [this] at hb
            cases hb))
        | true =>
          obtain ⟨ts, rfl, hts⟩ := ties_of hb
          rw [List.length_map] at hl
          have hl : ts.length < 64 ∨ (GW.Narrow ts ∧ ts.Nodup) := hl.imp id fun ⟨n0, ts0, e1, h40, e2, hv, hnd⟩ => by
            obtain rfl : ts = ts0 := ties_inj (PyData.list.inj e2)
            exact ⟨fun t ht => by have := hv t ht; omega, hnd⟩
          refine iteF (wsx_of (ws_next (wsx_if ?_)))
          repeat walk_at "g2"
          refine ⟨hl, fun m hm hn => ?_⟩
          repeat walk_at "g2"
          rw [List.length_map]
          refine ite_dec (fun e => wsx_raise (bad rfl fun ⟨_, ts', _, e2, _, nd⟩ => ?_)) fun e => wsx_of (ws_next ⟨[none, none], les_none (les_none les_nil), hk ⟨n, ts, rfl, rfl, hts, hn.mp (by omega)⟩⟩)
          injection e2 with e2
          have e3 := ties_inj e2
          subst e3
          have := hn.mpr nd
          omega
      · rintro i acc Γ2 hi ⟨rfl, rfl⟩ -
        obtain ⟨x, hx⟩ := getD_of hi
        dsimp only
        rw [getD_at hx]
        refine wg_name rfl ?_
        refine wt_yes ?_
        refine iteT ?_
        repeat walk_at "g2"
        exact ⟨n, x, rfl, _, frz_per, _, rfl, by rw [List.length_map, List.length_take]; omega, (take_map hx).symm, rfl⟩
abbrev t_Web_init__0 (K : PySem.W.Frag) (a : Ad) (E : XK) : TS :=
  (tSeq (sFld K (tVar 0) (tCB (rSortA K) (tCons (tLc (iList K (tVar 2)) (gTup K 2 (gCons (gName 3) (gCons (gName 4) gNil))) tYes (tTup (tCons (tVar 3) (tCons (tVar 4) tNil))) [3, 4]) tNil)) "_ties")
    (sFld K (tVar 0) (tCall (sp_neighbour_lists K) [] E0 (tCons (tVar 1) (tCons (tFld K (tVar 0) "_ties") tNil))) "_near"))
def t_Web_init_ (K : PySem.W.Frag) (a : Ad) (E : XK) : TS :=
  (tSeq (tDrop (tCall (sp_check_web K a) [] E (tCons (tVar 1) (tCons (tVar 2) tNil))))
    (t_Web_init__0 K a E))
abbrev N_Web_init_ : List Str := ["self", "places", "ties", "u", "v"]
/-- the attributes of a web -/
def webF (n : Nat) (ts : List (Int × Int)) : List (Str × PyData) := [("_ties", .list (ts.map tieD)), ("_near", .list ((nearL n ts).map .list))]
theorem webF_put {n : Nat} {ts : List (Int × Int)} : putD "_near" (.list ((nearL n ts).map .list)) (putD "_ties" (.list (ts.map tieD)) []) = webF n ts := by
  show (if ("_ties" : Str) = "_near" then _ else _) = _
  rw [if_neg (by decide +kernel)]
  rfl
theorem webF_near {n : Nat} {ts : List (Int × Int)} : lookD "_near" (webF n ts) = some (.list ((nearL n ts).map .list)) := by
  show (if ("_ties" : Str) = "_near" then _ else if ("_near" : Str) = "_near" then _ else _) = _
  rw [if_neg (by decide +kernel), if_pos rfl]
theorem webF_ties {n : Nat} {ts : List (Int × Int)} : lookD "_ties" (webF n ts) = some (.list (ts.map tieD)) := by
  show (if ("_ties" : Str) = "_ties" then _ else _) = _
  rw [if_pos rfl]
def F_Web_init1 (a : Ad) : Fw := fun gs kk xx => ∃ p d, gs = [insG a.C_Web [], dat p, dat d] ∧ (∀ i, p = .int i → i < 100000) ∧ (∀ ds, d = .list ds → ds.length < 64 ∨ WideD p d) ∧
  (∀ (n : Nat) (ts ts' : List (Int × Int)), p = .int n → d = .list (ts.map tieD) → (∀ t ∈ ts, 0 ≤ t.1 ∧ t.1 < t.2 ∧ t.2 < n) → ts.Nodup → ts'.Perm ts → ts'.Pairwise LexLe → kk (dat .none) [some (insG a.C_Web (webF n ts')), none, none]) ∧
  (¬ WebOk p d → xx (.ref a.C_InvalidWeb) [none, none, none])
/-- .. the ties an own list, which stays one's own -/
def F_Web_init2 (a : Ad) : Fw := fun gs kk xx => ∃ (n : Nat) (ts : List (Int × Int)), gs = [insG a.C_Web [], dat (.int n), own (ts.map tieD)] ∧ n ≤ 40 ∧ (∀ t ∈ ts, 0 ≤ t.1 ∧ t.1 < t.2 ∧ t.2 < n) ∧ ts.Nodup ∧
  ∀ ts', ts'.Perm ts → ts'.Pairwise LexLe → kk (dat .none) [some (insG a.C_Web (webF n ts')), none, some (own (ts.map tieD))]
def F_Web_init_ (a : Ad) : Fw := fun gs kk xx => F_Web_init1 a gs kk xx ∨ F_Web_init2 a gs kk xx
abbrev sp_Web_init_ (K : PySem.W.Frag) (a : Ad) : Sp := SpG 3 (F_Web_init_ a)
theorem pure_Web_init_ {K : PySem.W.Frag} {a : Ad} (c : Clf K a) {vs : List V} {H : Hp} {Q : VK} {E : XK} (h : sp_Web_init_ K a vs H Q E) : t_Web_init_ K a E { nx := fun _ H' => Q .non H', rt := Q } (start N_Web_init_ vs) H := by
  refine body_okX (fun i => i == 0 || i == 2) ?_ h
  rintro gs kk xx (⟨p, d, rfl, hp, hd, hk, hr⟩ | ⟨n, ts, rfl, hn, hv, hnd, hk⟩) -
  rotate_left
  · unfold t_Web_init_
    have st : Still [some (insG a.C_Web []), some (dat (.int n)), some (own (ts.map tieD)), none, none] [none, some (dat (.int n)), some (dat (.list (ts.map tieD))), none, none] := (StillL.non (.per (.frz frz_own (.non (.non .nil))))).still
    have hl := GW.narrow_len (fun t ht => by have := hv t ht; omega) hnd
    refine wsx_of (ws_seq (ws_drop (we_still st (we_call ?_))))
    repeat walk_at "g2"
    refine ⟨_, _, rfl, fun ds e => .inr ⟨n, ts, rfl, hn, rfl, hv, hnd⟩, fun _ => ?_, fun h => (h ⟨n, ts, rfl, rfl, hv, hnd⟩).elim⟩
    refine ⟨_, rfl, rfl, ?_⟩
    show WS _ (t_Web_init__0 K a E) [some (insG a.C_Web []), some (dat (.int n)), some (own (ts.map tieD)), none, none] _
    have le : Lent1 2 (ts.map tieD) [some (insG a.C_Web []), some (dat (.int n)), some (own (ts.map tieD)), none, none] [none, some (dat (.int n)), some (dat (.list (ts.map tieD))), none, none] := ⟨rfl, rfl, fun j g0 h => by
      match j, h with
      | 0, h => cases h
      | 1, h => cases h; exact .inr ⟨_, rfl, rfl⟩
      | 2, h => cases h; exact .inl ⟨rfl, rfl⟩
      | 3, h => cases h
      | 4, h => cases h
      | j + 5, h => simp at h⟩
    refine ws_seq (ws_fld c.cl_Web c.nT (wq_of (we_lendT le ?_)))
    walk_at "g2"
    walk_at "g2"
    refine wq_of ?_
    refine we_lc (fun i acc Γ => acc = (ts.take i).map tieD ∧ Γ = [none, some (dat (.int n)), some (dat (.list (ts.map tieD))), none, none]) ?_
    refine wi_list (wq_of (we_var rfl ⟨_, frz_per, _, rfl, ⟨rfl, rfl⟩, ?_, ?_⟩))
    · rintro acc Γ2 ⟨rfl, rfl⟩
      refine ⟨_, frz_own, ?_⟩
      refine wa_nil ?_
      refine ⟨_, argD1, ?_⟩
      rw [List.length_map, List.take_length]
      refine ck_sortP fun ts' hp hs => ?_
      refine ⟨ts', rfl, ?_⟩
      refine ⟨_, frz_own, ?_⟩
      refine ⟨_, _, rfl, rfl, (by decide), ?_⟩
      refine ws_fld c.cl_Web c.nN (wq_of (we_call ?_))
      refine wa_cons (wq_of (we_var rfl ⟨_, frz_per, ?_⟩))
      refine wa_cons (wq_of (we_fldI c.cl_Web c.nT rfl rfl ⟨_, frz_per, ?_⟩))
      refine wa_nil ⟨rfl, nd0, n, ts', rfl, by omega, ?_, fun t ht => hv t (hp.mem_iff.mp ht), ?_⟩
      · rw [hp.length_eq]; omega
      refine ⟨_, frz_own2, _, _, rfl, rfl, (by show (1 : Nat) < 1000; decide), ?_⟩
      refine ⟨_, les_some Ent.refl (les_none (les_some Ent.refl les_nil)), ?_⟩
      rw [webF_put]
      exact hk ts' hp hs
    · rintro i acc Γ2 hi ⟨rfl, rfl⟩ -
      rw [List.length_map] at hi
      obtain ⟨t, ht⟩ := getD_of hi
      have e : (ts.map tieD).getD i .none = tieD t := getD_at (by rw [List.getElem?_map, ht]; rfl)
      dsimp only
      rw [e]
      show WG _ _ (dP (.tuple [.int t.1, .int t.2])) _ _
      walk_at "g2"
      walk_at "g2"
      refine wg_name rfl ?_
      refine wgs_cons ?_
      refine wg_name rfl ?_
      refine wgs_nil ?_
      refine wt_yes (iteT ?_)
      refine wq_of (we_tup (wa_cons (wq_of (we_var rfl ⟨_, frz_per, wa_cons (wq_of (we_var rfl ⟨_, frz_per, wa_nil ?_⟩))⟩))))
      refine ⟨_, argD2, by show (2 : Nat) ≤ 100000; decide, _, frz_per, _, rfl, by rw [List.length_map, List.length_take]; omega, (take_map ht).symm, rfl⟩
  unfold t_Web_init_
  refine wsx_seq (wsx_call ?_)
  repeat walk_at "g2"
  refine ⟨p, d, rfl, hd, fun ⟨n, ts, e1, e2, h1, h2⟩ => ?_, fun hn => ⟨[none, none, none], les_none (les_none (les_none les_nil)), hr hn⟩⟩
  subst e1 e2
  have hl : ts.length < 1000 := by
    rcases hd _ rfl with h | ⟨n0, ts0, e1, h40, e2, hv, hnd⟩
    · rw [List.length_map] at h; omega
    · obtain rfl : ts = ts0 := ties_inj (PyData.list.inj e2)
      have := GW.narrow_len (fun t ht => by have := hv t ht; omega) hnd
      omega
  have hn := hp _ rfl
  refine wsx_of ?_
  refine ws_seq (ws_fld c.cl_Web c.nT ?_)
  walk_at "g2"
  walk_at "g2"
  walk_at "g2"
  refine wq_of ?_
  refine we_lc (fun i acc Γ => acc = (ts.take i).map tieD ∧ Γ = [some (insG a.C_Web []), some (dat (.int n)), some (dat (.list (ts.map tieD))), none, none]) ?_
  refine wi_list (wq_of (we_var rfl ⟨_, frz_per, _, rfl, ⟨rfl, rfl⟩, ?_, ?_⟩))
  · rintro acc Γ2 ⟨rfl, rfl⟩
    refine ⟨_, frz_own, ?_⟩
    refine wa_nil ?_
    refine ⟨_, argD1, ?_⟩
    rw [List.length_map, List.take_length]
    refine ck_sortP fun ts' hp hs => ?_
    refine ⟨_, frz_own, ?_⟩
    refine ⟨_, _, rfl, rfl, (by decide), ?_⟩
    refine ws_fld c.cl_Web c.nN (wq_of (we_call ?_))
    refine wa_cons (wq_of (we_var rfl ⟨_, frz_per, ?_⟩))
    refine wa_cons (wq_of (we_fldI c.cl_Web c.nT rfl rfl ⟨_, frz_per, ?_⟩))
    refine wa_nil ⟨rfl, nd0, n, ts', rfl, by omega, ?_, fun t ht => h1 t (hp.mem_iff.mp ht), ?_⟩
    · rw [hp.length_eq]; omega
    refine ⟨_, frz_own2, _, _, rfl, rfl, (by show (1 : Nat) < 1000; decide), ?_⟩
    refine ⟨_, les_some Ent.refl (les_none (les_none les_nil)), ?_⟩
    rw [webF_put]
    exact hk n ts ts' rfl rfl h1 h2 hp hs
  · rintro i acc Γ2 hi ⟨rfl, rfl⟩ -
    rw [List.length_map] at hi
    obtain ⟨t, ht⟩ := getD_of hi
    have e : (ts.map tieD).getD i .none = tieD t := getD_at (by rw [List.getElem?_map, ht]; rfl)
    dsimp only
    rw [e]
    show WG _ _ (dP (.tuple [.int t.1, .int t.2])) _ _
    walk_at "g2"
    walk_at "g2"
    refine wg_name rfl ?_
    refine wgs_cons ?_
    refine wg_name rfl ?_
    refine wgs_nil ?_
    refine wt_yes (iteT ?_)
    refine wq_of (we_tup (wa_cons (wq_of (we_var rfl ⟨_, frz_per, wa_cons (wq_of (we_var rfl ⟨_, frz_per, wa_nil ?_⟩))⟩))))
    refine ⟨_, argD2, by show (2 : Nat) ≤ 100000; decide, _, frz_per, _, rfl, by rw [List.length_map, List.length_take]; omega, (take_map ht).symm, rfl⟩
end G

namespace G
open PySem L2
/-! ### what is tied to a place, by the ties alone -/
/-- the other end at w -/
def oth (w : Int) (t : Int × Int) : Option Int := if t.1 = w then some t.2 else if t.2 = w then some t.1 else none
def nb (ts : List (Int × Int)) (w : Int) : List Int := ts.filterMap (oth w)
def nearC (n : Nat) (ts : List (Int × Int)) : List (List Int) := (List.range n).map fun (w : Nat) => nb ts w
def Valid (n : Nat) (ts : List (Int × Int)) : Prop := ∀ t ∈ ts, 0 ≤ t.1 ∧ t.1 < t.2 ∧ t.2 < n
theorem nearC_len {n : Nat} {ts : List (Int × Int)} : (nearC n ts).length = n := by unfold nearC; rw [List.length_map, List.length_range]
theorem nearC_at {n : Nat} {ts : List (Int × Int)} {w : Nat} (h : w < n) : (nearC n ts)[w]? = some (nb ts w) := by
  unfold nearC
  rw [List.getElem?_map, List.getElem?_range h]
  rfl
theorem nb_snoc {ts : List (Int × Int)} {t : Int × Int} {w : Int} : nb (ts ++ [t]) w = nb ts w ++ (oth w t).toList := by
  unfold nb
  rw [List.filterMap_append]
  cases h : oth w t with
  | none => simp [h]
  | some x => simp [h]
theorem mem_nb {n : Nat} {ts : List (Int × Int)} (hv : Valid n ts) {u v : Int} : v ∈ nb ts u ↔ (u, v) ∈ ts ∨ (v, u) ∈ ts := by
  unfold nb
  rw [List.mem_filterMap]
  constructor
  · rintro ⟨⟨a, b⟩, ht, e⟩
    unfold oth at e
    dsimp only at e
    split at e
    next h => cases e; subst h; exact .inl ht
    next h =>
      split at e
      next h2 => cases e; subst h2; exact .inr ht
      next => cases e
  · rintro (h | h)
    · exact ⟨_, h, by unfold oth; simp⟩
    · refine ⟨_, h, ?_⟩
      have := hv _ h
      unfold oth
      dsimp only at this ⊢
      rw [if_neg (by omega), if_pos rfl]
/-- put at the end of the m-th one: by places -/
theorem range_map_set {α : Type} {f : Nat → α} {n m : Nat} {x : α} (h : m < n) : ((List.range n).map f).set m x = (List.range n).map fun i => if i = m then x else f i := by
  apply List.ext_getElem?
  intro i
  rw [List.getElem?_set, List.getElem?_map, List.getElem?_map, List.length_map, List.length_range]
  by_cases hi : i < n
  · rw [List.getElem?_range hi]
    by_cases e : m = i
    · subst e
      rw [if_pos rfl, if_pos h]
      simp
    · rw [if_neg e]
      have e' : ¬ i = m := fun z => e z.symm
      simp [e']
  · have z : (List.range n)[i]? = none := List.getElem?_eq_none (by simp; omega)
    have e : ¬ m = i := by omega
    rw [z, if_neg e]
    rfl
def rowsD (ls : List (List Int)) : List (List PyData) := ls.map fun l => l.map PyData.int
theorem nearL_eq {n : Nat} : ∀ (ts : List (Int × Int)), Valid n ts → nearL n ts = rowsD (nearC n ts) := fun ts => by
  have key : ∀ (us : List (Int × Int)) (ts : List (Int × Int)), Valid n us → us.foldl nearStep (rowsD (nearC n ts)) = rowsD (nearC n (ts ++ us)) := fun us => by
    induction us with
    | nil => intro ts _; rw [List.append_nil]; rfl
    | cons t us ih =>
      intro ts hv
      have ht := hv t (by simp)
      rw [List.foldl_cons]
      have e : nearStep (rowsD (nearC n ts)) t = rowsD (nearC n (ts ++ [t])) := by
        have h1 : t.1.toNat < n := by omega
        have h2 : t.2.toNat < n := by omega
        have z1 : ((t.1.toNat : Nat) : Int) = t.1 := by omega
        have z2 : ((t.2.toNat : Nat) : Int) = t.2 := by omega
        have g : ∀ {f : Nat → List PyData} {m : Nat} {y : PyData}, m < n → putAt ((List.range n).map f) m y = (List.range n).map fun i => if i = m then f m ++ [y] else f i := fun {f m y} hm => by
          unfold putAt
          rw [List.getD_eq_getElem?_getD, List.getElem?_map, List.getElem?_range hm]
          exact range_map_set hm
        have r0 : ∀ us, rowsD (nearC n us) = (List.range n).map fun (w : Nat) => (nb us w).map PyData.int := fun us => by
          unfold rowsD nearC
          rw [List.map_map]
          rfl
        unfold nearStep
        rw [r0, r0, g h1, g h2]
        apply List.map_congr_left
        intro w hw
        rw [nb_snoc]
        have hne : ¬ t.2.toNat = t.1.toNat := by omega
        unfold oth
        by_cases a : w = t.2.toNat
        · subst a
          rw [if_pos rfl, if_neg hne, z2, if_neg (by omega), if_pos rfl]
          simp
        · rw [if_neg a]
          by_cases b : w = t.1.toNat
          · subst b
            rw [if_pos rfl, z1, if_pos rfl]
            simp
          · rw [if_neg b, if_neg (by omega), if_neg (by omega)]
            simp
      rw [e, ih (ts ++ [t]) fun x hx => hv x (by simp [hx])]
      rw [List.append_assoc]
      rfl
  intro hv
  have h0 : List.replicate n ([] : List PyData) = rowsD (nearC n []) := by
    unfold rowsD nearC nb
    rw [List.map_map]
    apply List.ext_getElem?
    intro i
    rw [List.getElem?_replicate, List.getElem?_map]
    by_cases hi : i < n
    · rw [List.getElem?_range hi, if_pos hi]; rfl
    · rw [if_neg hi, List.getElem?_eq_none (by simp; omega)]; rfl
  unfold nearL
  rw [h0, key ts [] hv]
  rfl
/-- equal lists, so equal webs -/
theorem nearC_inj {n m : Nat} {ts us : List (Int × Int)} (ht : Valid n ts) (hu : Valid m us) (st : ts.Pairwise LexLt) (su : us.Pairwise LexLt) (e : nearC n ts = nearC m us) : n = m ∧ ts = us := by
  have en : n = m := by
    have := congrArg List.length e
    rwa [nearC_len, nearC_len] at this
  subst en
  refine ⟨rfl, ?_⟩
  have em : ∀ t : Int × Int, t ∈ ts ↔ t ∈ us := fun t => by
    have one : ∀ {xs ys : List (Int × Int)}, Valid n xs → Valid n ys → nearC n xs = nearC n ys → t ∈ xs → t ∈ ys := fun {xs ys} hx hy e h => by
      have h3 := hx t h
      have a := nearC_at (ts := xs) (show t.1.toNat < n by omega)
      rw [e, nearC_at (show t.1.toNat < n by omega)] at a
      have a := Option.some.inj a
      have z : ((t.1.toNat : Nat) : Int) = t.1 := by omega
      rw [z] at a
      have h4 : t.2 ∈ nb xs t.1 := (mem_nb hx).mpr (.inl h)
      rw [← a] at h4
      rcases (mem_nb hy).mp h4 with h5 | h5
      · exact h5
      · have := hy _ h5
        dsimp only at this
        omega
    exact ⟨one ht hu e, one hu ht e.symm⟩
  have nd : ∀ {xs : List (Int × Int)}, xs.Pairwise LexLt → xs.Nodup := fun h => h.imp fun {s t} h e => by
    subst e
    unfold LexLt at h
    omega
  have le : ∀ {xs : List (Int × Int)}, xs.Pairwise LexLt → xs.Pairwise LexLe := fun h => h.imp fun {s t} h => by
    unfold LexLt at h
    unfold LexLe
    omega
  exact lex_uniq (le st) (le su) ((List.perm_ext_iff_of_nodup (nd st) (nd su)).mpr em)
theorem ties_nd {p : Int} {ts : List (Int × Int)} (h : Ties p ts) : ts.Nodup := h.srt.imp fun {s t} h e => by
  subst e
  unfold LexLt at h
  omega
theorem perm_ties {es : List PyData} {ps : List (Int × Int)} (h : es.Perm (ps.map tieD)) : ∃ ns : List (Int × Int), es = ns.map tieD ∧ ns.Perm ps := by
  let un : PyData → Int × Int := fun d => match d with
    | .tuple [.int a, .int b] => (a, b)
    | _ => (0, 0)
  have e0 : ∀ {ns : List (Int × Int)}, (ns.map tieD).map un = ns := fun {ns} => by
    rw [List.map_map]
    exact List.map_id ns
  refine ⟨es.map un, ?_, by have := h.map un; rwa [e0] at this⟩
  rw [List.map_map]
  refine (List.map_id es).symm.trans (List.map_congr_left fun d hd => ?_)
  obtain ⟨n, _, rfl⟩ := List.mem_map.mp (h.mem_iff.mp hd)
  rfl
theorem lt_le {ts : List (Int × Int)} (h : ts.Pairwise LexLt) : ts.Pairwise LexLe := h.imp fun {s t} h => by
  unfold LexLt at h
  unfold LexLe
  omega
end G

namespace G
inductive Reach (E : Int → Int → Prop) : Int → Int → Prop
  | refl (u : Int) : Reach E u u
  | step {u v x : Int} : Reach E u v → E v x → Reach E u x
section
variable {E : Int → Int → Prop} {n : Nat}
theorem Reach.trans {u v : Int} (h : Reach E u v) {x : Int} (k : Reach E v x) : Reach E u x := by
  induction k with
  | refl => exact h
  | step _ e ih => exact .step ih e
theorem Reach.rng (r : ∀ u v, E u v → 0 ≤ v ∧ v < n) {u v : Int} (h : Reach E u v) (h0 : 0 ≤ u ∧ u < n) : 0 ≤ v ∧ v < n := by
  induction h with
  | refl => exact h0
  | step _ e ih => exact r _ _ e
end
theorem lt_uniq : ∀ {a b : List Int}, a.Pairwise (· < ·) → b.Pairwise (· < ·) → (∀ x, x ∈ a ↔ x ∈ b) → a = b
  | [], [], _, _, _ => rfl
  | [], y :: b, _, _, h => absurd ((h y).mpr List.mem_cons_self) (by simp)
  | x :: a, [], _, _, h => absurd ((h x).mp List.mem_cons_self) (by simp)
  | x :: a, y :: b, ha, hb, h => by
    obtain ⟨a1, a2⟩ := List.pairwise_cons.mp ha
    obtain ⟨b1, b2⟩ := List.pairwise_cons.mp hb
    have e : x = y := by
      rcases List.mem_cons.mp ((h x).mp List.mem_cons_self) with e | e
      · exact e
      · rcases List.mem_cons.mp ((h y).mpr List.mem_cons_self) with e' | e'
        · exact e'.symm
        · have := b1 _ e; have := a1 _ e'; omega
    subst e
    rw [lt_uniq a2 b2 fun z => ⟨fun hz => by
      rcases List.mem_cons.mp ((h z).mp (List.mem_cons_of_mem _ hz)) with e | e
      · have := a1 _ hz; omega
      · exact e, fun hz => by
      rcases List.mem_cons.mp ((h z).mpr (List.mem_cons_of_mem _ hz)) with e | e
      · have := b1 _ hz; omega
      · exact e⟩]
end G

/-! ### sorted(set(xs)), xs a list of ints -/
namespace GSL
open PySem PySem.Spec PyProof.Rows L2
section
variable {P : Program} {w : World} {A : Around} {E : Value → Shared → Prop} {s : Shared}
end
end GSL
namespace G
open PySem PySem.Spec PyProof.Rows L2
end G

/-! ### {k: v} of two ints -/
namespace G
open PySem L2
end G

/-! ### a list of anything held against [] -/
namespace G
open PySem PySem.Spec PyProof.Rows L2
end G

/-! ### {e for a in as for b in bs}, of ints -/
namespace GS2
open PySem PySem.Spec PyProof.Rows L2
abbrev two (el ta ia tb ib : Expr) (sc : Scope) (ps : Pos) : Expr := .SetComp el [⟨ta, ia, [], 0⟩, ⟨tb, ib, [], 0⟩] sc ps
section
variable {prog : Program} {w : World} {A : Around} {R : Result → Shared → Prop} {s : Shared} {el ta ia tb ib : Expr} {sc : Scope} {ps : Pos} {it acc : Value} {env : Env}
end
section
variable {X : Cx}
end
end GS2

/-! ### sorted({h for l in ls for h in l}) of lists of ints -/
namespace GS2
open PySem PySem.Spec PyProof.Rows L2
end GS2
namespace G
open PySem PySem.Spec PyProof.Rows L2 GS2
end G

/-! ### sorted of a list of lists of ints -/
namespace GSM
open PySem PySem.Spec PyProof.Rows L2
end GSM
namespace G
open PySem PySem.Spec PyProof.Rows L2 GSM
def keyN (H : Hp) : V → List Int
  | .ref a => match H a with | some (.lst vs) => vs.map (fun v => match v with | .int i => i | _ => 0) | _ => []
  | _ => []
end G

namespace G
open GSM
/-! ### places numbered anew -/
structure Ord (n : Nat) (os : List Int) (π σ : Int → Int) : Prop where
  len : os.length = n
  at_ : ∀ x : Int, 0 ≤ x → x < n → os[x.toNat]? = some (π x)
  rng : ∀ x : Int, 0 ≤ x → x < n → 0 ≤ π x ∧ π x < n
  back : ∀ x : Int, 0 ≤ x → x < n → 0 ≤ σ x ∧ σ x < n
  sp : ∀ x : Int, 0 ≤ x → x < n → σ (π x) = x
  ps : ∀ x : Int, 0 ≤ x → x < n → π (σ x) = x
theorem Ord.turn {n : Nat} {os : List Int} {π σ : Int → Int} (O : Ord n os π σ) (bs : List Int) (hb : bs = (List.range n).map fun i : Nat => σ (i : Int)) : Ord n bs σ π := by
  subst hb
  refine ⟨by rw [List.length_map, List.length_range], fun x x0 x1 => ?_, O.back, O.rng, O.ps, O.sp⟩
  rw [List.getElem?_map, List.getElem?_range (by omega)]
  simp [Int.toNat_of_nonneg x0]
def mvT (π : Int → Int) (t : Int × Int) : Int × Int := (if π t.2 < π t.1 then π t.2 else π t.1, if π t.2 > π t.1 then π t.2 else π t.1)
section
variable {n : Nat} {os : List Int} {π σ : Int → Int} {ts ms : List (Int × Int)}
theorem Ord.inj (O : Ord n os π σ) {x y : Int} (x0 : 0 ≤ x) (x1 : x < n) (y0 : 0 ≤ y) (y1 : y < n) (e : π x = π y) : x = y := by
  rw [← O.sp x x0 x1, ← O.sp y y0 y1, e]
theorem Ord.ok (O : Ord n os π σ) {t : Int × Int} (h : 0 ≤ t.1 ∧ t.1 < t.2 ∧ t.2 < n) : 0 ≤ (mvT π t).1 ∧ (mvT π t).1 < (mvT π t).2 ∧ (mvT π t).2 < n := by
  have h1 := O.rng t.1 (by omega) (by omega)
  have h2 := O.rng t.2 (by omega) (by omega)
  have h3 : π t.1 ≠ π t.2 := fun e => by have := O.inj (by omega) (by omega) (by omega) (by omega) e; omega
  unfold mvT
  dsimp only
  split <;> split <;> omega
theorem Ord.cases (O : Ord n os π σ) {t : Int × Int} (h : 0 ≤ t.1 ∧ t.1 < t.2 ∧ t.2 < n) : mvT π t = (π t.1, π t.2) ∨ mvT π t = (π t.2, π t.1) := by
  have h3 : π t.1 ≠ π t.2 := fun e => by have := O.inj (by omega) (by omega) (by omega) (by omega) e; omega
  unfold mvT
  by_cases c : π t.2 < π t.1
  · rw [if_pos c, if_neg (by omega)]; exact .inr rfl
  · rw [if_neg c, if_pos (by omega)]; exact .inl rfl
theorem Ord.mv_mv (O : Ord n os π σ) {t : Int × Int} (h : 0 ≤ t.1 ∧ t.1 < t.2 ∧ t.2 < n) : mvT σ (mvT π t) = t := by
  have h1 := O.sp t.1 (by omega) (by omega)
  have h2 := O.sp t.2 (by omega) (by omega)
  have e : t = (t.1, t.2) := rfl
  rcases O.cases h with c | c <;> rw [c] <;> unfold mvT <;> dsimp only <;> rw [h1, h2]
  · rw [if_neg (by omega), if_pos (by omega)]
  · rw [if_pos (by omega), if_neg (by omega)]
theorem Ord.nd (O : Ord n os π σ) (hv : Valid n ts) (hnd : ts.Nodup) (hp : ms.Perm (ts.map (mvT π))) : ms.Nodup := by
  refine hp.nodup_iff.mpr ?_
  rw [List.Nodup, List.pairwise_map]
  refine hnd.imp_of_mem fun {a b} ha hb hne e => hne ?_
  rw [← O.mv_mv (hv a ha), ← O.mv_mv (hv b hb), e]
/-- sorted(..) of the images -/
theorem Ord.sorted (O : Ord n os π σ) {l l' zs : List Int} (hl : ∀ x ∈ l, 0 ≤ x ∧ x < n) (nd : l.Nodup) (hp : zs.Perm (l.map π)) (hs : zs.Pairwise (· ≤ ·)) (ha : l'.Pairwise (· < ·)) (hm : ∀ y, y ∈ l' ↔ ∃ x ∈ l, π x = y) : zs = l' := by
  have n2 : zs.Nodup := by
    refine hp.nodup_iff.mpr ?_
    rw [List.Nodup, List.pairwise_map]
    refine nd.imp_of_mem fun {a b} ha hb hne e => hne (O.inj (hl a ha).1 (hl a ha).2 (hl b hb).1 (hl b hb).2 e)
  refine lt_uniq ((hs.and n2).imp fun {a b} ⟨h1, h2⟩ => by omega) ha fun y => ?_
  rw [hp.mem_iff, List.mem_map, hm]
end
/-! ### and what hangs together -/
section
variable {n : Nat} {E E' : Int → Int → Prop} {os : List Int} {π σ : Int → Int}
end
end G

namespace G
open PySem L2
local macro_rules | `(tactic| walk_at "g1") => `(tactic| first
  | (with_reducible show WE _ _ _; with_reducible first | refine we_var (by with_unfolding_all exact rfl) ?_ | (show WE (tOp _ _ _) _ _; first | refine we_ixS (by with_unfolding_all exact rfl) ?_ | refine we_ixScr (by with_unfolding_all exact rfl) ?_ | refine we_inS (by with_unfolding_all exact rfl) ?_ | refine we_notInS (by with_unfolding_all exact rfl) ?_ | refine we_eqS (by with_unfolding_all exact rfl) ?_ | refine we_neS (by with_unfolding_all exact rfl) ?_ | refine we_opK ?_) | (show WE (tCB _ _) _ _; first | refine we_lenS' (by with_unfolding_all exact rfl) ?_ | refine we_lenScr (by with_unfolding_all exact rfl) ?_ | refine we_cbK ?_) | refine we_int ?_ | refine we_bl ?_ | refine we_non ?_ | refine we_str ?_ | refine we_neg ?_ | refine we_not ?_ | refine we_and ?_ | refine we_or ?_ | refine we_if ?_ | refine we_tup ?_ | refine we_lst ?_ | refine we_call ?_ | refine we_mt (by with_unfolding_all exact rfl) ?_)
  | (with_reducible show WS _ _ _ _; with_reducible first | refine ws_seqA ?_ | refine ws_seqD ?_ | refine ws_asg (by with_unfolding_all exact rfl) ?_ | refine ws_asgG ?_ | refine ws_if ?_ | refine ws_ret ?_ | refine ws_drop ?_ | refine ws_next ?_ | refine ws_retN ?_)
  | (with_reducible show WT _ _ _; with_reducible first | refine wt_test ?_ | refine wt_B ?_ | refine wt_not ?_ | refine wt_and ?_ | refine wt_or ?_ | refine wt_yes ?_)
  | (with_reducible show WA _ _ _; with_reducible first | refine wa_nil ?_ | refine wa_cons (wq_of (we_var (by with_unfolding_all exact rfl) ?_)) | refine wa_slotU (by with_unfolding_all exact rfl) ?_ | refine wa_cons ?_)
  | (with_reducible show OpK _ _ _ _ _; with_reducible first | refine ok_plusI ?_ | refine ok_sub ?_ | refine ok_lt ?_ | refine ok_le ?_ | refine ok_gt ?_ | refine ok_ge ?_ | refine ok_eqI ?_ | refine ok_neI ?_ | refine ok_mod (by first | assumption | decide | omega) ?_ | refine ok_ixL (by with_unfolding_all exact rfl) ?_)
  | (with_reducible show CbK _ _ _ _; with_reducible first | refine ck_lenL ?_ | refine ck_lenT ?_ | refine ck_int ?_ | refine ck_intB ?_ | refine ck_max ?_ | refine ck_min ?_ | refine ck_list ?_)
  | with_reducible refine wq_of ?_
  | (with_reducible show WG _ _ _ _ _; with_reducible first | refine wg_name (by with_unfolding_all exact rfl) ?_ | refine wg_tup (by with_unfolding_all exact rfl) ?_ | refine wg_set (by with_unfolding_all exact rfl) ?_)
  | (with_reducible show WGs _ _ _ _ _; with_reducible first | refine wgs_cons ?_ | refine wgs_nil ?_)
  | with_reducible refine iteT ?_
  | with_reducible refine iteF ?_
  | with_reducible refine ⟨_, frz_per, ?_⟩
  | with_reducible refine ⟨_, frz_own, ?_⟩
  | refine ⟨_, rfl, ?_⟩
  | refine ⟨_, argD1, ?_⟩
  | refine ⟨_, argD2, ?_⟩
  | refine ⟨_, argD0, ?_⟩
  | refine ⟨_, argD3, ?_⟩
  | refine ⟨_, argD4, ?_⟩
  | refine ⟨_, _, rfl, rfl, rfl, ?_⟩
  | refine ⟨_, _, _, rfl, rfl, rfl, ?_⟩
  | refine ⟨(by simp only [List.length_cons, List.length_nil]; decide), ?_⟩
  | refine ⟨rfl, nd1, ?_⟩
  | refine ⟨rfl, nd0, ?_⟩)
local macro_rules | `(tactic| walk_at "go") => `(tactic| repeat walk_at "g1")
local macro_rules | `(tactic| walk_at "g2") => `(tactic| first
  | (with_reducible show WE _ _ _; with_reducible first | refine we_var (by with_unfolding_all exact rfl) ?_ | (show WE (tOp _ _ _) _ _; first | refine we_notN ?_ | refine we_ixS (by with_unfolding_all exact rfl) ?_ | refine we_ixScr (by with_unfolding_all exact rfl) ?_ | refine we_inS (by with_unfolding_all exact rfl) ?_ | refine we_notInS (by with_unfolding_all exact rfl) ?_ | refine we_eqS (by with_unfolding_all exact rfl) ?_ | refine we_neS (by with_unfolding_all exact rfl) ?_ | refine we_opK ?_) | (show WE (tCB _ _) _ _; first | refine we_isInt ?_ | refine we_isBl ?_ | refine we_isLst ?_ | refine we_isTup ?_ | refine we_lenO (by with_unfolding_all exact rfl) ?_ | refine we_lenS' (by with_unfolding_all exact rfl) ?_ | refine we_lenScr (by with_unfolding_all exact rfl) ?_ | refine we_cbK ?_) | refine we_chain ?_ | refine we_slice ?_ | refine we_int ?_ | refine we_bl ?_ | refine we_non ?_ | refine we_str ?_ | refine we_neg ?_ | refine we_not ?_ | refine we_and ?_ | refine we_or ?_ | refine we_if ?_ | refine we_tup ?_ | refine we_lst ?_ | refine we_call ?_ | refine we_mt (by with_unfolding_all exact rfl) ?_)
  | (with_reducible show WS _ _ _ _; with_reducible first | refine ws_seqA ?_ | refine ws_seqD ?_ | refine ws_asg (by with_unfolding_all exact rfl) ?_ | refine ws_asgG ?_ | refine ws_if ?_ | refine ws_ret ?_ | refine ws_drop ?_ | refine ws_next ?_ | refine ws_retN ?_)
  | (with_reducible show WT _ _ _; with_reducible first | refine wt_test ?_ | refine wt_B ?_ | refine wt_not ?_ | refine wt_and ?_ | refine wt_or ?_ | refine wt_yes ?_)
  | (with_reducible show WA _ _ _; with_reducible first | refine wa_nil ?_ | refine wa_cons (wq_of (we_var (by with_unfolding_all exact rfl) ?_)) | refine wa_slotU (by with_unfolding_all exact rfl) ?_ | refine wa_cons ?_)
  | (with_reducible show OpK _ _ _ _ _; with_reducible first | refine ok_isB ?_ | refine ok_notB ?_ | refine ok_plusI ?_ | refine ok_sub ?_ | refine ok_lt ?_ | refine ok_le ?_ | refine ok_gt ?_ | refine ok_ge ?_ | refine ok_eqI ?_ | refine ok_neI ?_ | refine ok_mod (by first | assumption | decide | omega) ?_ | refine ok_ixL (by with_unfolding_all exact rfl) ?_)
  | (with_reducible show CbK _ _ _ _; with_reducible first | refine ck_lenL ?_ | refine ck_lenT ?_ | refine ck_int ?_ | refine ck_intB ?_ | refine ck_max ?_ | refine ck_min ?_ | refine ck_list ?_)
  | with_reducible refine wq_of ?_
  | (with_reducible show WG _ _ _ _ _; with_reducible first | refine wg_name (by with_unfolding_all exact rfl) ?_ | refine wg_tup (by with_unfolding_all exact rfl) ?_ | refine wg_set (by with_unfolding_all exact rfl) ?_)
  | (with_reducible show WGs _ _ _ _ _; with_reducible first | refine wgs_cons ?_ | refine wgs_nil ?_)
  | (with_reducible show WO _ _ _; with_reducible first | refine wo_some ?_ | refine wo_none ?_)
  | refine ⟨_, argD5, ?_⟩
  | refine ⟨_, argD6, ?_⟩
  | refine ⟨_, argD7, ?_⟩
  | refine ⟨_, argD9, ?_⟩
  | with_reducible refine iteT ?_
  | with_reducible refine iteF ?_
  | with_reducible refine ⟨_, frz_per, ?_⟩
  | with_reducible refine ⟨_, frz_own, ?_⟩
  | refine ⟨_, rfl, ?_⟩
  | refine ⟨_, argD1, ?_⟩
  | refine ⟨_, argD2, ?_⟩
  | refine ⟨_, argD0, ?_⟩
  | refine ⟨_, argD3, ?_⟩
  | refine ⟨_, argD4, ?_⟩
  | refine ⟨_, _, rfl, rfl, rfl, ?_⟩
  | refine ⟨_, _, _, rfl, rfl, rfl, ?_⟩
  | refine ⟨(by simp only [List.length_cons, List.length_nil]; decide), ?_⟩
  | refine ⟨rfl, nd1, ?_⟩
  | refine ⟨rfl, nd0, ?_⟩)
local macro_rules | `(tactic| walk_at "g2") => `(tactic| first | with_reducible refine we_isInt ?_ | with_reducible refine we_isBl ?_ | with_reducible refine we_isLst ?_ | with_reducible refine we_isTup ?_ | with_reducible refine we_chain ?_ | with_reducible refine we_lenO (by with_unfolding_all exact rfl) ?_ | with_reducible refine we_lenSetW ?_ | with_reducible refine we_slice ?_ | with_reducible refine wo_some ?_ | with_reducible refine wo_none ?_ | walk_at "g1")
end G

namespace G
open PySem L2
local macro_rules | `(tactic| walk_at "g1") => `(tactic| first
  | (with_reducible show WE _ _ _; with_reducible first | refine we_var (by with_unfolding_all exact rfl) ?_ | (show WE (tOp _ _ _) _ _; first | refine we_ixS (by with_unfolding_all exact rfl) ?_ | refine we_ixScr (by with_unfolding_all exact rfl) ?_ | refine we_inS (by with_unfolding_all exact rfl) ?_ | refine we_notInS (by with_unfolding_all exact rfl) ?_ | refine we_eqS (by with_unfolding_all exact rfl) ?_ | refine we_neS (by with_unfolding_all exact rfl) ?_ | refine we_opK ?_) | (show WE (tCB _ _) _ _; first | refine we_lenS' (by with_unfolding_all exact rfl) ?_ | refine we_lenScr (by with_unfolding_all exact rfl) ?_ | refine we_cbK ?_) | refine we_int ?_ | refine we_bl ?_ | refine we_non ?_ | refine we_str ?_ | refine we_neg ?_ | refine we_not ?_ | refine we_and ?_ | refine we_or ?_ | refine we_if ?_ | refine we_tup ?_ | refine we_lst ?_ | refine we_call ?_ | refine we_mt (by with_unfolding_all exact rfl) ?_)
  | (with_reducible show WS _ _ _ _; with_reducible first | refine ws_seqA ?_ | refine ws_seqD ?_ | refine ws_asg (by with_unfolding_all exact rfl) ?_ | refine ws_asgG ?_ | refine ws_if ?_ | refine ws_ret ?_ | refine ws_drop ?_ | refine ws_next ?_ | refine ws_retN ?_)
  | (with_reducible show WT _ _ _; with_reducible first | refine wt_test ?_ | refine wt_B ?_ | refine wt_not ?_ | refine wt_and ?_ | refine wt_or ?_ | refine wt_yes ?_)
  | (with_reducible show WA _ _ _; with_reducible first | refine wa_nil ?_ | refine wa_cons (wq_of (we_var (by with_unfolding_all exact rfl) ?_)) | refine wa_slotU (by with_unfolding_all exact rfl) ?_ | refine wa_cons ?_)
  | (with_reducible show OpK _ _ _ _ _; with_reducible first | refine ok_plusI ?_ | refine ok_sub ?_ | refine ok_lt ?_ | refine ok_le ?_ | refine ok_gt ?_ | refine ok_ge ?_ | refine ok_eqI ?_ | refine ok_neI ?_ | refine ok_mod (by first | assumption | decide | omega) ?_ | refine ok_ixL (by with_unfolding_all exact rfl) ?_)
  | (with_reducible show CbK _ _ _ _; with_reducible first | refine ck_lenL ?_ | refine ck_lenT ?_ | refine ck_int ?_ | refine ck_intB ?_ | refine ck_max ?_ | refine ck_min ?_ | refine ck_list ?_)
  | with_reducible refine wq_of ?_
  | (with_reducible show WG _ _ _ _ _; with_reducible first | refine wg_name (by with_unfolding_all exact rfl) ?_ | refine wg_tup (by with_unfolding_all exact rfl) ?_ | refine wg_set (by with_unfolding_all exact rfl) ?_)
  | (with_reducible show WGs _ _ _ _ _; with_reducible first | refine wgs_cons ?_ | refine wgs_nil ?_)
  | with_reducible refine iteT ?_
  | with_reducible refine iteF ?_
  | with_reducible refine ⟨_, frz_per, ?_⟩
  | with_reducible refine ⟨_, frz_own, ?_⟩
  | refine ⟨_, rfl, ?_⟩
  | refine ⟨_, argD1, ?_⟩
  | refine ⟨_, argD2, ?_⟩
  | refine ⟨_, argD0, ?_⟩
  | refine ⟨_, argD3, ?_⟩
  | refine ⟨_, argD4, ?_⟩
  | refine ⟨_, _, rfl, rfl, rfl, ?_⟩
  | refine ⟨_, _, _, rfl, rfl, rfl, ?_⟩
  | refine ⟨(by simp only [List.length_cons, List.length_nil]; decide), ?_⟩
  | refine ⟨rfl, nd1, ?_⟩
  | refine ⟨rfl, nd0, ?_⟩)
local macro_rules | `(tactic| walk_at "go") => `(tactic| repeat walk_at "g1")
local macro_rules | `(tactic| walk_at "g2") => `(tactic| first
  | (with_reducible show WE _ _ _; with_reducible first | refine we_var (by with_unfolding_all exact rfl) ?_ | (show WE (tOp _ _ _) _ _; first | refine we_notN ?_ | refine we_ixS (by with_unfolding_all exact rfl) ?_ | refine we_ixScr (by with_unfolding_all exact rfl) ?_ | refine we_inS (by with_unfolding_all exact rfl) ?_ | refine we_notInS (by with_unfolding_all exact rfl) ?_ | refine we_eqS (by with_unfolding_all exact rfl) ?_ | refine we_neS (by with_unfolding_all exact rfl) ?_ | refine we_opK ?_) | (show WE (tCB _ _) _ _; first | refine we_isInt ?_ | refine we_isBl ?_ | refine we_isLst ?_ | refine we_isTup ?_ | refine we_lenO (by with_unfolding_all exact rfl) ?_ | refine we_lenS' (by with_unfolding_all exact rfl) ?_ | refine we_lenScr (by with_unfolding_all exact rfl) ?_ | refine we_cbK ?_) | refine we_chain ?_ | refine we_slice ?_ | refine we_int ?_ | refine we_bl ?_ | refine we_non ?_ | refine we_str ?_ | refine we_neg ?_ | refine we_not ?_ | refine we_and ?_ | refine we_or ?_ | refine we_if ?_ | refine we_tup ?_ | refine we_lst ?_ | refine we_call ?_ | refine we_mt (by with_unfolding_all exact rfl) ?_)
  | (with_reducible show WS _ _ _ _; with_reducible first | refine ws_seqA ?_ | refine ws_seqD ?_ | refine ws_asg (by with_unfolding_all exact rfl) ?_ | refine ws_asgG ?_ | refine ws_if ?_ | refine ws_ret ?_ | refine ws_drop ?_ | refine ws_next ?_ | refine ws_retN ?_)
  | (with_reducible show WT _ _ _; with_reducible first | refine wt_test ?_ | refine wt_B ?_ | refine wt_not ?_ | refine wt_and ?_ | refine wt_or ?_ | refine wt_yes ?_)
  | (with_reducible show WA _ _ _; with_reducible first | refine wa_nil ?_ | refine wa_cons (wq_of (we_var (by with_unfolding_all exact rfl) ?_)) | refine wa_slotU (by with_unfolding_all exact rfl) ?_ | refine wa_cons ?_)
  | (with_reducible show OpK _ _ _ _ _; with_reducible first | refine ok_isB ?_ | refine ok_notB ?_ | refine ok_plusI ?_ | refine ok_sub ?_ | refine ok_lt ?_ | refine ok_le ?_ | refine ok_gt ?_ | refine ok_ge ?_ | refine ok_eqI ?_ | refine ok_neI ?_ | refine ok_mod (by first | assumption | decide | omega) ?_ | refine ok_ixL (by with_unfolding_all exact rfl) ?_)
  | (with_reducible show CbK _ _ _ _; with_reducible first | refine ck_lenL ?_ | refine ck_lenT ?_ | refine ck_int ?_ | refine ck_intB ?_ | refine ck_max ?_ | refine ck_min ?_ | refine ck_list ?_)
  | with_reducible refine wq_of ?_
  | (with_reducible show WG _ _ _ _ _; with_reducible first | refine wg_name (by with_unfolding_all exact rfl) ?_ | refine wg_tup (by with_unfolding_all exact rfl) ?_ | refine wg_set (by with_unfolding_all exact rfl) ?_)
  | (with_reducible show WGs _ _ _ _ _; with_reducible first | refine wgs_cons ?_ | refine wgs_nil ?_)
  | (with_reducible show WO _ _ _; with_reducible first | refine wo_some ?_ | refine wo_none ?_)
  | refine ⟨_, argD5, ?_⟩
  | refine ⟨_, argD6, ?_⟩
  | refine ⟨_, argD7, ?_⟩
  | refine ⟨_, argD9, ?_⟩
  | with_reducible refine iteT ?_
  | with_reducible refine iteF ?_
  | with_reducible refine ⟨_, frz_per, ?_⟩
  | with_reducible refine ⟨_, frz_own, ?_⟩
  | refine ⟨_, rfl, ?_⟩
  | refine ⟨_, argD1, ?_⟩
  | refine ⟨_, argD2, ?_⟩
  | refine ⟨_, argD0, ?_⟩
  | refine ⟨_, argD3, ?_⟩
  | refine ⟨_, argD4, ?_⟩
  | refine ⟨_, _, rfl, rfl, rfl, ?_⟩
  | refine ⟨_, _, _, rfl, rfl, rfl, ?_⟩
  | refine ⟨(by simp only [List.length_cons, List.length_nil]; decide), ?_⟩
  | refine ⟨rfl, nd1, ?_⟩
  | refine ⟨rfl, nd0, ?_⟩)
local macro_rules | `(tactic| walk_at "g2") => `(tactic| first | with_reducible refine we_isInt ?_ | with_reducible refine we_isLst ?_ | with_reducible refine we_chain ?_ | with_reducible refine we_lenO (by with_unfolding_all exact rfl) ?_ | with_reducible refine we_slice ?_ | with_reducible refine wo_some ?_ | with_reducible refine wo_none ?_ | walk_at "g1")
/-- start, start + step, .. -/
def prog (s t : Int) (i : Nat) : List Int := (List.range i).map fun (k : Nat) => s + (k : Int) * t
end G

namespace G
open PySem L2
local macro_rules | `(tactic| walk_at "g1") => `(tactic| first
  | (with_reducible show WE _ _ _; with_reducible first | refine we_var (by with_unfolding_all exact rfl) ?_ | (show WE (tOp _ _ _) _ _; first | refine we_ixS (by with_unfolding_all exact rfl) ?_ | refine we_ixScr (by with_unfolding_all exact rfl) ?_ | refine we_inS (by with_unfolding_all exact rfl) ?_ | refine we_notInS (by with_unfolding_all exact rfl) ?_ | refine we_eqS (by with_unfolding_all exact rfl) ?_ | refine we_neS (by with_unfolding_all exact rfl) ?_ | refine we_opK ?_) | (show WE (tCB _ _) _ _; first | refine we_lenS' (by with_unfolding_all exact rfl) ?_ | refine we_lenScr (by with_unfolding_all exact rfl) ?_ | refine we_cbK ?_) | refine we_int ?_ | refine we_bl ?_ | refine we_non ?_ | refine we_str ?_ | refine we_neg ?_ | refine we_not ?_ | refine we_and ?_ | refine we_or ?_ | refine we_if ?_ | refine we_tup ?_ | refine we_lst ?_ | refine we_call ?_ | refine we_mt (by with_unfolding_all exact rfl) ?_)
  | (with_reducible show WS _ _ _ _; with_reducible first | refine ws_seqA ?_ | refine ws_seqD ?_ | refine ws_asg (by with_unfolding_all exact rfl) ?_ | refine ws_asgG ?_ | refine ws_if ?_ | refine ws_ret ?_ | refine ws_drop ?_ | refine ws_next ?_ | refine ws_retN ?_)
  | (with_reducible show WT _ _ _; with_reducible first | refine wt_test ?_ | refine wt_B ?_ | refine wt_not ?_ | refine wt_and ?_ | refine wt_or ?_ | refine wt_yes ?_)
  | (with_reducible show WA _ _ _; with_reducible first | refine wa_nil ?_ | refine wa_cons (wq_of (we_var (by with_unfolding_all exact rfl) ?_)) | refine wa_slotU (by with_unfolding_all exact rfl) ?_ | refine wa_cons ?_)
  | (with_reducible show OpK _ _ _ _ _; with_reducible first | refine ok_plusI ?_ | refine ok_sub ?_ | refine ok_lt ?_ | refine ok_le ?_ | refine ok_gt ?_ | refine ok_ge ?_ | refine ok_eqI ?_ | refine ok_neI ?_ | refine ok_mod (by first | assumption | decide | omega) ?_ | refine ok_ixL (by with_unfolding_all exact rfl) ?_)
  | (with_reducible show CbK _ _ _ _; with_reducible first | refine ck_lenL ?_ | refine ck_lenT ?_ | refine ck_int ?_ | refine ck_intB ?_ | refine ck_max ?_ | refine ck_min ?_ | refine ck_list ?_)
  | with_reducible refine wq_of ?_
  | (with_reducible show WG _ _ _ _ _; with_reducible first | refine wg_name (by with_unfolding_all exact rfl) ?_ | refine wg_tup (by with_unfolding_all exact rfl) ?_ | refine wg_set (by with_unfolding_all exact rfl) ?_)
  | (with_reducible show WGs _ _ _ _ _; with_reducible first | refine wgs_cons ?_ | refine wgs_nil ?_)
  | with_reducible refine iteT ?_
  | with_reducible refine iteF ?_
  | with_reducible refine ⟨_, frz_per, ?_⟩
  | with_reducible refine ⟨_, frz_own, ?_⟩
  | refine ⟨_, rfl, ?_⟩
  | refine ⟨_, argD1, ?_⟩
  | refine ⟨_, argD2, ?_⟩
  | refine ⟨_, argD0, ?_⟩
  | refine ⟨_, argD3, ?_⟩
  | refine ⟨_, argD4, ?_⟩
  | refine ⟨_, _, rfl, rfl, rfl, ?_⟩
  | refine ⟨_, _, _, rfl, rfl, rfl, ?_⟩
  | refine ⟨(by simp only [List.length_cons, List.length_nil]; decide), ?_⟩
  | refine ⟨rfl, nd1, ?_⟩
  | refine ⟨rfl, nd0, ?_⟩)
local macro_rules | `(tactic| walk_at "go") => `(tactic| repeat walk_at "g1")
local macro_rules | `(tactic| walk_at "g2") => `(tactic| first
  | (with_reducible show WE _ _ _; with_reducible first | refine we_var (by with_unfolding_all exact rfl) ?_ | (show WE (tOp _ _ _) _ _; first | refine we_notN ?_ | refine we_ixS (by with_unfolding_all exact rfl) ?_ | refine we_ixScr (by with_unfolding_all exact rfl) ?_ | refine we_inS (by with_unfolding_all exact rfl) ?_ | refine we_notInS (by with_unfolding_all exact rfl) ?_ | refine we_eqS (by with_unfolding_all exact rfl) ?_ | refine we_neS (by with_unfolding_all exact rfl) ?_ | refine we_opK ?_) | (show WE (tCB _ _) _ _; first | refine we_isInt ?_ | refine we_isBl ?_ | refine we_isLst ?_ | refine we_isTup ?_ | refine we_lenO (by with_unfolding_all exact rfl) ?_ | refine we_lenS' (by with_unfolding_all exact rfl) ?_ | refine we_lenScr (by with_unfolding_all exact rfl) ?_ | refine we_cbK ?_) | refine we_chain ?_ | refine we_slice ?_ | refine we_int ?_ | refine we_bl ?_ | refine we_non ?_ | refine we_str ?_ | refine we_neg ?_ | refine we_not ?_ | refine we_and ?_ | refine we_or ?_ | refine we_if ?_ | refine we_tup ?_ | refine we_lst ?_ | refine we_call ?_ | refine we_mt (by with_unfolding_all exact rfl) ?_)
  | (with_reducible show WS _ _ _ _; with_reducible first | refine ws_seqA ?_ | refine ws_seqD ?_ | refine ws_asg (by with_unfolding_all exact rfl) ?_ | refine ws_asgG ?_ | refine ws_if ?_ | refine ws_ret ?_ | refine ws_drop ?_ | refine ws_next ?_ | refine ws_retN ?_)
  | (with_reducible show WT _ _ _; with_reducible first | refine wt_test ?_ | refine wt_B ?_ | refine wt_not ?_ | refine wt_and ?_ | refine wt_or ?_ | refine wt_yes ?_)
  | (with_reducible show WA _ _ _; with_reducible first | refine wa_nil ?_ | refine wa_cons (wq_of (we_var (by with_unfolding_all exact rfl) ?_)) | refine wa_slotU (by with_unfolding_all exact rfl) ?_ | refine wa_cons ?_)
  | (with_reducible show OpK _ _ _ _ _; with_reducible first | refine ok_isB ?_ | refine ok_notB ?_ | refine ok_plusI ?_ | refine ok_sub ?_ | refine ok_lt ?_ | refine ok_le ?_ | refine ok_gt ?_ | refine ok_ge ?_ | refine ok_eqI ?_ | refine ok_neI ?_ | refine ok_mod (by first | assumption | decide | omega) ?_ | refine ok_ixL (by with_unfolding_all exact rfl) ?_)
  | (with_reducible show CbK _ _ _ _; with_reducible first | refine ck_lenL ?_ | refine ck_lenT ?_ | refine ck_int ?_ | refine ck_intB ?_ | refine ck_max ?_ | refine ck_min ?_ | refine ck_list ?_)
  | with_reducible refine wq_of ?_
  | (with_reducible show WG _ _ _ _ _; with_reducible first | refine wg_name (by with_unfolding_all exact rfl) ?_ | refine wg_tup (by with_unfolding_all exact rfl) ?_ | refine wg_set (by with_unfolding_all exact rfl) ?_)
  | (with_reducible show WGs _ _ _ _ _; with_reducible first | refine wgs_cons ?_ | refine wgs_nil ?_)
  | (with_reducible show WO _ _ _; with_reducible first | refine wo_some ?_ | refine wo_none ?_)
  | refine ⟨_, argD5, ?_⟩
  | refine ⟨_, argD6, ?_⟩
  | refine ⟨_, argD7, ?_⟩
  | refine ⟨_, argD9, ?_⟩
  | with_reducible refine iteT ?_
  | with_reducible refine iteF ?_
  | with_reducible refine ⟨_, frz_per, ?_⟩
  | with_reducible refine ⟨_, frz_own, ?_⟩
  | refine ⟨_, rfl, ?_⟩
  | refine ⟨_, argD1, ?_⟩
  | refine ⟨_, argD2, ?_⟩
  | refine ⟨_, argD0, ?_⟩
  | refine ⟨_, argD3, ?_⟩
  | refine ⟨_, argD4, ?_⟩
  | refine ⟨_, _, rfl, rfl, rfl, ?_⟩
  | refine ⟨_, _, _, rfl, rfl, rfl, ?_⟩
  | refine ⟨(by simp only [List.length_cons, List.length_nil]; decide), ?_⟩
  | refine ⟨rfl, nd1, ?_⟩
  | refine ⟨rfl, nd0, ?_⟩)
local macro_rules | `(tactic| walk_at "g2") => `(tactic| first | with_reducible refine we_notN ?_ | with_reducible refine we_isInt ?_ | with_reducible refine we_isLst ?_ | with_reducible refine we_chain ?_ | with_reducible refine we_lenO (by with_unfolding_all exact rfl) ?_ | with_reducible refine we_slice ?_ | with_reducible refine wo_some ?_ | with_reducible refine wo_none ?_ | walk_at "g1")
end G

namespace G
open PySem L2
local macro_rules | `(tactic| walk_at "g1") => `(tactic| first
  | (with_reducible show WE _ _ _; with_reducible first | refine we_var (by with_unfolding_all exact rfl) ?_ | (show WE (tOp _ _ _) _ _; first | refine we_ixS (by with_unfolding_all exact rfl) ?_ | refine we_ixScr (by with_unfolding_all exact rfl) ?_ | refine we_inS (by with_unfolding_all exact rfl) ?_ | refine we_notInS (by with_unfolding_all exact rfl) ?_ | refine we_eqS (by with_unfolding_all exact rfl) ?_ | refine we_neS (by with_unfolding_all exact rfl) ?_ | refine we_opK ?_) | (show WE (tCB _ _) _ _; first | refine we_lenS' (by with_unfolding_all exact rfl) ?_ | refine we_lenScr (by with_unfolding_all exact rfl) ?_ | refine we_cbK ?_) | refine we_int ?_ | refine we_bl ?_ | refine we_non ?_ | refine we_str ?_ | refine we_neg ?_ | refine we_not ?_ | refine we_and ?_ | refine we_or ?_ | refine we_if ?_ | refine we_tup ?_ | refine we_lst ?_ | refine we_call ?_ | refine we_mt (by with_unfolding_all exact rfl) ?_)
  | (with_reducible show WS _ _ _ _; with_reducible first | refine ws_seqA ?_ | refine ws_seqD ?_ | refine ws_asg (by with_unfolding_all exact rfl) ?_ | refine ws_asgG ?_ | refine ws_if ?_ | refine ws_ret ?_ | refine ws_drop ?_ | refine ws_next ?_ | refine ws_retN ?_)
  | (with_reducible show WT _ _ _; with_reducible first | refine wt_test ?_ | refine wt_B ?_ | refine wt_not ?_ | refine wt_and ?_ | refine wt_or ?_ | refine wt_yes ?_)
  | (with_reducible show WA _ _ _; with_reducible first | refine wa_nil ?_ | refine wa_cons (wq_of (we_var (by with_unfolding_all exact rfl) ?_)) | refine wa_slotU (by with_unfolding_all exact rfl) ?_ | refine wa_cons ?_)
  | (with_reducible show OpK _ _ _ _ _; with_reducible first | refine ok_plusI ?_ | refine ok_sub ?_ | refine ok_lt ?_ | refine ok_le ?_ | refine ok_gt ?_ | refine ok_ge ?_ | refine ok_eqI ?_ | refine ok_neI ?_ | refine ok_mod (by first | assumption | decide | omega) ?_ | refine ok_ixL (by with_unfolding_all exact rfl) ?_)
  | (with_reducible show CbK _ _ _ _; with_reducible first | refine ck_lenL ?_ | refine ck_lenT ?_ | refine ck_int ?_ | refine ck_intB ?_ | refine ck_max ?_ | refine ck_min ?_ | refine ck_list ?_)
  | with_reducible refine wq_of ?_
  | (with_reducible show WG _ _ _ _ _; with_reducible first | refine wg_name (by with_unfolding_all exact rfl) ?_ | refine wg_tup (by with_unfolding_all exact rfl) ?_ | refine wg_set (by with_unfolding_all exact rfl) ?_)
  | (with_reducible show WGs _ _ _ _ _; with_reducible first | refine wgs_cons ?_ | refine wgs_nil ?_)
  | with_reducible refine iteT ?_
  | with_reducible refine iteF ?_
  | with_reducible refine ⟨_, frz_per, ?_⟩
  | with_reducible refine ⟨_, frz_own, ?_⟩
  | refine ⟨_, rfl, ?_⟩
  | refine ⟨_, argD1, ?_⟩
  | refine ⟨_, argD2, ?_⟩
  | refine ⟨_, argD0, ?_⟩
  | refine ⟨_, argD3, ?_⟩
  | refine ⟨_, argD4, ?_⟩
  | refine ⟨_, _, rfl, rfl, rfl, ?_⟩
  | refine ⟨_, _, _, rfl, rfl, rfl, ?_⟩
  | refine ⟨(by simp only [List.length_cons, List.length_nil]; decide), ?_⟩
  | refine ⟨rfl, nd1, ?_⟩
  | refine ⟨rfl, nd0, ?_⟩)
local macro_rules | `(tactic| walk_at "go") => `(tactic| repeat walk_at "g1")
local macro_rules | `(tactic| walk_at "g2") => `(tactic| first
  | (with_reducible show WE _ _ _; with_reducible first | refine we_var (by with_unfolding_all exact rfl) ?_ | (show WE (tOp _ _ _) _ _; first | refine we_notN ?_ | refine we_ixS (by with_unfolding_all exact rfl) ?_ | refine we_ixScr (by with_unfolding_all exact rfl) ?_ | refine we_inS (by with_unfolding_all exact rfl) ?_ | refine we_notInS (by with_unfolding_all exact rfl) ?_ | refine we_eqS (by with_unfolding_all exact rfl) ?_ | refine we_neS (by with_unfolding_all exact rfl) ?_ | refine we_opK ?_) | (show WE (tCB _ _) _ _; first | refine we_isInt ?_ | refine we_isBl ?_ | refine we_isLst ?_ | refine we_isTup ?_ | refine we_lenO (by with_unfolding_all exact rfl) ?_ | refine we_lenS' (by with_unfolding_all exact rfl) ?_ | refine we_lenScr (by with_unfolding_all exact rfl) ?_ | refine we_cbK ?_) | refine we_chain ?_ | refine we_slice ?_ | refine we_int ?_ | refine we_bl ?_ | refine we_non ?_ | refine we_str ?_ | refine we_neg ?_ | refine we_not ?_ | refine we_and ?_ | refine we_or ?_ | refine we_if ?_ | refine we_tup ?_ | refine we_lst ?_ | refine we_call ?_ | refine we_mt (by with_unfolding_all exact rfl) ?_)
  | (with_reducible show WS _ _ _ _; with_reducible first | refine ws_seqA ?_ | refine ws_seqD ?_ | refine ws_asg (by with_unfolding_all exact rfl) ?_ | refine ws_asgG ?_ | refine ws_if ?_ | refine ws_ret ?_ | refine ws_drop ?_ | refine ws_next ?_ | refine ws_retN ?_)
  | (with_reducible show WT _ _ _; with_reducible first | refine wt_test ?_ | refine wt_B ?_ | refine wt_not ?_ | refine wt_and ?_ | refine wt_or ?_ | refine wt_yes ?_)
  | (with_reducible show WA _ _ _; with_reducible first | refine wa_nil ?_ | refine wa_cons (wq_of (we_var (by with_unfolding_all exact rfl) ?_)) | refine wa_slotU (by with_unfolding_all exact rfl) ?_ | refine wa_cons ?_)
  | (with_reducible show OpK _ _ _ _ _; with_reducible first | refine ok_isB ?_ | refine ok_notB ?_ | refine ok_plusI ?_ | refine ok_sub ?_ | refine ok_lt ?_ | refine ok_le ?_ | refine ok_gt ?_ | refine ok_ge ?_ | refine ok_eqI ?_ | refine ok_neI ?_ | refine ok_mod (by first | assumption | decide | omega) ?_ | refine ok_ixL (by with_unfolding_all exact rfl) ?_)
  | (with_reducible show CbK _ _ _ _; with_reducible first | refine ck_lenL ?_ | refine ck_lenT ?_ | refine ck_int ?_ | refine ck_intB ?_ | refine ck_max ?_ | refine ck_min ?_ | refine ck_list ?_)
  | with_reducible refine wq_of ?_
  | (with_reducible show WG _ _ _ _ _; with_reducible first | refine wg_name (by with_unfolding_all exact rfl) ?_ | refine wg_tup (by with_unfolding_all exact rfl) ?_ | refine wg_set (by with_unfolding_all exact rfl) ?_)
  | (with_reducible show WGs _ _ _ _ _; with_reducible first | refine wgs_cons ?_ | refine wgs_nil ?_)
  | (with_reducible show WO _ _ _; with_reducible first | refine wo_some ?_ | refine wo_none ?_)
  | refine ⟨_, argD5, ?_⟩
  | refine ⟨_, argD6, ?_⟩
  | refine ⟨_, argD7, ?_⟩
  | refine ⟨_, argD9, ?_⟩
  | with_reducible refine iteT ?_
  | with_reducible refine iteF ?_
  | with_reducible refine ⟨_, frz_per, ?_⟩
  | with_reducible refine ⟨_, frz_own, ?_⟩
  | refine ⟨_, rfl, ?_⟩
  | refine ⟨_, argD1, ?_⟩
  | refine ⟨_, argD2, ?_⟩
  | refine ⟨_, argD0, ?_⟩
  | refine ⟨_, argD3, ?_⟩
  | refine ⟨_, argD4, ?_⟩
  | refine ⟨_, _, rfl, rfl, rfl, ?_⟩
  | refine ⟨_, _, _, rfl, rfl, rfl, ?_⟩
  | refine ⟨(by simp only [List.length_cons, List.length_nil]; decide), ?_⟩
  | refine ⟨rfl, nd1, ?_⟩
  | refine ⟨rfl, nd0, ?_⟩)
end G

namespace G
open PySem L2
local macro_rules | `(tactic| walk_at "g1") => `(tactic| first
  | (with_reducible show WE _ _ _; with_reducible first | refine we_var (by with_unfolding_all exact rfl) ?_ | (show WE (tOp _ _ _) _ _; first | refine we_ixS (by with_unfolding_all exact rfl) ?_ | refine we_ixScr (by with_unfolding_all exact rfl) ?_ | refine we_inS (by with_unfolding_all exact rfl) ?_ | refine we_notInS (by with_unfolding_all exact rfl) ?_ | refine we_eqS (by with_unfolding_all exact rfl) ?_ | refine we_neS (by with_unfolding_all exact rfl) ?_ | refine we_opK ?_) | (show WE (tCB _ _) _ _; first | refine we_lenS' (by with_unfolding_all exact rfl) ?_ | refine we_lenScr (by with_unfolding_all exact rfl) ?_ | refine we_cbK ?_) | refine we_int ?_ | refine we_bl ?_ | refine we_non ?_ | refine we_str ?_ | refine we_neg ?_ | refine we_not ?_ | refine we_and ?_ | refine we_or ?_ | refine we_if ?_ | refine we_tup ?_ | refine we_lst ?_ | refine we_call ?_ | refine we_mt (by with_unfolding_all exact rfl) ?_)
  | (with_reducible show WS _ _ _ _; with_reducible first | refine ws_seqA ?_ | refine ws_seqD ?_ | refine ws_asg (by with_unfolding_all exact rfl) ?_ | refine ws_asgG ?_ | refine ws_if ?_ | refine ws_ret ?_ | refine ws_drop ?_ | refine ws_next ?_ | refine ws_retN ?_)
  | (with_reducible show WT _ _ _; with_reducible first | refine wt_test ?_ | refine wt_B ?_ | refine wt_not ?_ | refine wt_and ?_ | refine wt_or ?_ | refine wt_yes ?_)
  | (with_reducible show WA _ _ _; with_reducible first | refine wa_nil ?_ | refine wa_cons (wq_of (we_var (by with_unfolding_all exact rfl) ?_)) | refine wa_slotU (by with_unfolding_all exact rfl) ?_ | refine wa_cons ?_)
  | (with_reducible show OpK _ _ _ _ _; with_reducible first | refine ok_plusI ?_ | refine ok_sub ?_ | refine ok_lt ?_ | refine ok_le ?_ | refine ok_gt ?_ | refine ok_ge ?_ | refine ok_eqI ?_ | refine ok_neI ?_ | refine ok_mod (by first | assumption | decide | omega) ?_ | refine ok_ixL (by with_unfolding_all exact rfl) ?_)
  | (with_reducible show CbK _ _ _ _; with_reducible first | refine ck_lenL ?_ | refine ck_lenT ?_ | refine ck_int ?_ | refine ck_intB ?_ | refine ck_max ?_ | refine ck_min ?_ | refine ck_list ?_)
  | with_reducible refine wq_of ?_
  | (with_reducible show WG _ _ _ _ _; with_reducible first | refine wg_name (by with_unfolding_all exact rfl) ?_ | refine wg_tup (by with_unfolding_all exact rfl) ?_ | refine wg_set (by with_unfolding_all exact rfl) ?_)
  | (with_reducible show WGs _ _ _ _ _; with_reducible first | refine wgs_cons ?_ | refine wgs_nil ?_)
  | with_reducible refine iteT ?_
  | with_reducible refine iteF ?_
  | with_reducible refine ⟨_, frz_per, ?_⟩
  | with_reducible refine ⟨_, frz_own, ?_⟩
  | refine ⟨_, rfl, ?_⟩
  | refine ⟨_, argD1, ?_⟩
  | refine ⟨_, argD2, ?_⟩
  | refine ⟨_, argD0, ?_⟩
  | refine ⟨_, argD3, ?_⟩
  | refine ⟨_, argD4, ?_⟩
  | refine ⟨_, _, rfl, rfl, rfl, ?_⟩
  | refine ⟨_, _, _, rfl, rfl, rfl, ?_⟩
  | refine ⟨(by simp only [List.length_cons, List.length_nil]; decide), ?_⟩
  | refine ⟨rfl, nd1, ?_⟩
  | refine ⟨rfl, nd0, ?_⟩)
local macro_rules | `(tactic| walk_at "go") => `(tactic| repeat walk_at "g1")
local macro_rules | `(tactic| walk_at "g2") => `(tactic| first
  | (with_reducible show WE _ _ _; with_reducible first | refine we_var (by with_unfolding_all exact rfl) ?_ | (show WE (tOp _ _ _) _ _; first | refine we_notN ?_ | refine we_ixS (by with_unfolding_all exact rfl) ?_ | refine we_ixScr (by with_unfolding_all exact rfl) ?_ | refine we_inS (by with_unfolding_all exact rfl) ?_ | refine we_notInS (by with_unfolding_all exact rfl) ?_ | refine we_eqS (by with_unfolding_all exact rfl) ?_ | refine we_neS (by with_unfolding_all exact rfl) ?_ | refine we_opK ?_) | (show WE (tCB _ _) _ _; first | refine we_isInt ?_ | refine we_isBl ?_ | refine we_isLst ?_ | refine we_isTup ?_ | refine we_lenO (by with_unfolding_all exact rfl) ?_ | refine we_lenS' (by with_unfolding_all exact rfl) ?_ | refine we_lenScr (by with_unfolding_all exact rfl) ?_ | refine we_cbK ?_) | refine we_chain ?_ | refine we_slice ?_ | refine we_int ?_ | refine we_bl ?_ | refine we_non ?_ | refine we_str ?_ | refine we_neg ?_ | refine we_not ?_ | refine we_and ?_ | refine we_or ?_ | refine we_if ?_ | refine we_tup ?_ | refine we_lst ?_ | refine we_call ?_ | refine we_mt (by with_unfolding_all exact rfl) ?_)
  | (with_reducible show WS _ _ _ _; with_reducible first | refine ws_seqA ?_ | refine ws_seqD ?_ | refine ws_asg (by with_unfolding_all exact rfl) ?_ | refine ws_asgG ?_ | refine ws_if ?_ | refine ws_ret ?_ | refine ws_drop ?_ | refine ws_next ?_ | refine ws_retN ?_)
  | (with_reducible show WT _ _ _; with_reducible first | refine wt_test ?_ | refine wt_B ?_ | refine wt_not ?_ | refine wt_and ?_ | refine wt_or ?_ | refine wt_yes ?_)
  | (with_reducible show WA _ _ _; with_reducible first | refine wa_nil ?_ | refine wa_cons (wq_of (we_var (by with_unfolding_all exact rfl) ?_)) | refine wa_slotU (by with_unfolding_all exact rfl) ?_ | refine wa_cons ?_)
  | (with_reducible show OpK _ _ _ _ _; with_reducible first | refine ok_isB ?_ | refine ok_notB ?_ | refine ok_plusI ?_ | refine ok_sub ?_ | refine ok_lt ?_ | refine ok_le ?_ | refine ok_gt ?_ | refine ok_ge ?_ | refine ok_eqI ?_ | refine ok_neI ?_ | refine ok_mod (by first | assumption | decide | omega) ?_ | refine ok_ixL (by with_unfolding_all exact rfl) ?_)
  | (with_reducible show CbK _ _ _ _; with_reducible first | refine ck_lenL ?_ | refine ck_lenT ?_ | refine ck_int ?_ | refine ck_intB ?_ | refine ck_max ?_ | refine ck_min ?_ | refine ck_list ?_)
  | with_reducible refine wq_of ?_
  | (with_reducible show WG _ _ _ _ _; with_reducible first | refine wg_name (by with_unfolding_all exact rfl) ?_ | refine wg_tup (by with_unfolding_all exact rfl) ?_ | refine wg_set (by with_unfolding_all exact rfl) ?_)
  | (with_reducible show WGs _ _ _ _ _; with_reducible first | refine wgs_cons ?_ | refine wgs_nil ?_)
  | (with_reducible show WO _ _ _; with_reducible first | refine wo_some ?_ | refine wo_none ?_)
  | refine ⟨_, argD5, ?_⟩
  | refine ⟨_, argD6, ?_⟩
  | refine ⟨_, argD7, ?_⟩
  | refine ⟨_, argD9, ?_⟩
  | with_reducible refine iteT ?_
  | with_reducible refine iteF ?_
  | with_reducible refine ⟨_, frz_per, ?_⟩
  | with_reducible refine ⟨_, frz_own, ?_⟩
  | refine ⟨_, rfl, ?_⟩
  | refine ⟨_, argD1, ?_⟩
  | refine ⟨_, argD2, ?_⟩
  | refine ⟨_, argD0, ?_⟩
  | refine ⟨_, argD3, ?_⟩
  | refine ⟨_, argD4, ?_⟩
  | refine ⟨_, _, rfl, rfl, rfl, ?_⟩
  | refine ⟨_, _, _, rfl, rfl, rfl, ?_⟩
  | refine ⟨(by simp only [List.length_cons, List.length_nil]; decide), ?_⟩
  | refine ⟨rfl, nd1, ?_⟩
  | refine ⟨rfl, nd0, ?_⟩)
local macro_rules | `(tactic| walk_at "g3") => `(tactic| first | with_reducible refine we_dnew ?_ | with_reducible refine ck_tuple ?_ | with_reducible refine we_repr ?_ | walk_at "g2")
end G

namespace G
open PySem L2
local macro_rules | `(tactic| walk_at "g1") => `(tactic| first
  | (with_reducible show WE _ _ _; with_reducible first | refine we_var (by with_unfolding_all exact rfl) ?_ | (show WE (tOp _ _ _) _ _; first | refine we_ixS (by with_unfolding_all exact rfl) ?_ | refine we_ixScr (by with_unfolding_all exact rfl) ?_ | refine we_inS (by with_unfolding_all exact rfl) ?_ | refine we_notInS (by with_unfolding_all exact rfl) ?_ | refine we_eqS (by with_unfolding_all exact rfl) ?_ | refine we_neS (by with_unfolding_all exact rfl) ?_ | refine we_opK ?_) | (show WE (tCB _ _) _ _; first | refine we_lenS' (by with_unfolding_all exact rfl) ?_ | refine we_lenScr (by with_unfolding_all exact rfl) ?_ | refine we_cbK ?_) | refine we_int ?_ | refine we_bl ?_ | refine we_non ?_ | refine we_str ?_ | refine we_neg ?_ | refine we_not ?_ | refine we_and ?_ | refine we_or ?_ | refine we_if ?_ | refine we_tup ?_ | refine we_lst ?_ | refine we_call ?_ | refine we_mt (by with_unfolding_all exact rfl) ?_)
  | (with_reducible show WS _ _ _ _; with_reducible first | refine ws_seqA ?_ | refine ws_seqD ?_ | refine ws_asg (by with_unfolding_all exact rfl) ?_ | refine ws_asgG ?_ | refine ws_if ?_ | refine ws_ret ?_ | refine ws_drop ?_ | refine ws_next ?_ | refine ws_retN ?_)
  | (with_reducible show WT _ _ _; with_reducible first | refine wt_test ?_ | refine wt_B ?_ | refine wt_not ?_ | refine wt_and ?_ | refine wt_or ?_ | refine wt_yes ?_)
  | (with_reducible show WA _ _ _; with_reducible first | refine wa_nil ?_ | refine wa_cons (wq_of (we_var (by with_unfolding_all exact rfl) ?_)) | refine wa_slotU (by with_unfolding_all exact rfl) ?_ | refine wa_cons ?_)
  | (with_reducible show OpK _ _ _ _ _; with_reducible first | refine ok_plusI ?_ | refine ok_sub ?_ | refine ok_lt ?_ | refine ok_le ?_ | refine ok_gt ?_ | refine ok_ge ?_ | refine ok_eqI ?_ | refine ok_neI ?_ | refine ok_mod (by first | assumption | decide | omega) ?_ | refine ok_ixL (by with_unfolding_all exact rfl) ?_)
  | (with_reducible show CbK _ _ _ _; with_reducible first | refine ck_lenL ?_ | refine ck_lenT ?_ | refine ck_int ?_ | refine ck_intB ?_ | refine ck_max ?_ | refine ck_min ?_ | refine ck_list ?_)
  | with_reducible refine wq_of ?_
  | (with_reducible show WG _ _ _ _ _; with_reducible first | refine wg_name (by with_unfolding_all exact rfl) ?_ | refine wg_tup (by with_unfolding_all exact rfl) ?_ | refine wg_set (by with_unfolding_all exact rfl) ?_)
  | (with_reducible show WGs _ _ _ _ _; with_reducible first | refine wgs_cons ?_ | refine wgs_nil ?_)
  | with_reducible refine iteT ?_
  | with_reducible refine iteF ?_
  | with_reducible refine ⟨_, frz_per, ?_⟩
  | with_reducible refine ⟨_, frz_own, ?_⟩
  | refine ⟨_, rfl, ?_⟩
  | refine ⟨_, argD1, ?_⟩
  | refine ⟨_, argD2, ?_⟩
  | refine ⟨_, argD0, ?_⟩
  | refine ⟨_, argD3, ?_⟩
  | refine ⟨_, argD4, ?_⟩
  | refine ⟨_, _, rfl, rfl, rfl, ?_⟩
  | refine ⟨_, _, _, rfl, rfl, rfl, ?_⟩
  | refine ⟨(by simp only [List.length_cons, List.length_nil]; decide), ?_⟩
  | refine ⟨rfl, nd1, ?_⟩
  | refine ⟨rfl, nd0, ?_⟩)
local macro_rules | `(tactic| walk_at "go") => `(tactic| repeat walk_at "g1")
local macro_rules | `(tactic| walk_at "g2") => `(tactic| first
  | (with_reducible show WE _ _ _; with_reducible first | refine we_var (by with_unfolding_all exact rfl) ?_ | (show WE (tOp _ _ _) _ _; first | refine we_notN ?_ | refine we_ixS (by with_unfolding_all exact rfl) ?_ | refine we_ixScr (by with_unfolding_all exact rfl) ?_ | refine we_inS (by with_unfolding_all exact rfl) ?_ | refine we_notInS (by with_unfolding_all exact rfl) ?_ | refine we_eqS (by with_unfolding_all exact rfl) ?_ | refine we_neS (by with_unfolding_all exact rfl) ?_ | refine we_opK ?_) | (show WE (tCB _ _) _ _; first | refine we_isInt ?_ | refine we_isBl ?_ | refine we_isLst ?_ | refine we_isTup ?_ | refine we_lenO (by with_unfolding_all exact rfl) ?_ | refine we_lenS' (by with_unfolding_all exact rfl) ?_ | refine we_lenScr (by with_unfolding_all exact rfl) ?_ | refine we_cbK ?_) | refine we_chain ?_ | refine we_slice ?_ | refine we_int ?_ | refine we_bl ?_ | refine we_non ?_ | refine we_str ?_ | refine we_neg ?_ | refine we_not ?_ | refine we_and ?_ | refine we_or ?_ | refine we_if ?_ | refine we_tup ?_ | refine we_lst ?_ | refine we_call ?_ | refine we_mt (by with_unfolding_all exact rfl) ?_)
  | (with_reducible show WS _ _ _ _; with_reducible first | refine ws_seqA ?_ | refine ws_seqD ?_ | refine ws_asg (by with_unfolding_all exact rfl) ?_ | refine ws_asgG ?_ | refine ws_if ?_ | refine ws_ret ?_ | refine ws_drop ?_ | refine ws_next ?_ | refine ws_retN ?_)
  | (with_reducible show WT _ _ _; with_reducible first | refine wt_test ?_ | refine wt_B ?_ | refine wt_not ?_ | refine wt_and ?_ | refine wt_or ?_ | refine wt_yes ?_)
  | (with_reducible show WA _ _ _; with_reducible first | refine wa_nil ?_ | refine wa_cons (wq_of (we_var (by with_unfolding_all exact rfl) ?_)) | refine wa_slotU (by with_unfolding_all exact rfl) ?_ | refine wa_cons ?_)
  | (with_reducible show OpK _ _ _ _ _; with_reducible first | refine ok_isB ?_ | refine ok_notB ?_ | refine ok_plusI ?_ | refine ok_sub ?_ | refine ok_lt ?_ | refine ok_le ?_ | refine ok_gt ?_ | refine ok_ge ?_ | refine ok_eqI ?_ | refine ok_neI ?_ | refine ok_mod (by first | assumption | decide | omega) ?_ | refine ok_ixL (by with_unfolding_all exact rfl) ?_)
  | (with_reducible show CbK _ _ _ _; with_reducible first | refine ck_lenL ?_ | refine ck_lenT ?_ | refine ck_int ?_ | refine ck_intB ?_ | refine ck_max ?_ | refine ck_min ?_ | refine ck_list ?_)
  | with_reducible refine wq_of ?_
  | (with_reducible show WG _ _ _ _ _; with_reducible first | refine wg_name (by with_unfolding_all exact rfl) ?_ | refine wg_tup (by with_unfolding_all exact rfl) ?_ | refine wg_set (by with_unfolding_all exact rfl) ?_)
  | (with_reducible show WGs _ _ _ _ _; with_reducible first | refine wgs_cons ?_ | refine wgs_nil ?_)
  | (with_reducible show WO _ _ _; with_reducible first | refine wo_some ?_ | refine wo_none ?_)
  | refine ⟨_, argD5, ?_⟩
  | refine ⟨_, argD6, ?_⟩
  | refine ⟨_, argD7, ?_⟩
  | refine ⟨_, argD9, ?_⟩
  | with_reducible refine iteT ?_
  | with_reducible refine iteF ?_
  | with_reducible refine ⟨_, frz_per, ?_⟩
  | with_reducible refine ⟨_, frz_own, ?_⟩
  | refine ⟨_, rfl, ?_⟩
  | refine ⟨_, argD1, ?_⟩
  | refine ⟨_, argD2, ?_⟩
  | refine ⟨_, argD0, ?_⟩
  | refine ⟨_, argD3, ?_⟩
  | refine ⟨_, argD4, ?_⟩
  | refine ⟨_, _, rfl, rfl, rfl, ?_⟩
  | refine ⟨_, _, _, rfl, rfl, rfl, ?_⟩
  | refine ⟨(by simp only [List.length_cons, List.length_nil]; decide), ?_⟩
  | refine ⟨rfl, nd1, ?_⟩
  | refine ⟨rfl, nd0, ?_⟩)
local macro_rules | `(tactic| walk_at "g3") => `(tactic| first | with_reducible refine we_dnew ?_ | with_reducible refine ck_tuple ?_ | with_reducible refine we_repr ?_ | walk_at "g2")
end G

namespace G
open PySem L2
local macro_rules | `(tactic| walk_at "g1") => `(tactic| first
  | (with_reducible show WE _ _ _; with_reducible first | refine we_var (by with_unfolding_all exact rfl) ?_ | (show WE (tOp _ _ _) _ _; first | refine we_ixS (by with_unfolding_all exact rfl) ?_ | refine we_ixScr (by with_unfolding_all exact rfl) ?_ | refine we_inS (by with_unfolding_all exact rfl) ?_ | refine we_notInS (by with_unfolding_all exact rfl) ?_ | refine we_eqS (by with_unfolding_all exact rfl) ?_ | refine we_neS (by with_unfolding_all exact rfl) ?_ | refine we_opK ?_) | (show WE (tCB _ _) _ _; first | refine we_lenS' (by with_unfolding_all exact rfl) ?_ | refine we_lenScr (by with_unfolding_all exact rfl) ?_ | refine we_cbK ?_) | refine we_int ?_ | refine we_bl ?_ | refine we_non ?_ | refine we_str ?_ | refine we_neg ?_ | refine we_not ?_ | refine we_and ?_ | refine we_or ?_ | refine we_if ?_ | refine we_tup ?_ | refine we_lst ?_ | refine we_call ?_ | refine we_mt (by with_unfolding_all exact rfl) ?_)
  | (with_reducible show WS _ _ _ _; with_reducible first | refine ws_seqA ?_ | refine ws_seqD ?_ | refine ws_asg (by with_unfolding_all exact rfl) ?_ | refine ws_asgG ?_ | refine ws_if ?_ | refine ws_ret ?_ | refine ws_drop ?_ | refine ws_next ?_ | refine ws_retN ?_)
  | (with_reducible show WT _ _ _; with_reducible first | refine wt_test ?_ | refine wt_B ?_ | refine wt_not ?_ | refine wt_and ?_ | refine wt_or ?_ | refine wt_yes ?_)
  | (with_reducible show WA _ _ _; with_reducible first | refine wa_nil ?_ | refine wa_cons (wq_of (we_var (by with_unfolding_all exact rfl) ?_)) | refine wa_slotU (by with_unfolding_all exact rfl) ?_ | refine wa_cons ?_)
  | (with_reducible show OpK _ _ _ _ _; with_reducible first | refine ok_plusI ?_ | refine ok_sub ?_ | refine ok_lt ?_ | refine ok_le ?_ | refine ok_gt ?_ | refine ok_ge ?_ | refine ok_eqI ?_ | refine ok_neI ?_ | refine ok_mod (by first | assumption | decide | omega) ?_ | refine ok_ixL (by with_unfolding_all exact rfl) ?_)
  | (with_reducible show CbK _ _ _ _; with_reducible first | refine ck_lenL ?_ | refine ck_lenT ?_ | refine ck_int ?_ | refine ck_intB ?_ | refine ck_max ?_ | refine ck_min ?_ | refine ck_list ?_)
  | with_reducible refine wq_of ?_
  | (with_reducible show WG _ _ _ _ _; with_reducible first | refine wg_name (by with_unfolding_all exact rfl) ?_ | refine wg_tup (by with_unfolding_all exact rfl) ?_ | refine wg_set (by with_unfolding_all exact rfl) ?_)
  | (with_reducible show WGs _ _ _ _ _; with_reducible first | refine wgs_cons ?_ | refine wgs_nil ?_)
  | with_reducible refine iteT ?_
  | with_reducible refine iteF ?_
  | with_reducible refine ⟨_, frz_per, ?_⟩
  | with_reducible refine ⟨_, frz_own, ?_⟩
  | refine ⟨_, rfl, ?_⟩
  | refine ⟨_, argD1, ?_⟩
  | refine ⟨_, argD2, ?_⟩
  | refine ⟨_, argD0, ?_⟩
  | refine ⟨_, argD3, ?_⟩
  | refine ⟨_, argD4, ?_⟩
  | refine ⟨_, _, rfl, rfl, rfl, ?_⟩
  | refine ⟨_, _, _, rfl, rfl, rfl, ?_⟩
  | refine ⟨(by simp only [List.length_cons, List.length_nil]; decide), ?_⟩
  | refine ⟨rfl, nd1, ?_⟩
  | refine ⟨rfl, nd0, ?_⟩)
local macro_rules | `(tactic| walk_at "go") => `(tactic| repeat walk_at "g1")
local macro_rules | `(tactic| walk_at "g2") => `(tactic| first
  | (with_reducible show WE _ _ _; with_reducible first | refine we_var (by with_unfolding_all exact rfl) ?_ | (show WE (tOp _ _ _) _ _; first | refine we_notN ?_ | refine we_ixS (by with_unfolding_all exact rfl) ?_ | refine we_ixScr (by with_unfolding_all exact rfl) ?_ | refine we_inS (by with_unfolding_all exact rfl) ?_ | refine we_notInS (by with_unfolding_all exact rfl) ?_ | refine we_eqS (by with_unfolding_all exact rfl) ?_ | refine we_neS (by with_unfolding_all exact rfl) ?_ | refine we_opK ?_) | (show WE (tCB _ _) _ _; first | refine we_isInt ?_ | refine we_isBl ?_ | refine we_isLst ?_ | refine we_isTup ?_ | refine we_lenO (by with_unfolding_all exact rfl) ?_ | refine we_lenS' (by with_unfolding_all exact rfl) ?_ | refine we_lenScr (by with_unfolding_all exact rfl) ?_ | refine we_cbK ?_) | refine we_chain ?_ | refine we_slice ?_ | refine we_int ?_ | refine we_bl ?_ | refine we_non ?_ | refine we_str ?_ | refine we_neg ?_ | refine we_not ?_ | refine we_and ?_ | refine we_or ?_ | refine we_if ?_ | refine we_tup ?_ | refine we_lst ?_ | refine we_call ?_ | refine we_mt (by with_unfolding_all exact rfl) ?_)
  | (with_reducible show WS _ _ _ _; with_reducible first | refine ws_seqA ?_ | refine ws_seqD ?_ | refine ws_asg (by with_unfolding_all exact rfl) ?_ | refine ws_asgG ?_ | refine ws_if ?_ | refine ws_ret ?_ | refine ws_drop ?_ | refine ws_next ?_ | refine ws_retN ?_)
  | (with_reducible show WT _ _ _; with_reducible first | refine wt_test ?_ | refine wt_B ?_ | refine wt_not ?_ | refine wt_and ?_ | refine wt_or ?_ | refine wt_yes ?_)
  | (with_reducible show WA _ _ _; with_reducible first | refine wa_nil ?_ | refine wa_cons (wq_of (we_var (by with_unfolding_all exact rfl) ?_)) | refine wa_slotU (by with_unfolding_all exact rfl) ?_ | refine wa_cons ?_)
  | (with_reducible show OpK _ _ _ _ _; with_reducible first | refine ok_isB ?_ | refine ok_notB ?_ | refine ok_plusI ?_ | refine ok_sub ?_ | refine ok_lt ?_ | refine ok_le ?_ | refine ok_gt ?_ | refine ok_ge ?_ | refine ok_eqI ?_ | refine ok_neI ?_ | refine ok_mod (by first | assumption | decide | omega) ?_ | refine ok_ixL (by with_unfolding_all exact rfl) ?_)
  | (with_reducible show CbK _ _ _ _; with_reducible first | refine ck_lenL ?_ | refine ck_lenT ?_ | refine ck_int ?_ | refine ck_intB ?_ | refine ck_max ?_ | refine ck_min ?_ | refine ck_list ?_)
  | with_reducible refine wq_of ?_
  | (with_reducible show WG _ _ _ _ _; with_reducible first | refine wg_name (by with_unfolding_all exact rfl) ?_ | refine wg_tup (by with_unfolding_all exact rfl) ?_ | refine wg_set (by with_unfolding_all exact rfl) ?_)
  | (with_reducible show WGs _ _ _ _ _; with_reducible first | refine wgs_cons ?_ | refine wgs_nil ?_)
  | (with_reducible show WO _ _ _; with_reducible first | refine wo_some ?_ | refine wo_none ?_)
  | refine ⟨_, argD5, ?_⟩
  | refine ⟨_, argD6, ?_⟩
  | refine ⟨_, argD7, ?_⟩
  | refine ⟨_, argD9, ?_⟩
  | with_reducible refine iteT ?_
  | with_reducible refine iteF ?_
  | with_reducible refine ⟨_, frz_per, ?_⟩
  | with_reducible refine ⟨_, frz_own, ?_⟩
  | refine ⟨_, rfl, ?_⟩
  | refine ⟨_, argD1, ?_⟩
  | refine ⟨_, argD2, ?_⟩
  | refine ⟨_, argD0, ?_⟩
  | refine ⟨_, argD3, ?_⟩
  | refine ⟨_, argD4, ?_⟩
  | refine ⟨_, _, rfl, rfl, rfl, ?_⟩
  | refine ⟨_, _, _, rfl, rfl, rfl, ?_⟩
  | refine ⟨(by simp only [List.length_cons, List.length_nil]; decide), ?_⟩
  | refine ⟨rfl, nd1, ?_⟩
  | refine ⟨rfl, nd0, ?_⟩)
local macro_rules | `(tactic| walk_at "g3") => `(tactic| first | with_reducible refine we_dnew ?_ | with_reducible refine ck_tuple ?_ | with_reducible refine we_repr ?_ | with_reducible refine we_lenSetI ?_ | with_reducible refine we_revL ?_ | with_reducible refine wt_truL ?_ | walk_at "g2")
theorem webF_no {n : Nat} {ts : List (Int × Int)} {m : Str} (h1 : ("_ties" : Str) ≠ m) (h2 : ("_near" : Str) ≠ m) : lookD m (webF n ts) = none := by
  show (if ("_ties" : Str) = m then _ else if ("_near" : Str) = m then _ else none) = none
  rw [if_neg h1, if_neg h2]
end G

namespace G
open PySem L2
local macro_rules | `(tactic| walk_at "g1") => `(tactic| first
  | (with_reducible show WE _ _ _; with_reducible first | refine we_var (by with_unfolding_all exact rfl) ?_ | (show WE (tOp _ _ _) _ _; first | refine we_ixS (by with_unfolding_all exact rfl) ?_ | refine we_ixScr (by with_unfolding_all exact rfl) ?_ | refine we_inS (by with_unfolding_all exact rfl) ?_ | refine we_notInS (by with_unfolding_all exact rfl) ?_ | refine we_eqS (by with_unfolding_all exact rfl) ?_ | refine we_neS (by with_unfolding_all exact rfl) ?_ | refine we_opK ?_) | (show WE (tCB _ _) _ _; first | refine we_lenS' (by with_unfolding_all exact rfl) ?_ | refine we_lenScr (by with_unfolding_all exact rfl) ?_ | refine we_cbK ?_) | refine we_int ?_ | refine we_bl ?_ | refine we_non ?_ | refine we_str ?_ | refine we_neg ?_ | refine we_not ?_ | refine we_and ?_ | refine we_or ?_ | refine we_if ?_ | refine we_tup ?_ | refine we_lst ?_ | refine we_call ?_ | refine we_mt (by with_unfolding_all exact rfl) ?_)
  | (with_reducible show WS _ _ _ _; with_reducible first | refine ws_seqA ?_ | refine ws_seqD ?_ | refine ws_asg (by with_unfolding_all exact rfl) ?_ | refine ws_asgG ?_ | refine ws_if ?_ | refine ws_ret ?_ | refine ws_drop ?_ | refine ws_next ?_ | refine ws_retN ?_)
  | (with_reducible show WT _ _ _; with_reducible first | refine wt_test ?_ | refine wt_B ?_ | refine wt_not ?_ | refine wt_and ?_ | refine wt_or ?_ | refine wt_yes ?_)
  | (with_reducible show WA _ _ _; with_reducible first | refine wa_nil ?_ | refine wa_cons (wq_of (we_var (by with_unfolding_all exact rfl) ?_)) | refine wa_slotU (by with_unfolding_all exact rfl) ?_ | refine wa_cons ?_)
  | (with_reducible show OpK _ _ _ _ _; with_reducible first | refine ok_plusI ?_ | refine ok_sub ?_ | refine ok_lt ?_ | refine ok_le ?_ | refine ok_gt ?_ | refine ok_ge ?_ | refine ok_eqI ?_ | refine ok_neI ?_ | refine ok_mod (by first | assumption | decide | omega) ?_ | refine ok_ixL (by with_unfolding_all exact rfl) ?_)
  | (with_reducible show CbK _ _ _ _; with_reducible first | refine ck_lenL ?_ | refine ck_lenT ?_ | refine ck_int ?_ | refine ck_intB ?_ | refine ck_max ?_ | refine ck_min ?_ | refine ck_list ?_)
  | with_reducible refine wq_of ?_
  | (with_reducible show WG _ _ _ _ _; with_reducible first | refine wg_name (by with_unfolding_all exact rfl) ?_ | refine wg_tup (by with_unfolding_all exact rfl) ?_ | refine wg_set (by with_unfolding_all exact rfl) ?_)
  | (with_reducible show WGs _ _ _ _ _; with_reducible first | refine wgs_cons ?_ | refine wgs_nil ?_)
  | with_reducible refine iteT ?_
  | with_reducible refine iteF ?_
  | with_reducible refine ⟨_, frz_per, ?_⟩
  | with_reducible refine ⟨_, frz_own, ?_⟩
  | refine ⟨_, rfl, ?_⟩
  | refine ⟨_, argD1, ?_⟩
  | refine ⟨_, argD2, ?_⟩
  | refine ⟨_, argD0, ?_⟩
  | refine ⟨_, argD3, ?_⟩
  | refine ⟨_, argD4, ?_⟩
  | refine ⟨_, _, rfl, rfl, rfl, ?_⟩
  | refine ⟨_, _, _, rfl, rfl, rfl, ?_⟩
  | refine ⟨(by simp only [List.length_cons, List.length_nil]; decide), ?_⟩
  | refine ⟨rfl, nd1, ?_⟩
  | refine ⟨rfl, nd0, ?_⟩)
local macro_rules | `(tactic| walk_at "go") => `(tactic| repeat walk_at "g1")
local macro_rules | `(tactic| walk_at "g2") => `(tactic| first
  | (with_reducible show WE _ _ _; with_reducible first | refine we_var (by with_unfolding_all exact rfl) ?_ | (show WE (tOp _ _ _) _ _; first | refine we_notN ?_ | refine we_ixS (by with_unfolding_all exact rfl) ?_ | refine we_ixScr (by with_unfolding_all exact rfl) ?_ | refine we_inS (by with_unfolding_all exact rfl) ?_ | refine we_notInS (by with_unfolding_all exact rfl) ?_ | refine we_eqS (by with_unfolding_all exact rfl) ?_ | refine we_neS (by with_unfolding_all exact rfl) ?_ | refine we_opK ?_) | (show WE (tCB _ _) _ _; first | refine we_isInt ?_ | refine we_isBl ?_ | refine we_isLst ?_ | refine we_isTup ?_ | refine we_lenO (by with_unfolding_all exact rfl) ?_ | refine we_lenS' (by with_unfolding_all exact rfl) ?_ | refine we_lenScr (by with_unfolding_all exact rfl) ?_ | refine we_cbK ?_) | refine we_chain ?_ | refine we_slice ?_ | refine we_int ?_ | refine we_bl ?_ | refine we_non ?_ | refine we_str ?_ | refine we_neg ?_ | refine we_not ?_ | refine we_and ?_ | refine we_or ?_ | refine we_if ?_ | refine we_tup ?_ | refine we_lst ?_ | refine we_call ?_ | refine we_mt (by with_unfolding_all exact rfl) ?_)
  | (with_reducible show WS _ _ _ _; with_reducible first | refine ws_seqA ?_ | refine ws_seqD ?_ | refine ws_asg (by with_unfolding_all exact rfl) ?_ | refine ws_asgG ?_ | refine ws_if ?_ | refine ws_ret ?_ | refine ws_drop ?_ | refine ws_next ?_ | refine ws_retN ?_)
  | (with_reducible show WT _ _ _; with_reducible first | refine wt_test ?_ | refine wt_B ?_ | refine wt_not ?_ | refine wt_and ?_ | refine wt_or ?_ | refine wt_yes ?_)
  | (with_reducible show WA _ _ _; with_reducible first | refine wa_nil ?_ | refine wa_cons (wq_of (we_var (by with_unfolding_all exact rfl) ?_)) | refine wa_slotU (by with_unfolding_all exact rfl) ?_ | refine wa_cons ?_)
  | (with_reducible show OpK _ _ _ _ _; with_reducible first | refine ok_isB ?_ | refine ok_notB ?_ | refine ok_plusI ?_ | refine ok_sub ?_ | refine ok_lt ?_ | refine ok_le ?_ | refine ok_gt ?_ | refine ok_ge ?_ | refine ok_eqI ?_ | refine ok_neI ?_ | refine ok_mod (by first | assumption | decide | omega) ?_ | refine ok_ixL (by with_unfolding_all exact rfl) ?_)
  | (with_reducible show CbK _ _ _ _; with_reducible first | refine ck_lenL ?_ | refine ck_lenT ?_ | refine ck_int ?_ | refine ck_intB ?_ | refine ck_max ?_ | refine ck_min ?_ | refine ck_list ?_)
  | with_reducible refine wq_of ?_
  | (with_reducible show WG _ _ _ _ _; with_reducible first | refine wg_name (by with_unfolding_all exact rfl) ?_ | refine wg_tup (by with_unfolding_all exact rfl) ?_ | refine wg_set (by with_unfolding_all exact rfl) ?_)
  | (with_reducible show WGs _ _ _ _ _; with_reducible first | refine wgs_cons ?_ | refine wgs_nil ?_)
  | (with_reducible show WO _ _ _; with_reducible first | refine wo_some ?_ | refine wo_none ?_)
  | refine ⟨_, argD5, ?_⟩
  | refine ⟨_, argD6, ?_⟩
  | refine ⟨_, argD7, ?_⟩
  | refine ⟨_, argD9, ?_⟩
  | with_reducible refine iteT ?_
  | with_reducible refine iteF ?_
  | with_reducible refine ⟨_, frz_per, ?_⟩
  | with_reducible refine ⟨_, frz_own, ?_⟩
  | refine ⟨_, rfl, ?_⟩
  | refine ⟨_, argD1, ?_⟩
  | refine ⟨_, argD2, ?_⟩
  | refine ⟨_, argD0, ?_⟩
  | refine ⟨_, argD3, ?_⟩
  | refine ⟨_, argD4, ?_⟩
  | refine ⟨_, _, rfl, rfl, rfl, ?_⟩
  | refine ⟨_, _, _, rfl, rfl, rfl, ?_⟩
  | refine ⟨(by simp only [List.length_cons, List.length_nil]; decide), ?_⟩
  | refine ⟨rfl, nd1, ?_⟩
  | refine ⟨rfl, nd0, ?_⟩)
local macro_rules | `(tactic| walk_at "g3") => `(tactic| first | with_reducible refine we_dnew ?_ | with_reducible refine ck_tuple ?_ | with_reducible refine we_repr ?_ | with_reducible refine we_lenSetI ?_ | with_reducible refine we_revL ?_ | with_reducible refine wt_truL ?_ | walk_at "g2")
def placeB (n : Nat) : PyData → Bool
  | .int i => decide (0 ≤ i) && decide (i < n)
  | _ => false
abbrev F_Web_neighbours (a : Ad) : Fw := fun gs kk xx => ∃ (n : Nat) (ts : List (Int × Int)) (d : PyData), gs = [per (objP a.C_Web (webF n ts)), dat d] ∧ n < 100000 ∧ Valid n ts ∧
  (∀ w : Nat, d = .int w → w < n → kk (own ((nb ts w).map .int)) [none, none]) ∧ (placeB n d = false → xx (.ref a.C_InvalidPlace) [none, none])
abbrev sp_Web_neighbours (K : PySem.W.Frag) (a : Ad) : Sp := SpG 2 (F_Web_neighbours a)
end G

namespace G
open PySem L2
local macro_rules | `(tactic| walk_at "g1") => `(tactic| first
  | (with_reducible show WE _ _ _; with_reducible first | refine we_var (by with_unfolding_all exact rfl) ?_ | (show WE (tOp _ _ _) _ _; first | refine we_ixS (by with_unfolding_all exact rfl) ?_ | refine we_ixScr (by with_unfolding_all exact rfl) ?_ | refine we_inS (by with_unfolding_all exact rfl) ?_ | refine we_notInS (by with_unfolding_all exact rfl) ?_ | refine we_eqS (by with_unfolding_all exact rfl) ?_ | refine we_neS (by with_unfolding_all exact rfl) ?_ | refine we_opK ?_) | (show WE (tCB _ _) _ _; first | refine we_lenS' (by with_unfolding_all exact rfl) ?_ | refine we_lenScr (by with_unfolding_all exact rfl) ?_ | refine we_cbK ?_) | refine we_int ?_ | refine we_bl ?_ | refine we_non ?_ | refine we_str ?_ | refine we_neg ?_ | refine we_not ?_ | refine we_and ?_ | refine we_or ?_ | refine we_if ?_ | refine we_tup ?_ | refine we_lst ?_ | refine we_call ?_ | refine we_mt (by with_unfolding_all exact rfl) ?_)
  | (with_reducible show WS _ _ _ _; with_reducible first | refine ws_seqA ?_ | refine ws_seqD ?_ | refine ws_asg (by with_unfolding_all exact rfl) ?_ | refine ws_asgG ?_ | refine ws_if ?_ | refine ws_ret ?_ | refine ws_drop ?_ | refine ws_next ?_ | refine ws_retN ?_)
  | (with_reducible show WT _ _ _; with_reducible first | refine wt_test ?_ | refine wt_B ?_ | refine wt_not ?_ | refine wt_and ?_ | refine wt_or ?_ | refine wt_yes ?_)
  | (with_reducible show WA _ _ _; with_reducible first | refine wa_nil ?_ | refine wa_cons (wq_of (we_var (by with_unfolding_all exact rfl) ?_)) | refine wa_slotU (by with_unfolding_all exact rfl) ?_ | refine wa_cons ?_)
  | (with_reducible show OpK _ _ _ _ _; with_reducible first | refine ok_plusI ?_ | refine ok_sub ?_ | refine ok_lt ?_ | refine ok_le ?_ | refine ok_gt ?_ | refine ok_ge ?_ | refine ok_eqI ?_ | refine ok_neI ?_ | refine ok_mod (by first | assumption | decide | omega) ?_ | refine ok_ixL (by with_unfolding_all exact rfl) ?_)
  | (with_reducible show CbK _ _ _ _; with_reducible first | refine ck_lenL ?_ | refine ck_lenT ?_ | refine ck_int ?_ | refine ck_intB ?_ | refine ck_max ?_ | refine ck_min ?_ | refine ck_list ?_)
  | with_reducible refine wq_of ?_
  | (with_reducible show WG _ _ _ _ _; with_reducible first | refine wg_name (by with_unfolding_all exact rfl) ?_ | refine wg_tup (by with_unfolding_all exact rfl) ?_ | refine wg_set (by with_unfolding_all exact rfl) ?_)
  | (with_reducible show WGs _ _ _ _ _; with_reducible first | refine wgs_cons ?_ | refine wgs_nil ?_)
  | with_reducible refine iteT ?_
  | with_reducible refine iteF ?_
  | with_reducible refine ⟨_, frz_per, ?_⟩
  | with_reducible refine ⟨_, frz_own, ?_⟩
  | refine ⟨_, rfl, ?_⟩
  | refine ⟨_, argD1, ?_⟩
  | refine ⟨_, argD2, ?_⟩
  | refine ⟨_, argD0, ?_⟩
  | refine ⟨_, argD3, ?_⟩
  | refine ⟨_, argD4, ?_⟩
  | refine ⟨_, _, rfl, rfl, rfl, ?_⟩
  | refine ⟨_, _, _, rfl, rfl, rfl, ?_⟩
  | refine ⟨(by simp only [List.length_cons, List.length_nil]; decide), ?_⟩
  | refine ⟨rfl, nd1, ?_⟩
  | refine ⟨rfl, nd0, ?_⟩)
local macro_rules | `(tactic| walk_at "go") => `(tactic| repeat walk_at "g1")
local macro_rules | `(tactic| walk_at "g2") => `(tactic| first
  | (with_reducible show WE _ _ _; with_reducible first | refine we_var (by with_unfolding_all exact rfl) ?_ | (show WE (tOp _ _ _) _ _; first | refine we_notN ?_ | refine we_ixS (by with_unfolding_all exact rfl) ?_ | refine we_ixScr (by with_unfolding_all exact rfl) ?_ | refine we_inS (by with_unfolding_all exact rfl) ?_ | refine we_notInS (by with_unfolding_all exact rfl) ?_ | refine we_eqS (by with_unfolding_all exact rfl) ?_ | refine we_neS (by with_unfolding_all exact rfl) ?_ | refine we_opK ?_) | (show WE (tCB _ _) _ _; first | refine we_isInt ?_ | refine we_isBl ?_ | refine we_isLst ?_ | refine we_isTup ?_ | refine we_lenO (by with_unfolding_all exact rfl) ?_ | refine we_lenS' (by with_unfolding_all exact rfl) ?_ | refine we_lenScr (by with_unfolding_all exact rfl) ?_ | refine we_cbK ?_) | refine we_chain ?_ | refine we_slice ?_ | refine we_int ?_ | refine we_bl ?_ | refine we_non ?_ | refine we_str ?_ | refine we_neg ?_ | refine we_not ?_ | refine we_and ?_ | refine we_or ?_ | refine we_if ?_ | refine we_tup ?_ | refine we_lst ?_ | refine we_call ?_ | refine we_mt (by with_unfolding_all exact rfl) ?_)
  | (with_reducible show WS _ _ _ _; with_reducible first | refine ws_seqA ?_ | refine ws_seqD ?_ | refine ws_asg (by with_unfolding_all exact rfl) ?_ | refine ws_asgG ?_ | refine ws_if ?_ | refine ws_ret ?_ | refine ws_drop ?_ | refine ws_next ?_ | refine ws_retN ?_)
  | (with_reducible show WT _ _ _; with_reducible first | refine wt_test ?_ | refine wt_B ?_ | refine wt_not ?_ | refine wt_and ?_ | refine wt_or ?_ | refine wt_yes ?_)
  | (with_reducible show WA _ _ _; with_reducible first | refine wa_nil ?_ | refine wa_cons (wq_of (we_var (by with_unfolding_all exact rfl) ?_)) | refine wa_slotU (by with_unfolding_all exact rfl) ?_ | refine wa_cons ?_)
  | (with_reducible show OpK _ _ _ _ _; with_reducible first | refine ok_isB ?_ | refine ok_notB ?_ | refine ok_plusI ?_ | refine ok_sub ?_ | refine ok_lt ?_ | refine ok_le ?_ | refine ok_gt ?_ | refine ok_ge ?_ | refine ok_eqI ?_ | refine ok_neI ?_ | refine ok_mod (by first | assumption | decide | omega) ?_ | refine ok_ixL (by with_unfolding_all exact rfl) ?_)
  | (with_reducible show CbK _ _ _ _; with_reducible first | refine ck_lenL ?_ | refine ck_lenT ?_ | refine ck_int ?_ | refine ck_intB ?_ | refine ck_max ?_ | refine ck_min ?_ | refine ck_list ?_)
  | with_reducible refine wq_of ?_
  | (with_reducible show WG _ _ _ _ _; with_reducible first | refine wg_name (by with_unfolding_all exact rfl) ?_ | refine wg_tup (by with_unfolding_all exact rfl) ?_ | refine wg_set (by with_unfolding_all exact rfl) ?_)
  | (with_reducible show WGs _ _ _ _ _; with_reducible first | refine wgs_cons ?_ | refine wgs_nil ?_)
  | (with_reducible show WO _ _ _; with_reducible first | refine wo_some ?_ | refine wo_none ?_)
  | refine ⟨_, argD5, ?_⟩
  | refine ⟨_, argD6, ?_⟩
  | refine ⟨_, argD7, ?_⟩
  | refine ⟨_, argD9, ?_⟩
  | with_reducible refine iteT ?_
  | with_reducible refine iteF ?_
  | with_reducible refine ⟨_, frz_per, ?_⟩
  | with_reducible refine ⟨_, frz_own, ?_⟩
  | refine ⟨_, rfl, ?_⟩
  | refine ⟨_, argD1, ?_⟩
  | refine ⟨_, argD2, ?_⟩
  | refine ⟨_, argD0, ?_⟩
  | refine ⟨_, argD3, ?_⟩
  | refine ⟨_, argD4, ?_⟩
  | refine ⟨_, _, rfl, rfl, rfl, ?_⟩
  | refine ⟨_, _, _, rfl, rfl, rfl, ?_⟩
  | refine ⟨(by simp only [List.length_cons, List.length_nil]; decide), ?_⟩
  | refine ⟨rfl, nd1, ?_⟩
  | refine ⟨rfl, nd0, ?_⟩)
local macro_rules | `(tactic| walk_at "w") => `(tactic| first
  | (with_reducible show WE _ _ _; with_reducible first | refine we_var (by with_unfolding_all exact rfl) ?_ | refine we_varF (by with_unfolding_all exact rfl) frz_own ?_ | (show WE (tOp _ _ _) _ _; first | refine we_isNd ?_ | refine we_notNd ?_ | refine we_notN ?_ | refine we_ixS (by with_unfolding_all exact rfl) ?_ | refine we_ixScr (by with_unfolding_all exact rfl) ?_ | refine we_inS (by with_unfolding_all exact rfl) ?_ | refine we_notInS (by with_unfolding_all exact rfl) ?_ | refine we_eqS (by with_unfolding_all exact rfl) ?_ | refine we_neS (by with_unfolding_all exact rfl) ?_ | refine we_opK ?_) | (show WE (tCB _ _) _ _; first | refine we_repr ?_ | refine we_isInt ?_ | refine we_isBl ?_ | refine we_isLst ?_ | refine we_isTup ?_ | refine we_lenO (by with_unfolding_all exact rfl) ?_ | refine we_lenS' (by with_unfolding_all exact rfl) ?_ | refine we_lenScr (by with_unfolding_all exact rfl) ?_ | refine we_cbK ?_) | refine we_dnew ?_ | refine we_lenSetI ?_ | refine we_revL ?_ | refine we_chain ?_ | refine we_slice ?_ | refine we_int ?_ | refine we_bl ?_ | refine we_non ?_ | refine we_str ?_ | refine we_neg ?_ | refine we_not ?_ | refine we_and ?_ | refine we_or ?_ | refine we_if ?_ | refine we_tup ?_ | refine we_lst ?_ | refine we_call ?_ | refine we_mt (by with_unfolding_all exact rfl) ?_)
  | (with_reducible show WS _ _ _ _; with_reducible first | refine ws_seqI ?_ | refine ws_seqA ?_ | refine ws_seqD ?_ | refine ws_asg (by with_unfolding_all exact rfl) ?_ | refine ws_asgG ?_ | refine ws_if ?_ | refine ws_ret ?_ | refine ws_drop ?_ | refine ws_next ?_ | refine ws_retN ?_)
  | (with_reducible show WT _ _ _; with_reducible first | refine wt_truL ?_ | refine wt_test ?_ | refine wt_B ?_ | refine wt_not ?_ | refine wt_and ?_ | refine wt_or ?_ | refine wt_yes ?_)
  | (with_reducible show WA _ _ _; with_reducible first | refine wa_nil ?_ | refine wa_cons (wq_of (we_var (by with_unfolding_all exact rfl) ?_)) | refine wa_slotU (by with_unfolding_all exact rfl) ?_ | refine wa_cons ?_)
  | (with_reducible show OpK _ _ _ _ _; with_reducible first | refine ok_neR ?_ | refine ok_eqR ?_ | refine ok_isB ?_ | refine ok_notB ?_ | refine ok_plusI ?_ | refine ok_sub ?_ | refine ok_lt ?_ | refine ok_le ?_ | refine ok_gt ?_ | refine ok_ge ?_ | refine ok_eqI ?_ | refine ok_neI ?_ | refine ok_mod (by first | assumption | decide | omega) ?_ | refine ok_ixL (by with_unfolding_all exact rfl) ?_)
  | (with_reducible show CbK _ _ _ _; with_reducible first | refine ck_tuple ?_ | refine ck_allF ?_ | refine ck_anyF ?_ | refine ck_abs ?_ | refine ck_sumI ?_ | refine ck_lenL ?_ | refine ck_lenT ?_ | refine ck_int ?_ | refine ck_intB ?_ | refine ck_max ?_ | refine ck_min ?_ | refine ck_list ?_)
  | with_reducible refine wq_of ?_
  | (with_reducible show WG _ _ _ _ _; with_reducible first | refine wg_name (by with_unfolding_all exact rfl) ?_ | refine wg_tup (by with_unfolding_all exact rfl) ?_ | refine wg_set (by with_unfolding_all exact rfl) ?_)
  | (with_reducible show WGs _ _ _ _ _; with_reducible first | refine wgs_cons ?_ | refine wgs_nil ?_)
  | (with_reducible show WO _ _ _; with_reducible first | refine wo_some ?_ | refine wo_none ?_)
  | refine ⟨_, argD5, ?_⟩
  | refine ⟨_, argD6, ?_⟩
  | refine ⟨_, argD7, ?_⟩
  | refine ⟨_, argD9, ?_⟩
  | with_reducible refine iteT ?_
  | with_reducible refine iteF ?_
  | with_reducible refine ⟨_, frz_per, ?_⟩
  | with_reducible refine ⟨_, frz_own, ?_⟩
  | refine ⟨_, rfl, ?_⟩
  | refine ⟨_, argD1, ?_⟩
  | refine ⟨_, argD2, ?_⟩
  | refine ⟨_, argD0, ?_⟩
  | refine ⟨_, argD3, ?_⟩
  | refine ⟨_, argD4, ?_⟩
  | refine ⟨_, _, rfl, rfl, rfl, ?_⟩
  | refine ⟨_, _, _, rfl, rfl, rfl, ?_⟩
  | refine ⟨(by simp only [List.length_cons, List.length_nil]; decide), ?_⟩
  | refine ⟨rfl, nd1, ?_⟩
  | refine ⟨rfl, nd0, ?_⟩
  | refine ⟨_, argD8, ?_⟩
  | refine ⟨_, argD10, ?_⟩)
/-! ### what is asked of a web, as rules -/
section
variable {K : PySem.W.Frag} {a : Ad} {Γ : Ga} {k : Gp → Ga → Prop} {tr : TA} {E : XK} {n : Nat} {ts : List (Int × Int)}
theorem we_lenWeb {i : Nat} (h : Γ[i]? = some (some (per (objP a.C_Web (webF n ts))))) (hn : n < 100000) (hk : k (dat (.int n)) Γ) : WE (tCB (rLenOwn a.C_Web (sp_Web_len_ K a) E) (tCons (tVar i) tNil)) Γ k := by
  have hnl : ((nearL n ts).map PyData.list).length = n := by rw [List.length_map, nearL_len]
  refine we_lenO h ⟨webF n ts, _, rfl, webF_near, _, rfl, by omega, by rw [hnl]; omega, ?_⟩
  rw [hnl]
  exact hk
theorem we_nbWeb {i : Nat} (h : Γ[i]? = some (some (per (objP a.C_Web (webF n ts))))) (hn : n < 100000) (hv : Valid n ts) (ha : WA tr Γ fun as Γ1 => ∃ w : Int, as = [.q (dP (.int w))] ∧ Γ1[i]? = some (some (per (objP a.C_Web (webF n ts)))) ∧ (0 ≤ w ∧ w < n) ∧ k (own ((nb ts w).map .int)) Γ1) :
    WE (tMeth a.C_Web "neighbours" (sp_Web_neighbours K a) [] E (tVar i) tr) Γ k := by
  refine we_meth h (webF_no (by decide +kernel) (by decide +kernel)) (ha.imp fun as Γ1 ⟨w, e, hi, ⟨h0, h1⟩, hk⟩ => ?_)
  subst e
  refine ⟨hi, rfl, rfl, n, ts, .int w, rfl, hn, hv, fun w' e hw => ?_, fun hb => ?_⟩
  · cases e
    exact hk
  · have : (decide (0 ≤ w) && decide (w < (n : Int))) = false := hb
    rw [decide_eq_true h0, decide_eq_true h1] at this
    cases this
theorem we_tiesWeb {i : Nat} (h : Γ[i]? = some (some (per (objP a.C_Web (webF n ts))))) (hk : k (own (ts.map tieD)) Γ) : WE (tProp a.C_Web (sp_Web_ties K a) [] E (tVar i)) Γ k :=
  we_prop h ⟨_, _, rfl, webF_ties, hk⟩
end
end G

namespace G
open PySem L2
local macro_rules | `(tactic| walk_at "g1") => `(tactic| first
  | (with_reducible show WE _ _ _; with_reducible first | refine we_var (by with_unfolding_all exact rfl) ?_ | (show WE (tOp _ _ _) _ _; first | refine we_ixS (by with_unfolding_all exact rfl) ?_ | refine we_ixScr (by with_unfolding_all exact rfl) ?_ | refine we_inS (by with_unfolding_all exact rfl) ?_ | refine we_notInS (by with_unfolding_all exact rfl) ?_ | refine we_eqS (by with_unfolding_all exact rfl) ?_ | refine we_neS (by with_unfolding_all exact rfl) ?_ | refine we_opK ?_) | (show WE (tCB _ _) _ _; first | refine we_lenS' (by with_unfolding_all exact rfl) ?_ | refine we_lenScr (by with_unfolding_all exact rfl) ?_ | refine we_cbK ?_) | refine we_int ?_ | refine we_bl ?_ | refine we_non ?_ | refine we_str ?_ | refine we_neg ?_ | refine we_not ?_ | refine we_and ?_ | refine we_or ?_ | refine we_if ?_ | refine we_tup ?_ | refine we_lst ?_ | refine we_call ?_ | refine we_mt (by with_unfolding_all exact rfl) ?_)
  | (with_reducible show WS _ _ _ _; with_reducible first | refine ws_seqA ?_ | refine ws_seqD ?_ | refine ws_asg (by with_unfolding_all exact rfl) ?_ | refine ws_asgG ?_ | refine ws_if ?_ | refine ws_ret ?_ | refine ws_drop ?_ | refine ws_next ?_ | refine ws_retN ?_)
  | (with_reducible show WT _ _ _; with_reducible first | refine wt_test ?_ | refine wt_B ?_ | refine wt_not ?_ | refine wt_and ?_ | refine wt_or ?_ | refine wt_yes ?_)
  | (with_reducible show WA _ _ _; with_reducible first | refine wa_nil ?_ | refine wa_cons (wq_of (we_var (by with_unfolding_all exact rfl) ?_)) | refine wa_slotU (by with_unfolding_all exact rfl) ?_ | refine wa_cons ?_)
  | (with_reducible show OpK _ _ _ _ _; with_reducible first | refine ok_plusI ?_ | refine ok_sub ?_ | refine ok_lt ?_ | refine ok_le ?_ | refine ok_gt ?_ | refine ok_ge ?_ | refine ok_eqI ?_ | refine ok_neI ?_ | refine ok_mod (by first | assumption | decide | omega) ?_ | refine ok_ixL (by with_unfolding_all exact rfl) ?_)
  | (with_reducible show CbK _ _ _ _; with_reducible first | refine ck_lenL ?_ | refine ck_lenT ?_ | refine ck_int ?_ | refine ck_intB ?_ | refine ck_max ?_ | refine ck_min ?_ | refine ck_list ?_)
  | with_reducible refine wq_of ?_
  | (with_reducible show WG _ _ _ _ _; with_reducible first | refine wg_name (by with_unfolding_all exact rfl) ?_ | refine wg_tup (by with_unfolding_all exact rfl) ?_ | refine wg_set (by with_unfolding_all exact rfl) ?_)
  | (with_reducible show WGs _ _ _ _ _; with_reducible first | refine wgs_cons ?_ | refine wgs_nil ?_)
  | with_reducible refine iteT ?_
  | with_reducible refine iteF ?_
  | with_reducible refine ⟨_, frz_per, ?_⟩
  | with_reducible refine ⟨_, frz_own, ?_⟩
  | refine ⟨_, rfl, ?_⟩
  | refine ⟨_, argD1, ?_⟩
  | refine ⟨_, argD2, ?_⟩
  | refine ⟨_, argD0, ?_⟩
  | refine ⟨_, argD3, ?_⟩
  | refine ⟨_, argD4, ?_⟩
  | refine ⟨_, _, rfl, rfl, rfl, ?_⟩
  | refine ⟨_, _, _, rfl, rfl, rfl, ?_⟩
  | refine ⟨(by simp only [List.length_cons, List.length_nil]; decide), ?_⟩
  | refine ⟨rfl, nd1, ?_⟩
  | refine ⟨rfl, nd0, ?_⟩)
local macro_rules | `(tactic| walk_at "go") => `(tactic| repeat walk_at "g1")
local macro_rules | `(tactic| walk_at "g2") => `(tactic| first
  | (with_reducible show WE _ _ _; with_reducible first | refine we_var (by with_unfolding_all exact rfl) ?_ | (show WE (tOp _ _ _) _ _; first | refine we_notN ?_ | refine we_ixS (by with_unfolding_all exact rfl) ?_ | refine we_ixScr (by with_unfolding_all exact rfl) ?_ | refine we_inS (by with_unfolding_all exact rfl) ?_ | refine we_notInS (by with_unfolding_all exact rfl) ?_ | refine we_eqS (by with_unfolding_all exact rfl) ?_ | refine we_neS (by with_unfolding_all exact rfl) ?_ | refine we_opK ?_) | (show WE (tCB _ _) _ _; first | refine we_isInt ?_ | refine we_isBl ?_ | refine we_isLst ?_ | refine we_isTup ?_ | refine we_lenO (by with_unfolding_all exact rfl) ?_ | refine we_lenS' (by with_unfolding_all exact rfl) ?_ | refine we_lenScr (by with_unfolding_all exact rfl) ?_ | refine we_cbK ?_) | refine we_chain ?_ | refine we_slice ?_ | refine we_int ?_ | refine we_bl ?_ | refine we_non ?_ | refine we_str ?_ | refine we_neg ?_ | refine we_not ?_ | refine we_and ?_ | refine we_or ?_ | refine we_if ?_ | refine we_tup ?_ | refine we_lst ?_ | refine we_call ?_ | refine we_mt (by with_unfolding_all exact rfl) ?_)
  | (with_reducible show WS _ _ _ _; with_reducible first | refine ws_seqA ?_ | refine ws_seqD ?_ | refine ws_asg (by with_unfolding_all exact rfl) ?_ | refine ws_asgG ?_ | refine ws_if ?_ | refine ws_ret ?_ | refine ws_drop ?_ | refine ws_next ?_ | refine ws_retN ?_)
  | (with_reducible show WT _ _ _; with_reducible first | refine wt_test ?_ | refine wt_B ?_ | refine wt_not ?_ | refine wt_and ?_ | refine wt_or ?_ | refine wt_yes ?_)
  | (with_reducible show WA _ _ _; with_reducible first | refine wa_nil ?_ | refine wa_cons (wq_of (we_var (by with_unfolding_all exact rfl) ?_)) | refine wa_slotU (by with_unfolding_all exact rfl) ?_ | refine wa_cons ?_)
  | (with_reducible show OpK _ _ _ _ _; with_reducible first | refine ok_isB ?_ | refine ok_notB ?_ | refine ok_plusI ?_ | refine ok_sub ?_ | refine ok_lt ?_ | refine ok_le ?_ | refine ok_gt ?_ | refine ok_ge ?_ | refine ok_eqI ?_ | refine ok_neI ?_ | refine ok_mod (by first | assumption | decide | omega) ?_ | refine ok_ixL (by with_unfolding_all exact rfl) ?_)
  | (with_reducible show CbK _ _ _ _; with_reducible first | refine ck_lenL ?_ | refine ck_lenT ?_ | refine ck_int ?_ | refine ck_intB ?_ | refine ck_max ?_ | refine ck_min ?_ | refine ck_list ?_)
  | with_reducible refine wq_of ?_
  | (with_reducible show WG _ _ _ _ _; with_reducible first | refine wg_name (by with_unfolding_all exact rfl) ?_ | refine wg_tup (by with_unfolding_all exact rfl) ?_ | refine wg_set (by with_unfolding_all exact rfl) ?_)
  | (with_reducible show WGs _ _ _ _ _; with_reducible first | refine wgs_cons ?_ | refine wgs_nil ?_)
  | (with_reducible show WO _ _ _; with_reducible first | refine wo_some ?_ | refine wo_none ?_)
  | refine ⟨_, argD5, ?_⟩
  | refine ⟨_, argD6, ?_⟩
  | refine ⟨_, argD7, ?_⟩
  | refine ⟨_, argD9, ?_⟩
  | with_reducible refine iteT ?_
  | with_reducible refine iteF ?_
  | with_reducible refine ⟨_, frz_per, ?_⟩
  | with_reducible refine ⟨_, frz_own, ?_⟩
  | refine ⟨_, rfl, ?_⟩
  | refine ⟨_, argD1, ?_⟩
  | refine ⟨_, argD2, ?_⟩
  | refine ⟨_, argD0, ?_⟩
  | refine ⟨_, argD3, ?_⟩
  | refine ⟨_, argD4, ?_⟩
  | refine ⟨_, _, rfl, rfl, rfl, ?_⟩
  | refine ⟨_, _, _, rfl, rfl, rfl, ?_⟩
  | refine ⟨(by simp only [List.length_cons, List.length_nil]; decide), ?_⟩
  | refine ⟨rfl, nd1, ?_⟩
  | refine ⟨rfl, nd0, ?_⟩)
local macro_rules | `(tactic| walk_at "w") => `(tactic| first
  | (with_reducible show WE _ _ _; with_reducible first | refine we_var (by with_unfolding_all exact rfl) ?_ | refine we_varF (by with_unfolding_all exact rfl) frz_own ?_ | (show WE (tOp _ _ _) _ _; first | refine we_isNd ?_ | refine we_notNd ?_ | refine we_notN ?_ | refine we_ixS (by with_unfolding_all exact rfl) ?_ | refine we_ixScr (by with_unfolding_all exact rfl) ?_ | refine we_inS (by with_unfolding_all exact rfl) ?_ | refine we_notInS (by with_unfolding_all exact rfl) ?_ | refine we_eqS (by with_unfolding_all exact rfl) ?_ | refine we_neS (by with_unfolding_all exact rfl) ?_ | refine we_opK ?_) | (show WE (tCB _ _) _ _; first | refine we_repr ?_ | refine we_isInt ?_ | refine we_isBl ?_ | refine we_isLst ?_ | refine we_isTup ?_ | refine we_lenO (by with_unfolding_all exact rfl) ?_ | refine we_lenS' (by with_unfolding_all exact rfl) ?_ | refine we_lenScr (by with_unfolding_all exact rfl) ?_ | refine we_cbK ?_) | refine we_dnew ?_ | refine we_lenSetI ?_ | refine we_revL ?_ | refine we_chain ?_ | refine we_slice ?_ | refine we_int ?_ | refine we_bl ?_ | refine we_non ?_ | refine we_str ?_ | refine we_neg ?_ | refine we_not ?_ | refine we_and ?_ | refine we_or ?_ | refine we_if ?_ | refine we_tup ?_ | refine we_lst ?_ | refine we_call ?_ | refine we_mt (by with_unfolding_all exact rfl) ?_)
  | (with_reducible show WS _ _ _ _; with_reducible first | refine ws_seqI ?_ | refine ws_seqA ?_ | refine ws_seqD ?_ | refine ws_asg (by with_unfolding_all exact rfl) ?_ | refine ws_asgG ?_ | refine ws_if ?_ | refine ws_ret ?_ | refine ws_drop ?_ | refine ws_next ?_ | refine ws_retN ?_)
  | (with_reducible show WT _ _ _; with_reducible first | refine wt_truL ?_ | refine wt_test ?_ | refine wt_B ?_ | refine wt_not ?_ | refine wt_and ?_ | refine wt_or ?_ | refine wt_yes ?_)
  | (with_reducible show WA _ _ _; with_reducible first | refine wa_nil ?_ | refine wa_cons (wq_of (we_var (by with_unfolding_all exact rfl) ?_)) | refine wa_slotU (by with_unfolding_all exact rfl) ?_ | refine wa_cons ?_)
  | (with_reducible show OpK _ _ _ _ _; with_reducible first | refine ok_neR ?_ | refine ok_eqR ?_ | refine ok_isB ?_ | refine ok_notB ?_ | refine ok_plusI ?_ | refine ok_sub ?_ | refine ok_lt ?_ | refine ok_le ?_ | refine ok_gt ?_ | refine ok_ge ?_ | refine ok_eqI ?_ | refine ok_neI ?_ | refine ok_mod (by first | assumption | decide | omega) ?_ | refine ok_ixL (by with_unfolding_all exact rfl) ?_)
  | (with_reducible show CbK _ _ _ _; with_reducible first | refine ck_tuple ?_ | refine ck_allF ?_ | refine ck_anyF ?_ | refine ck_abs ?_ | refine ck_sumI ?_ | refine ck_lenL ?_ | refine ck_lenT ?_ | refine ck_int ?_ | refine ck_intB ?_ | refine ck_max ?_ | refine ck_min ?_ | refine ck_list ?_)
  | with_reducible refine wq_of ?_
  | (with_reducible show WG _ _ _ _ _; with_reducible first | refine wg_name (by with_unfolding_all exact rfl) ?_ | refine wg_tup (by with_unfolding_all exact rfl) ?_ | refine wg_set (by with_unfolding_all exact rfl) ?_)
  | (with_reducible show WGs _ _ _ _ _; with_reducible first | refine wgs_cons ?_ | refine wgs_nil ?_)
  | (with_reducible show WO _ _ _; with_reducible first | refine wo_some ?_ | refine wo_none ?_)
  | refine ⟨_, argD5, ?_⟩
  | refine ⟨_, argD6, ?_⟩
  | refine ⟨_, argD7, ?_⟩
  | refine ⟨_, argD9, ?_⟩
  | with_reducible refine iteT ?_
  | with_reducible refine iteF ?_
  | with_reducible refine ⟨_, frz_per, ?_⟩
  | with_reducible refine ⟨_, frz_own, ?_⟩
  | refine ⟨_, rfl, ?_⟩
  | refine ⟨_, argD1, ?_⟩
  | refine ⟨_, argD2, ?_⟩
  | refine ⟨_, argD0, ?_⟩
  | refine ⟨_, argD3, ?_⟩
  | refine ⟨_, argD4, ?_⟩
  | refine ⟨_, _, rfl, rfl, rfl, ?_⟩
  | refine ⟨_, _, _, rfl, rfl, rfl, ?_⟩
  | refine ⟨(by simp only [List.length_cons, List.length_nil]; decide), ?_⟩
  | refine ⟨rfl, nd1, ?_⟩
  | refine ⟨rfl, nd0, ?_⟩
  | refine ⟨_, argD8, ?_⟩
  | refine ⟨_, argD10, ?_⟩)
local macro_rules | `(tactic| walk_at "v") => `(tactic| first
  | (with_reducible show WE _ _ _; with_reducible first | refine we_var (by with_unfolding_all exact rfl) ?_ | refine we_varF (by with_unfolding_all exact rfl) frz_own ?_ | (show WE (tOp _ _ _) _ _; first | refine we_isNd ?_ | refine we_notNd ?_ | refine we_notN ?_ | refine we_ixS (by with_unfolding_all exact rfl) ?_ | refine we_ixScr (by with_unfolding_all exact rfl) ?_ | refine we_inS (by with_unfolding_all exact rfl) ?_ | refine we_notInS (by with_unfolding_all exact rfl) ?_ | refine we_eqS (by with_unfolding_all exact rfl) ?_ | refine we_neS (by with_unfolding_all exact rfl) ?_ | refine we_opK ?_) | (show WE (tCB _ _) _ _; first | refine we_repr ?_ | refine we_lenWeb (by with_unfolding_all exact rfl) (by assumption) ?_ | refine we_isInt ?_ | refine we_isBl ?_ | refine we_isLst ?_ | refine we_isTup ?_ | refine we_lenO (by with_unfolding_all exact rfl) ?_ | refine we_lenS' (by with_unfolding_all exact rfl) ?_ | refine we_lenScr (by with_unfolding_all exact rfl) ?_ | refine we_cbK ?_) | refine we_dnew ?_ | refine we_lenSetI ?_ | refine we_revL ?_ | refine we_nbWeb (by with_unfolding_all exact rfl) (by assumption) (by assumption) ?_ | refine we_tiesWeb (by with_unfolding_all exact rfl) ?_ | refine we_chain ?_ | refine we_slice ?_ | refine we_int ?_ | refine we_bl ?_ | refine we_non ?_ | refine we_str ?_ | refine we_neg ?_ | refine we_not ?_ | refine we_and ?_ | refine we_or ?_ | refine we_if ?_ | refine we_tup ?_ | refine we_lst ?_ | refine we_call ?_ | refine we_mt (by with_unfolding_all exact rfl) ?_)
  | (with_reducible show WS _ _ _ _; with_reducible first | refine ws_seqI ?_ | refine ws_seqA ?_ | refine ws_seqD ?_ | refine ws_asg (by with_unfolding_all exact rfl) ?_ | refine ws_asgG ?_ | refine ws_if ?_ | refine ws_ret ?_ | refine ws_drop ?_ | refine ws_next ?_ | refine ws_retN ?_)
  | (with_reducible show WT _ _ _; with_reducible first | refine wt_truL ?_ | refine wt_test ?_ | refine wt_B ?_ | refine wt_not ?_ | refine wt_and ?_ | refine wt_or ?_ | refine wt_yes ?_)
  | (with_reducible show WA _ _ _; with_reducible first | refine wa_nil ?_ | refine wa_cons (wq_of (we_var (by with_unfolding_all exact rfl) ?_)) | refine wa_slotU (by with_unfolding_all exact rfl) ?_ | refine wa_cons ?_)
  | (with_reducible show OpK _ _ _ _ _; with_reducible first | refine ok_neR ?_ | refine ok_eqR ?_ | refine ok_isB ?_ | refine ok_notB ?_ | refine ok_plusI ?_ | refine ok_sub ?_ | refine ok_lt ?_ | refine ok_le ?_ | refine ok_gt ?_ | refine ok_ge ?_ | refine ok_eqI ?_ | refine ok_neI ?_ | refine ok_mod (by first | assumption | decide | omega) ?_ | refine ok_ixL (by with_unfolding_all exact rfl) ?_)
  | (with_reducible show CbK _ _ _ _; with_reducible first | refine ck_tuple ?_ | refine ck_allF ?_ | refine ck_anyF ?_ | refine ck_abs ?_ | refine ck_sumI ?_ | refine ck_lenL ?_ | refine ck_lenT ?_ | refine ck_int ?_ | refine ck_intB ?_ | refine ck_max ?_ | refine ck_min ?_ | refine ck_list ?_)
  | with_reducible refine wq_of ?_
  | (with_reducible show WG _ _ _ _ _; with_reducible first | refine wg_name (by with_unfolding_all exact rfl) ?_ | refine wg_tup (by with_unfolding_all exact rfl) ?_ | refine wg_set (by with_unfolding_all exact rfl) ?_)
  | (with_reducible show WGs _ _ _ _ _; with_reducible first | refine wgs_cons ?_ | refine wgs_nil ?_)
  | (with_reducible show WO _ _ _; with_reducible first | refine wo_some ?_ | refine wo_none ?_)
  | refine ⟨_, argD5, ?_⟩
  | refine ⟨_, argD6, ?_⟩
  | refine ⟨_, argD7, ?_⟩
  | refine ⟨_, argD9, ?_⟩
  | with_reducible refine iteT ?_
  | with_reducible refine iteF ?_
  | with_reducible refine ⟨_, frz_per, ?_⟩
  | with_reducible refine ⟨_, frz_own, ?_⟩
  | refine ⟨_, rfl, ?_⟩
  | refine ⟨_, argD1, ?_⟩
  | refine ⟨_, argD2, ?_⟩
  | refine ⟨_, argD0, ?_⟩
  | refine ⟨_, argD3, ?_⟩
  | refine ⟨_, argD4, ?_⟩
  | refine ⟨_, _, rfl, rfl, rfl, ?_⟩
  | refine ⟨_, _, _, rfl, rfl, rfl, ?_⟩
  | refine ⟨(by simp only [List.length_cons, List.length_nil]; decide), ?_⟩
  | refine ⟨rfl, nd1, ?_⟩
  | refine ⟨rfl, nd0, ?_⟩
  | refine ⟨_, argD8, ?_⟩
  | refine ⟨_, argD10, ?_⟩)
local macro_rules | `(tactic| walk_at "p") => `(tactic| refine ⟨_, _, rfl, (by omega), (by first | decide | omega), (by first | decide | omega), ?_⟩)
local macro_rules | `(tactic| walk_at "n") => `(tactic| try dsimp only [back, List.set_cons_zero, List.set_cons_succ, List.map_cons, List.map_nil, List.cons_append, List.nil_append])
local macro_rules | `(tactic| walk_at "q") => `(tactic| first | with_reducible refine ws_seqP (ws_par (by with_unfolding_all exact rfl) (by with_unfolding_all exact rfl) ?_) | refine ⟨_, _, rfl, ?_⟩ | walk_at "v")
section
variable {K : PySem.W.Frag} {a : Ad} {Γ : Ga} {k : Gp → Ga → Prop} {tr : TA} {E : XK}
end
/-- data told apart: the lists are the same -/
theorem EncOk.inj {α : Type} [DecidableEq α] {n : Nat} {enc : α → PyData} (h : EncOk n enc) {x y : α} (e : enc x = enc y) : x = y := by
  have h1 := h.eqv x y
  rw [e, h.eqv y y, decide_eq_true rfl] at h1
  exact of_decide_eq_true h1.symm
end G

namespace G
open PySem L2
local macro_rules | `(tactic| walk_at "g1") => `(tactic| first
  | (with_reducible show WE _ _ _; with_reducible first | refine we_var (by with_unfolding_all exact rfl) ?_ | (show WE (tOp _ _ _) _ _; first | refine we_ixS (by with_unfolding_all exact rfl) ?_ | refine we_ixScr (by with_unfolding_all exact rfl) ?_ | refine we_inS (by with_unfolding_all exact rfl) ?_ | refine we_notInS (by with_unfolding_all exact rfl) ?_ | refine we_eqS (by with_unfolding_all exact rfl) ?_ | refine we_neS (by with_unfolding_all exact rfl) ?_ | refine we_opK ?_) | (show WE (tCB _ _) _ _; first | refine we_lenS' (by with_unfolding_all exact rfl) ?_ | refine we_lenScr (by with_unfolding_all exact rfl) ?_ | refine we_cbK ?_) | refine we_int ?_ | refine we_bl ?_ | refine we_non ?_ | refine we_str ?_ | refine we_neg ?_ | refine we_not ?_ | refine we_and ?_ | refine we_or ?_ | refine we_if ?_ | refine we_tup ?_ | refine we_lst ?_ | refine we_call ?_ | refine we_mt (by with_unfolding_all exact rfl) ?_)
  | (with_reducible show WS _ _ _ _; with_reducible first | refine ws_seqA ?_ | refine ws_seqD ?_ | refine ws_asg (by with_unfolding_all exact rfl) ?_ | refine ws_asgG ?_ | refine ws_if ?_ | refine ws_ret ?_ | refine ws_drop ?_ | refine ws_next ?_ | refine ws_retN ?_)
  | (with_reducible show WT _ _ _; with_reducible first | refine wt_test ?_ | refine wt_B ?_ | refine wt_not ?_ | refine wt_and ?_ | refine wt_or ?_ | refine wt_yes ?_)
  | (with_reducible show WA _ _ _; with_reducible first | refine wa_nil ?_ | refine wa_cons (wq_of (we_var (by with_unfolding_all exact rfl) ?_)) | refine wa_slotU (by with_unfolding_all exact rfl) ?_ | refine wa_cons ?_)
  | (with_reducible show OpK _ _ _ _ _; with_reducible first | refine ok_plusI ?_ | refine ok_sub ?_ | refine ok_lt ?_ | refine ok_le ?_ | refine ok_gt ?_ | refine ok_ge ?_ | refine ok_eqI ?_ | refine ok_neI ?_ | refine ok_mod (by first | assumption | decide | omega) ?_ | refine ok_ixL (by with_unfolding_all exact rfl) ?_)
  | (with_reducible show CbK _ _ _ _; with_reducible first | refine ck_lenL ?_ | refine ck_lenT ?_ | refine ck_int ?_ | refine ck_intB ?_ | refine ck_max ?_ | refine ck_min ?_ | refine ck_list ?_)
  | with_reducible refine wq_of ?_
  | (with_reducible show WG _ _ _ _ _; with_reducible first | refine wg_name (by with_unfolding_all exact rfl) ?_ | refine wg_tup (by with_unfolding_all exact rfl) ?_ | refine wg_set (by with_unfolding_all exact rfl) ?_)
  | (with_reducible show WGs _ _ _ _ _; with_reducible first | refine wgs_cons ?_ | refine wgs_nil ?_)
  | with_reducible refine iteT ?_
  | with_reducible refine iteF ?_
  | with_reducible refine ⟨_, frz_per, ?_⟩
  | with_reducible refine ⟨_, frz_own, ?_⟩
  | refine ⟨_, rfl, ?_⟩
  | refine ⟨_, argD1, ?_⟩
  | refine ⟨_, argD2, ?_⟩
  | refine ⟨_, argD0, ?_⟩
  | refine ⟨_, argD3, ?_⟩
  | refine ⟨_, argD4, ?_⟩
  | refine ⟨_, _, rfl, rfl, rfl, ?_⟩
  | refine ⟨_, _, _, rfl, rfl, rfl, ?_⟩
  | refine ⟨(by simp only [List.length_cons, List.length_nil]; decide), ?_⟩
  | refine ⟨rfl, nd1, ?_⟩
  | refine ⟨rfl, nd0, ?_⟩)
local macro_rules | `(tactic| walk_at "go") => `(tactic| repeat walk_at "g1")
local macro_rules | `(tactic| walk_at "g2") => `(tactic| first
  | (with_reducible show WE _ _ _; with_reducible first | refine we_var (by with_unfolding_all exact rfl) ?_ | (show WE (tOp _ _ _) _ _; first | refine we_notN ?_ | refine we_ixS (by with_unfolding_all exact rfl) ?_ | refine we_ixScr (by with_unfolding_all exact rfl) ?_ | refine we_inS (by with_unfolding_all exact rfl) ?_ | refine we_notInS (by with_unfolding_all exact rfl) ?_ | refine we_eqS (by with_unfolding_all exact rfl) ?_ | refine we_neS (by with_unfolding_all exact rfl) ?_ | refine we_opK ?_) | (show WE (tCB _ _) _ _; first | refine we_isInt ?_ | refine we_isBl ?_ | refine we_isLst ?_ | refine we_isTup ?_ | refine we_lenO (by with_unfolding_all exact rfl) ?_ | refine we_lenS' (by with_unfolding_all exact rfl) ?_ | refine we_lenScr (by with_unfolding_all exact rfl) ?_ | refine we_cbK ?_) | refine we_chain ?_ | refine we_slice ?_ | refine we_int ?_ | refine we_bl ?_ | refine we_non ?_ | refine we_str ?_ | refine we_neg ?_ | refine we_not ?_ | refine we_and ?_ | refine we_or ?_ | refine we_if ?_ | refine we_tup ?_ | refine we_lst ?_ | refine we_call ?_ | refine we_mt (by with_unfolding_all exact rfl) ?_)
  | (with_reducible show WS _ _ _ _; with_reducible first | refine ws_seqA ?_ | refine ws_seqD ?_ | refine ws_asg (by with_unfolding_all exact rfl) ?_ | refine ws_asgG ?_ | refine ws_if ?_ | refine ws_ret ?_ | refine ws_drop ?_ | refine ws_next ?_ | refine ws_retN ?_)
  | (with_reducible show WT _ _ _; with_reducible first | refine wt_test ?_ | refine wt_B ?_ | refine wt_not ?_ | refine wt_and ?_ | refine wt_or ?_ | refine wt_yes ?_)
  | (with_reducible show WA _ _ _; with_reducible first | refine wa_nil ?_ | refine wa_cons (wq_of (we_var (by with_unfolding_all exact rfl) ?_)) | refine wa_slotU (by with_unfolding_all exact rfl) ?_ | refine wa_cons ?_)
  | (with_reducible show OpK _ _ _ _ _; with_reducible first | refine ok_isB ?_ | refine ok_notB ?_ | refine ok_plusI ?_ | refine ok_sub ?_ | refine ok_lt ?_ | refine ok_le ?_ | refine ok_gt ?_ | refine ok_ge ?_ | refine ok_eqI ?_ | refine ok_neI ?_ | refine ok_mod (by first | assumption | decide | omega) ?_ | refine ok_ixL (by with_unfolding_all exact rfl) ?_)
  | (with_reducible show CbK _ _ _ _; with_reducible first | refine ck_lenL ?_ | refine ck_lenT ?_ | refine ck_int ?_ | refine ck_intB ?_ | refine ck_max ?_ | refine ck_min ?_ | refine ck_list ?_)
  | with_reducible refine wq_of ?_
  | (with_reducible show WG _ _ _ _ _; with_reducible first | refine wg_name (by with_unfolding_all exact rfl) ?_ | refine wg_tup (by with_unfolding_all exact rfl) ?_ | refine wg_set (by with_unfolding_all exact rfl) ?_)
  | (with_reducible show WGs _ _ _ _ _; with_reducible first | refine wgs_cons ?_ | refine wgs_nil ?_)
  | (with_reducible show WO _ _ _; with_reducible first | refine wo_some ?_ | refine wo_none ?_)
  | refine ⟨_, argD5, ?_⟩
  | refine ⟨_, argD6, ?_⟩
  | refine ⟨_, argD7, ?_⟩
  | refine ⟨_, argD9, ?_⟩
  | with_reducible refine iteT ?_
  | with_reducible refine iteF ?_
  | with_reducible refine ⟨_, frz_per, ?_⟩
  | with_reducible refine ⟨_, frz_own, ?_⟩
  | refine ⟨_, rfl, ?_⟩
  | refine ⟨_, argD1, ?_⟩
  | refine ⟨_, argD2, ?_⟩
  | refine ⟨_, argD0, ?_⟩
  | refine ⟨_, argD3, ?_⟩
  | refine ⟨_, argD4, ?_⟩
  | refine ⟨_, _, rfl, rfl, rfl, ?_⟩
  | refine ⟨_, _, _, rfl, rfl, rfl, ?_⟩
  | refine ⟨(by simp only [List.length_cons, List.length_nil]; decide), ?_⟩
  | refine ⟨rfl, nd1, ?_⟩
  | refine ⟨rfl, nd0, ?_⟩)
local macro_rules | `(tactic| walk_at "w") => `(tactic| first
  | (with_reducible show WE _ _ _; with_reducible first | refine we_var (by with_unfolding_all exact rfl) ?_ | refine we_varF (by with_unfolding_all exact rfl) frz_own ?_ | (show WE (tOp _ _ _) _ _; first | refine we_isNd ?_ | refine we_notNd ?_ | refine we_notN ?_ | refine we_ixS (by with_unfolding_all exact rfl) ?_ | refine we_ixScr (by with_unfolding_all exact rfl) ?_ | refine we_inS (by with_unfolding_all exact rfl) ?_ | refine we_notInS (by with_unfolding_all exact rfl) ?_ | refine we_eqS (by with_unfolding_all exact rfl) ?_ | refine we_neS (by with_unfolding_all exact rfl) ?_ | refine we_opK ?_) | (show WE (tCB _ _) _ _; first | refine we_repr ?_ | refine we_isInt ?_ | refine we_isBl ?_ | refine we_isLst ?_ | refine we_isTup ?_ | refine we_lenO (by with_unfolding_all exact rfl) ?_ | refine we_lenS' (by with_unfolding_all exact rfl) ?_ | refine we_lenScr (by with_unfolding_all exact rfl) ?_ | refine we_cbK ?_) | refine we_dnew ?_ | refine we_lenSetI ?_ | refine we_revL ?_ | refine we_chain ?_ | refine we_slice ?_ | refine we_int ?_ | refine we_bl ?_ | refine we_non ?_ | refine we_str ?_ | refine we_neg ?_ | refine we_not ?_ | refine we_and ?_ | refine we_or ?_ | refine we_if ?_ | refine we_tup ?_ | refine we_lst ?_ | refine we_call ?_ | refine we_mt (by with_unfolding_all exact rfl) ?_)
  | (with_reducible show WS _ _ _ _; with_reducible first | refine ws_seqI ?_ | refine ws_seqA ?_ | refine ws_seqD ?_ | refine ws_asg (by with_unfolding_all exact rfl) ?_ | refine ws_asgG ?_ | refine ws_if ?_ | refine ws_ret ?_ | refine ws_drop ?_ | refine ws_next ?_ | refine ws_retN ?_)
  | (with_reducible show WT _ _ _; with_reducible first | refine wt_truL ?_ | refine wt_test ?_ | refine wt_B ?_ | refine wt_not ?_ | refine wt_and ?_ | refine wt_or ?_ | refine wt_yes ?_)
  | (with_reducible show WA _ _ _; with_reducible first | refine wa_nil ?_ | refine wa_cons (wq_of (we_var (by with_unfolding_all exact rfl) ?_)) | refine wa_slotU (by with_unfolding_all exact rfl) ?_ | refine wa_cons ?_)
  | (with_reducible show OpK _ _ _ _ _; with_reducible first | refine ok_neR ?_ | refine ok_eqR ?_ | refine ok_isB ?_ | refine ok_notB ?_ | refine ok_plusI ?_ | refine ok_sub ?_ | refine ok_lt ?_ | refine ok_le ?_ | refine ok_gt ?_ | refine ok_ge ?_ | refine ok_eqI ?_ | refine ok_neI ?_ | refine ok_mod (by first | assumption | decide | omega) ?_ | refine ok_ixL (by with_unfolding_all exact rfl) ?_)
  | (with_reducible show CbK _ _ _ _; with_reducible first | refine ck_tuple ?_ | refine ck_allF ?_ | refine ck_anyF ?_ | refine ck_abs ?_ | refine ck_sumI ?_ | refine ck_lenL ?_ | refine ck_lenT ?_ | refine ck_int ?_ | refine ck_intB ?_ | refine ck_max ?_ | refine ck_min ?_ | refine ck_list ?_)
  | with_reducible refine wq_of ?_
  | (with_reducible show WG _ _ _ _ _; with_reducible first | refine wg_name (by with_unfolding_all exact rfl) ?_ | refine wg_tup (by with_unfolding_all exact rfl) ?_ | refine wg_set (by with_unfolding_all exact rfl) ?_)
  | (with_reducible show WGs _ _ _ _ _; with_reducible first | refine wgs_cons ?_ | refine wgs_nil ?_)
  | (with_reducible show WO _ _ _; with_reducible first | refine wo_some ?_ | refine wo_none ?_)
  | refine ⟨_, argD5, ?_⟩
  | refine ⟨_, argD6, ?_⟩
  | refine ⟨_, argD7, ?_⟩
  | refine ⟨_, argD9, ?_⟩
  | with_reducible refine iteT ?_
  | with_reducible refine iteF ?_
  | with_reducible refine ⟨_, frz_per, ?_⟩
  | with_reducible refine ⟨_, frz_own, ?_⟩
  | refine ⟨_, rfl, ?_⟩
  | refine ⟨_, argD1, ?_⟩
  | refine ⟨_, argD2, ?_⟩
  | refine ⟨_, argD0, ?_⟩
  | refine ⟨_, argD3, ?_⟩
  | refine ⟨_, argD4, ?_⟩
  | refine ⟨_, _, rfl, rfl, rfl, ?_⟩
  | refine ⟨_, _, _, rfl, rfl, rfl, ?_⟩
  | refine ⟨(by simp only [List.length_cons, List.length_nil]; decide), ?_⟩
  | refine ⟨rfl, nd1, ?_⟩
  | refine ⟨rfl, nd0, ?_⟩
  | refine ⟨_, argD8, ?_⟩
  | refine ⟨_, argD10, ?_⟩)
local macro_rules | `(tactic| walk_at "v") => `(tactic| first
  | (with_reducible show WE _ _ _; with_reducible first | refine we_var (by with_unfolding_all exact rfl) ?_ | refine we_varF (by with_unfolding_all exact rfl) frz_own ?_ | (show WE (tOp _ _ _) _ _; first | refine we_isNd ?_ | refine we_notNd ?_ | refine we_notN ?_ | refine we_ixS (by with_unfolding_all exact rfl) ?_ | refine we_ixScr (by with_unfolding_all exact rfl) ?_ | refine we_inS (by with_unfolding_all exact rfl) ?_ | refine we_notInS (by with_unfolding_all exact rfl) ?_ | refine we_eqS (by with_unfolding_all exact rfl) ?_ | refine we_neS (by with_unfolding_all exact rfl) ?_ | refine we_opK ?_) | (show WE (tCB _ _) _ _; first | refine we_repr ?_ | refine we_lenWeb (by with_unfolding_all exact rfl) (by assumption) ?_ | refine we_isInt ?_ | refine we_isBl ?_ | refine we_isLst ?_ | refine we_isTup ?_ | refine we_lenO (by with_unfolding_all exact rfl) ?_ | refine we_lenS' (by with_unfolding_all exact rfl) ?_ | refine we_lenScr (by with_unfolding_all exact rfl) ?_ | refine we_cbK ?_) | refine we_dnew ?_ | refine we_lenSetI ?_ | refine we_revL ?_ | refine we_nbWeb (by with_unfolding_all exact rfl) (by assumption) (by assumption) ?_ | refine we_tiesWeb (by with_unfolding_all exact rfl) ?_ | refine we_chain ?_ | refine we_slice ?_ | refine we_int ?_ | refine we_bl ?_ | refine we_non ?_ | refine we_str ?_ | refine we_neg ?_ | refine we_not ?_ | refine we_and ?_ | refine we_or ?_ | refine we_if ?_ | refine we_tup ?_ | refine we_lst ?_ | refine we_call ?_ | refine we_mt (by with_unfolding_all exact rfl) ?_)
  | (with_reducible show WS _ _ _ _; with_reducible first | refine ws_seqI ?_ | refine ws_seqA ?_ | refine ws_seqD ?_ | refine ws_asg (by with_unfolding_all exact rfl) ?_ | refine ws_asgG ?_ | refine ws_if ?_ | refine ws_ret ?_ | refine ws_drop ?_ | refine ws_next ?_ | refine ws_retN ?_)
  | (with_reducible show WT _ _ _; with_reducible first | refine wt_truL ?_ | refine wt_test ?_ | refine wt_B ?_ | refine wt_not ?_ | refine wt_and ?_ | refine wt_or ?_ | refine wt_yes ?_)
  | (with_reducible show WA _ _ _; with_reducible first | refine wa_nil ?_ | refine wa_cons (wq_of (we_var (by with_unfolding_all exact rfl) ?_)) | refine wa_slotU (by with_unfolding_all exact rfl) ?_ | refine wa_cons ?_)
  | (with_reducible show OpK _ _ _ _ _; with_reducible first | refine ok_neR ?_ | refine ok_eqR ?_ | refine ok_isB ?_ | refine ok_notB ?_ | refine ok_plusI ?_ | refine ok_sub ?_ | refine ok_lt ?_ | refine ok_le ?_ | refine ok_gt ?_ | refine ok_ge ?_ | refine ok_eqI ?_ | refine ok_neI ?_ | refine ok_mod (by first | assumption | decide | omega) ?_ | refine ok_ixL (by with_unfolding_all exact rfl) ?_)
  | (with_reducible show CbK _ _ _ _; with_reducible first | refine ck_tuple ?_ | refine ck_allF ?_ | refine ck_anyF ?_ | refine ck_abs ?_ | refine ck_sumI ?_ | refine ck_lenL ?_ | refine ck_lenT ?_ | refine ck_int ?_ | refine ck_intB ?_ | refine ck_max ?_ | refine ck_min ?_ | refine ck_list ?_)
  | with_reducible refine wq_of ?_
  | (with_reducible show WG _ _ _ _ _; with_reducible first | refine wg_name (by with_unfolding_all exact rfl) ?_ | refine wg_tup (by with_unfolding_all exact rfl) ?_ | refine wg_set (by with_unfolding_all exact rfl) ?_)
  | (with_reducible show WGs _ _ _ _ _; with_reducible first | refine wgs_cons ?_ | refine wgs_nil ?_)
  | (with_reducible show WO _ _ _; with_reducible first | refine wo_some ?_ | refine wo_none ?_)
  | refine ⟨_, argD5, ?_⟩
  | refine ⟨_, argD6, ?_⟩
  | refine ⟨_, argD7, ?_⟩
  | refine ⟨_, argD9, ?_⟩
  | with_reducible refine iteT ?_
  | with_reducible refine iteF ?_
  | with_reducible refine ⟨_, frz_per, ?_⟩
  | with_reducible refine ⟨_, frz_own, ?_⟩
  | refine ⟨_, rfl, ?_⟩
  | refine ⟨_, argD1, ?_⟩
  | refine ⟨_, argD2, ?_⟩
  | refine ⟨_, argD0, ?_⟩
  | refine ⟨_, argD3, ?_⟩
  | refine ⟨_, argD4, ?_⟩
  | refine ⟨_, _, rfl, rfl, rfl, ?_⟩
  | refine ⟨_, _, _, rfl, rfl, rfl, ?_⟩
  | refine ⟨(by simp only [List.length_cons, List.length_nil]; decide), ?_⟩
  | refine ⟨rfl, nd1, ?_⟩
  | refine ⟨rfl, nd0, ?_⟩
  | refine ⟨_, argD8, ?_⟩
  | refine ⟨_, argD10, ?_⟩)
local macro_rules | `(tactic| walk_at "p") => `(tactic| refine ⟨_, _, rfl, (by omega), (by first | decide | omega), (by first | decide | omega), ?_⟩)
local macro_rules | `(tactic| walk_at "n") => `(tactic| try dsimp only [back, List.set_cons_zero, List.set_cons_succ, List.map_cons, List.map_nil, List.cons_append, List.nil_append])
local macro_rules | `(tactic| walk_at "q") => `(tactic| first | with_reducible refine ws_seqP (ws_par (by with_unfolding_all exact rfl) (by with_unfolding_all exact rfl) ?_) | refine ⟨_, _, rfl, ?_⟩ | walk_at "v")
local macro_rules | `(tactic| walk_at "j") => `(tactic| first
  | (with_reducible show WA _ _ _; with_reducible refine wa_slotJ (by with_unfolding_all exact rfl) ?_)
  | walk_at "v")
namespace J
end J
end G

namespace G
open PySem L2
local macro_rules | `(tactic| walk_at "g1") => `(tactic| first
  | (with_reducible show WE _ _ _; with_reducible first | refine we_var (by with_unfolding_all exact rfl) ?_ | (show WE (tOp _ _ _) _ _; first | refine we_ixS (by with_unfolding_all exact rfl) ?_ | refine we_ixScr (by with_unfolding_all exact rfl) ?_ | refine we_inS (by with_unfolding_all exact rfl) ?_ | refine we_notInS (by with_unfolding_all exact rfl) ?_ | refine we_eqS (by with_unfolding_all exact rfl) ?_ | refine we_neS (by with_unfolding_all exact rfl) ?_ | refine we_opK ?_) | (show WE (tCB _ _) _ _; first | refine we_lenS' (by with_unfolding_all exact rfl) ?_ | refine we_lenScr (by with_unfolding_all exact rfl) ?_ | refine we_cbK ?_) | refine we_int ?_ | refine we_bl ?_ | refine we_non ?_ | refine we_str ?_ | refine we_neg ?_ | refine we_not ?_ | refine we_and ?_ | refine we_or ?_ | refine we_if ?_ | refine we_tup ?_ | refine we_lst ?_ | refine we_call ?_ | refine we_mt (by with_unfolding_all exact rfl) ?_)
  | (with_reducible show WS _ _ _ _; with_reducible first | refine ws_seqA ?_ | refine ws_seqD ?_ | refine ws_asg (by with_unfolding_all exact rfl) ?_ | refine ws_asgG ?_ | refine ws_if ?_ | refine ws_ret ?_ | refine ws_drop ?_ | refine ws_next ?_ | refine ws_retN ?_)
  | (with_reducible show WT _ _ _; with_reducible first | refine wt_test ?_ | refine wt_B ?_ | refine wt_not ?_ | refine wt_and ?_ | refine wt_or ?_ | refine wt_yes ?_)
  | (with_reducible show WA _ _ _; with_reducible first | refine wa_nil ?_ | refine wa_cons (wq_of (we_var (by with_unfolding_all exact rfl) ?_)) | refine wa_slotU (by with_unfolding_all exact rfl) ?_ | refine wa_cons ?_)
  | (with_reducible show OpK _ _ _ _ _; with_reducible first | refine ok_plusI ?_ | refine ok_sub ?_ | refine ok_lt ?_ | refine ok_le ?_ | refine ok_gt ?_ | refine ok_ge ?_ | refine ok_eqI ?_ | refine ok_neI ?_ | refine ok_mod (by first | assumption | decide | omega) ?_ | refine ok_ixL (by with_unfolding_all exact rfl) ?_)
  | (with_reducible show CbK _ _ _ _; with_reducible first | refine ck_lenL ?_ | refine ck_lenT ?_ | refine ck_int ?_ | refine ck_intB ?_ | refine ck_max ?_ | refine ck_min ?_ | refine ck_list ?_)
  | with_reducible refine wq_of ?_
  | (with_reducible show WG _ _ _ _ _; with_reducible first | refine wg_name (by with_unfolding_all exact rfl) ?_ | refine wg_tup (by with_unfolding_all exact rfl) ?_ | refine wg_set (by with_unfolding_all exact rfl) ?_)
  | (with_reducible show WGs _ _ _ _ _; with_reducible first | refine wgs_cons ?_ | refine wgs_nil ?_)
  | with_reducible refine iteT ?_
  | with_reducible refine iteF ?_
  | with_reducible refine ⟨_, frz_per, ?_⟩
  | with_reducible refine ⟨_, frz_own, ?_⟩
  | refine ⟨_, rfl, ?_⟩
  | refine ⟨_, argD1, ?_⟩
  | refine ⟨_, argD2, ?_⟩
  | refine ⟨_, argD0, ?_⟩
  | refine ⟨_, argD3, ?_⟩
  | refine ⟨_, argD4, ?_⟩
  | refine ⟨_, _, rfl, rfl, rfl, ?_⟩
  | refine ⟨_, _, _, rfl, rfl, rfl, ?_⟩
  | refine ⟨(by simp only [List.length_cons, List.length_nil]; decide), ?_⟩
  | refine ⟨rfl, nd1, ?_⟩
  | refine ⟨rfl, nd0, ?_⟩)
local macro_rules | `(tactic| walk_at "go") => `(tactic| repeat walk_at "g1")
local macro_rules | `(tactic| walk_at "g2") => `(tactic| first
  | (with_reducible show WE _ _ _; with_reducible first | refine we_var (by with_unfolding_all exact rfl) ?_ | (show WE (tOp _ _ _) _ _; first | refine we_notN ?_ | refine we_ixS (by with_unfolding_all exact rfl) ?_ | refine we_ixScr (by with_unfolding_all exact rfl) ?_ | refine we_inS (by with_unfolding_all exact rfl) ?_ | refine we_notInS (by with_unfolding_all exact rfl) ?_ | refine we_eqS (by with_unfolding_all exact rfl) ?_ | refine we_neS (by with_unfolding_all exact rfl) ?_ | refine we_opK ?_) | (show WE (tCB _ _) _ _; first | refine we_isInt ?_ | refine we_isBl ?_ | refine we_isLst ?_ | refine we_isTup ?_ | refine we_lenO (by with_unfolding_all exact rfl) ?_ | refine we_lenS' (by with_unfolding_all exact rfl) ?_ | refine we_lenScr (by with_unfolding_all exact rfl) ?_ | refine we_cbK ?_) | refine we_chain ?_ | refine we_slice ?_ | refine we_int ?_ | refine we_bl ?_ | refine we_non ?_ | refine we_str ?_ | refine we_neg ?_ | refine we_not ?_ | refine we_and ?_ | refine we_or ?_ | refine we_if ?_ | refine we_tup ?_ | refine we_lst ?_ | refine we_call ?_ | refine we_mt (by with_unfolding_all exact rfl) ?_)
  | (with_reducible show WS _ _ _ _; with_reducible first | refine ws_seqA ?_ | refine ws_seqD ?_ | refine ws_asg (by with_unfolding_all exact rfl) ?_ | refine ws_asgG ?_ | refine ws_if ?_ | refine ws_ret ?_ | refine ws_drop ?_ | refine ws_next ?_ | refine ws_retN ?_)
  | (with_reducible show WT _ _ _; with_reducible first | refine wt_test ?_ | refine wt_B ?_ | refine wt_not ?_ | refine wt_and ?_ | refine wt_or ?_ | refine wt_yes ?_)
  | (with_reducible show WA _ _ _; with_reducible first | refine wa_nil ?_ | refine wa_cons (wq_of (we_var (by with_unfolding_all exact rfl) ?_)) | refine wa_slotU (by with_unfolding_all exact rfl) ?_ | refine wa_cons ?_)
  | (with_reducible show OpK _ _ _ _ _; with_reducible first | refine ok_isB ?_ | refine ok_notB ?_ | refine ok_plusI ?_ | refine ok_sub ?_ | refine ok_lt ?_ | refine ok_le ?_ | refine ok_gt ?_ | refine ok_ge ?_ | refine ok_eqI ?_ | refine ok_neI ?_ | refine ok_mod (by first | assumption | decide | omega) ?_ | refine ok_ixL (by with_unfolding_all exact rfl) ?_)
  | (with_reducible show CbK _ _ _ _; with_reducible first | refine ck_lenL ?_ | refine ck_lenT ?_ | refine ck_int ?_ | refine ck_intB ?_ | refine ck_max ?_ | refine ck_min ?_ | refine ck_list ?_)
  | with_reducible refine wq_of ?_
  | (with_reducible show WG _ _ _ _ _; with_reducible first | refine wg_name (by with_unfolding_all exact rfl) ?_ | refine wg_tup (by with_unfolding_all exact rfl) ?_ | refine wg_set (by with_unfolding_all exact rfl) ?_)
  | (with_reducible show WGs _ _ _ _ _; with_reducible first | refine wgs_cons ?_ | refine wgs_nil ?_)
  | (with_reducible show WO _ _ _; with_reducible first | refine wo_some ?_ | refine wo_none ?_)
  | refine ⟨_, argD5, ?_⟩
  | refine ⟨_, argD6, ?_⟩
  | refine ⟨_, argD7, ?_⟩
  | refine ⟨_, argD9, ?_⟩
  | with_reducible refine iteT ?_
  | with_reducible refine iteF ?_
  | with_reducible refine ⟨_, frz_per, ?_⟩
  | with_reducible refine ⟨_, frz_own, ?_⟩
  | refine ⟨_, rfl, ?_⟩
  | refine ⟨_, argD1, ?_⟩
  | refine ⟨_, argD2, ?_⟩
  | refine ⟨_, argD0, ?_⟩
  | refine ⟨_, argD3, ?_⟩
  | refine ⟨_, argD4, ?_⟩
  | refine ⟨_, _, rfl, rfl, rfl, ?_⟩
  | refine ⟨_, _, _, rfl, rfl, rfl, ?_⟩
  | refine ⟨(by simp only [List.length_cons, List.length_nil]; decide), ?_⟩
  | refine ⟨rfl, nd1, ?_⟩
  | refine ⟨rfl, nd0, ?_⟩)
local macro_rules | `(tactic| walk_at "w") => `(tactic| first
  | (with_reducible show WE _ _ _; with_reducible first | refine we_var (by with_unfolding_all exact rfl) ?_ | refine we_varF (by with_unfolding_all exact rfl) frz_own ?_ | (show WE (tOp _ _ _) _ _; first | refine we_isNd ?_ | refine we_notNd ?_ | refine we_notN ?_ | refine we_ixS (by with_unfolding_all exact rfl) ?_ | refine we_ixScr (by with_unfolding_all exact rfl) ?_ | refine we_inS (by with_unfolding_all exact rfl) ?_ | refine we_notInS (by with_unfolding_all exact rfl) ?_ | refine we_eqS (by with_unfolding_all exact rfl) ?_ | refine we_neS (by with_unfolding_all exact rfl) ?_ | refine we_opK ?_) | (show WE (tCB _ _) _ _; first | refine we_repr ?_ | refine we_isInt ?_ | refine we_isBl ?_ | refine we_isLst ?_ | refine we_isTup ?_ | refine we_lenO (by with_unfolding_all exact rfl) ?_ | refine we_lenS' (by with_unfolding_all exact rfl) ?_ | refine we_lenScr (by with_unfolding_all exact rfl) ?_ | refine we_cbK ?_) | refine we_dnew ?_ | refine we_lenSetI ?_ | refine we_revL ?_ | refine we_chain ?_ | refine we_slice ?_ | refine we_int ?_ | refine we_bl ?_ | refine we_non ?_ | refine we_str ?_ | refine we_neg ?_ | refine we_not ?_ | refine we_and ?_ | refine we_or ?_ | refine we_if ?_ | refine we_tup ?_ | refine we_lst ?_ | refine we_call ?_ | refine we_mt (by with_unfolding_all exact rfl) ?_)
  | (with_reducible show WS _ _ _ _; with_reducible first | refine ws_seqI ?_ | refine ws_seqA ?_ | refine ws_seqD ?_ | refine ws_asg (by with_unfolding_all exact rfl) ?_ | refine ws_asgG ?_ | refine ws_if ?_ | refine ws_ret ?_ | refine ws_drop ?_ | refine ws_next ?_ | refine ws_retN ?_)
  | (with_reducible show WT _ _ _; with_reducible first | refine wt_truL ?_ | refine wt_test ?_ | refine wt_B ?_ | refine wt_not ?_ | refine wt_and ?_ | refine wt_or ?_ | refine wt_yes ?_)
  | (with_reducible show WA _ _ _; with_reducible first | refine wa_nil ?_ | refine wa_cons (wq_of (we_var (by with_unfolding_all exact rfl) ?_)) | refine wa_slotU (by with_unfolding_all exact rfl) ?_ | refine wa_cons ?_)
  | (with_reducible show OpK _ _ _ _ _; with_reducible first | refine ok_neR ?_ | refine ok_eqR ?_ | refine ok_isB ?_ | refine ok_notB ?_ | refine ok_plusI ?_ | refine ok_sub ?_ | refine ok_lt ?_ | refine ok_le ?_ | refine ok_gt ?_ | refine ok_ge ?_ | refine ok_eqI ?_ | refine ok_neI ?_ | refine ok_mod (by first | assumption | decide | omega) ?_ | refine ok_ixL (by with_unfolding_all exact rfl) ?_)
  | (with_reducible show CbK _ _ _ _; with_reducible first | refine ck_tuple ?_ | refine ck_allF ?_ | refine ck_anyF ?_ | refine ck_abs ?_ | refine ck_sumI ?_ | refine ck_lenL ?_ | refine ck_lenT ?_ | refine ck_int ?_ | refine ck_intB ?_ | refine ck_max ?_ | refine ck_min ?_ | refine ck_list ?_)
  | with_reducible refine wq_of ?_
  | (with_reducible show WG _ _ _ _ _; with_reducible first | refine wg_name (by with_unfolding_all exact rfl) ?_ | refine wg_tup (by with_unfolding_all exact rfl) ?_ | refine wg_set (by with_unfolding_all exact rfl) ?_)
  | (with_reducible show WGs _ _ _ _ _; with_reducible first | refine wgs_cons ?_ | refine wgs_nil ?_)
  | (with_reducible show WO _ _ _; with_reducible first | refine wo_some ?_ | refine wo_none ?_)
  | refine ⟨_, argD5, ?_⟩
  | refine ⟨_, argD6, ?_⟩
  | refine ⟨_, argD7, ?_⟩
  | refine ⟨_, argD9, ?_⟩
  | with_reducible refine iteT ?_
  | with_reducible refine iteF ?_
  | with_reducible refine ⟨_, frz_per, ?_⟩
  | with_reducible refine ⟨_, frz_own, ?_⟩
  | refine ⟨_, rfl, ?_⟩
  | refine ⟨_, argD1, ?_⟩
  | refine ⟨_, argD2, ?_⟩
  | refine ⟨_, argD0, ?_⟩
  | refine ⟨_, argD3, ?_⟩
  | refine ⟨_, argD4, ?_⟩
  | refine ⟨_, _, rfl, rfl, rfl, ?_⟩
  | refine ⟨_, _, _, rfl, rfl, rfl, ?_⟩
  | refine ⟨(by simp only [List.length_cons, List.length_nil]; decide), ?_⟩
  | refine ⟨rfl, nd1, ?_⟩
  | refine ⟨rfl, nd0, ?_⟩
  | refine ⟨_, argD8, ?_⟩
  | refine ⟨_, argD10, ?_⟩)
local macro_rules | `(tactic| walk_at "v") => `(tactic| first
  | (with_reducible show WE _ _ _; with_reducible first | refine we_var (by with_unfolding_all exact rfl) ?_ | refine we_varF (by with_unfolding_all exact rfl) frz_own ?_ | (show WE (tOp _ _ _) _ _; first | refine we_isNd ?_ | refine we_notNd ?_ | refine we_notN ?_ | refine we_ixS (by with_unfolding_all exact rfl) ?_ | refine we_ixScr (by with_unfolding_all exact rfl) ?_ | refine we_inS (by with_unfolding_all exact rfl) ?_ | refine we_notInS (by with_unfolding_all exact rfl) ?_ | refine we_eqS (by with_unfolding_all exact rfl) ?_ | refine we_neS (by with_unfolding_all exact rfl) ?_ | refine we_opK ?_) | (show WE (tCB _ _) _ _; first | refine we_repr ?_ | refine we_lenWeb (by with_unfolding_all exact rfl) (by assumption) ?_ | refine we_isInt ?_ | refine we_isBl ?_ | refine we_isLst ?_ | refine we_isTup ?_ | refine we_lenO (by with_unfolding_all exact rfl) ?_ | refine we_lenS' (by with_unfolding_all exact rfl) ?_ | refine we_lenScr (by with_unfolding_all exact rfl) ?_ | refine we_cbK ?_) | refine we_dnew ?_ | refine we_lenSetI ?_ | refine we_revL ?_ | refine we_nbWeb (by with_unfolding_all exact rfl) (by assumption) (by assumption) ?_ | refine we_tiesWeb (by with_unfolding_all exact rfl) ?_ | refine we_chain ?_ | refine we_slice ?_ | refine we_int ?_ | refine we_bl ?_ | refine we_non ?_ | refine we_str ?_ | refine we_neg ?_ | refine we_not ?_ | refine we_and ?_ | refine we_or ?_ | refine we_if ?_ | refine we_tup ?_ | refine we_lst ?_ | refine we_call ?_ | refine we_mt (by with_unfolding_all exact rfl) ?_)
  | (with_reducible show WS _ _ _ _; with_reducible first | refine ws_seqI ?_ | refine ws_seqA ?_ | refine ws_seqD ?_ | refine ws_asg (by with_unfolding_all exact rfl) ?_ | refine ws_asgG ?_ | refine ws_if ?_ | refine ws_ret ?_ | refine ws_drop ?_ | refine ws_next ?_ | refine ws_retN ?_)
  | (with_reducible show WT _ _ _; with_reducible first | refine wt_truL ?_ | refine wt_test ?_ | refine wt_B ?_ | refine wt_not ?_ | refine wt_and ?_ | refine wt_or ?_ | refine wt_yes ?_)
  | (with_reducible show WA _ _ _; with_reducible first | refine wa_nil ?_ | refine wa_cons (wq_of (we_var (by with_unfolding_all exact rfl) ?_)) | refine wa_slotU (by with_unfolding_all exact rfl) ?_ | refine wa_cons ?_)
  | (with_reducible show OpK _ _ _ _ _; with_reducible first | refine ok_neR ?_ | refine ok_eqR ?_ | refine ok_isB ?_ | refine ok_notB ?_ | refine ok_plusI ?_ | refine ok_sub ?_ | refine ok_lt ?_ | refine ok_le ?_ | refine ok_gt ?_ | refine ok_ge ?_ | refine ok_eqI ?_ | refine ok_neI ?_ | refine ok_mod (by first | assumption | decide | omega) ?_ | refine ok_ixL (by with_unfolding_all exact rfl) ?_)
  | (with_reducible show CbK _ _ _ _; with_reducible first | refine ck_tuple ?_ | refine ck_allF ?_ | refine ck_anyF ?_ | refine ck_abs ?_ | refine ck_sumI ?_ | refine ck_lenL ?_ | refine ck_lenT ?_ | refine ck_int ?_ | refine ck_intB ?_ | refine ck_max ?_ | refine ck_min ?_ | refine ck_list ?_)
  | with_reducible refine wq_of ?_
  | (with_reducible show WG _ _ _ _ _; with_reducible first | refine wg_name (by with_unfolding_all exact rfl) ?_ | refine wg_tup (by with_unfolding_all exact rfl) ?_ | refine wg_set (by with_unfolding_all exact rfl) ?_)
  | (with_reducible show WGs _ _ _ _ _; with_reducible first | refine wgs_cons ?_ | refine wgs_nil ?_)
  | (with_reducible show WO _ _ _; with_reducible first | refine wo_some ?_ | refine wo_none ?_)
  | refine ⟨_, argD5, ?_⟩
  | refine ⟨_, argD6, ?_⟩
  | refine ⟨_, argD7, ?_⟩
  | refine ⟨_, argD9, ?_⟩
  | with_reducible refine iteT ?_
  | with_reducible refine iteF ?_
  | with_reducible refine ⟨_, frz_per, ?_⟩
  | with_reducible refine ⟨_, frz_own, ?_⟩
  | refine ⟨_, rfl, ?_⟩
  | refine ⟨_, argD1, ?_⟩
  | refine ⟨_, argD2, ?_⟩
  | refine ⟨_, argD0, ?_⟩
  | refine ⟨_, argD3, ?_⟩
  | refine ⟨_, argD4, ?_⟩
  | refine ⟨_, _, rfl, rfl, rfl, ?_⟩
  | refine ⟨_, _, _, rfl, rfl, rfl, ?_⟩
  | refine ⟨(by simp only [List.length_cons, List.length_nil]; decide), ?_⟩
  | refine ⟨rfl, nd1, ?_⟩
  | refine ⟨rfl, nd0, ?_⟩
  | refine ⟨_, argD8, ?_⟩
  | refine ⟨_, argD10, ?_⟩)
local macro_rules | `(tactic| walk_at "p") => `(tactic| refine ⟨_, _, rfl, (by omega), (by first | decide | omega), (by first | decide | omega), ?_⟩)
local macro_rules | `(tactic| walk_at "n") => `(tactic| try dsimp only [back, List.set_cons_zero, List.set_cons_succ, List.map_cons, List.map_nil, List.cons_append, List.nil_append])
local macro_rules | `(tactic| walk_at "q") => `(tactic| first | with_reducible refine ws_seqP (ws_par (by with_unfolding_all exact rfl) (by with_unfolding_all exact rfl) ?_) | refine ⟨_, _, rfl, ?_⟩ | walk_at "v")
local macro_rules | `(tactic| walk_at "j") => `(tactic| first
  | (with_reducible show WA _ _ _; with_reducible refine wa_slotJ (by with_unfolding_all exact rfl) ?_)
  | walk_at "v")
local macro_rules | `(tactic| walk_at "g3") => `(tactic| first | with_reducible refine we_dnew ?_ | with_reducible refine ck_tuple ?_ | with_reducible refine we_repr ?_ | walk_at "g2")
namespace J
end J
end G

namespace G
/-! ### places struck one after the other -/
end G

/-! ### list(xs) of an own list; the lists within an own list frozen; each grown by one and turned round -/
namespace G
open PySem L2
section
variable {K : PySem.W.Frag} {P : Nat → Bool} {Γ Γ0 : Ga} {D : Pe} {k : Gp → Ga → Prop} {te : TE}
end
end G

/-! ### enumerate; xs[j].pop(), xs[j].remove(y); a tuple of two own lists -/
namespace G
open PySem L2
section
variable {K : PySem.W.Frag} {P : Nat → Bool} {Γ : Ga} {D : Pe} {k : Gp → Ga → Prop} {te : TE} {tr : TA}
end
section
variable {K : PySem.W.Frag} {P : Nat → Bool} {Γ : Ga} {D : Pe} {k : Gp → Ga → Prop} {te : TE}
end
end G
namespace G
open PySem L2
end G
namespace G
open PySem L2
end G

/-! ### own sets of ints: set(), {x}, s.add(x), x in s, x not in s, sorted(s) -/
namespace GSO
open PySem PySem.Spec PyProof.Rows L2
section
variable {P : Program} {w : World} {A : Around} {E : Value → Shared → Prop} {s : Shared}
end
end GSO

namespace L2
open PySem PySem.Spec PyProof.Rows
section
variable {P : Program} {w : World} {K : PySem.W.Frag} {mg : Str → Option Value} {base : Heap} {x qual : Str} {params : Arguments} {body : List Stmt} {scope : Scope} {dvs : List V} {kws : List (Str × V)} {f : Addr} {fd : FuncData}
end
end L2
namespace G
open PySem PySem.Spec PyProof.Rows L2 GSO
section
variable {w : World} {K : PySem.W.Frag} {P : Nat → Bool} {Γ : Ga} {D : Pe} {k : Gp → Ga → Prop} {te : TE}
end
end G

namespace G
open PySem L2
section
variable {K : PySem.W.Frag} {P : Nat → Bool} {Γ : Ga} {D : Pe} {kb : Bool → Ga → Prop}
end
end G

namespace G
open PySem PySem.Spec PyProof.Rows L2 GSO
section
variable {K : PySem.W.Frag} {w : World} {P : Nat → Bool} {Γ : Ga} {D : Pe}
end
end G

namespace G
open PySem L2
local macro_rules | `(tactic| walk_at "g1") => `(tactic| first
  | (with_reducible show WE _ _ _; with_reducible first | refine we_var (by with_unfolding_all exact rfl) ?_ | (show WE (tOp _ _ _) _ _; first | refine we_ixS (by with_unfolding_all exact rfl) ?_ | refine we_ixScr (by with_unfolding_all exact rfl) ?_ | refine we_inS (by with_unfolding_all exact rfl) ?_ | refine we_notInS (by with_unfolding_all exact rfl) ?_ | refine we_eqS (by with_unfolding_all exact rfl) ?_ | refine we_neS (by with_unfolding_all exact rfl) ?_ | refine we_opK ?_) | (show WE (tCB _ _) _ _; first | refine we_lenS' (by with_unfolding_all exact rfl) ?_ | refine we_lenScr (by with_unfolding_all exact rfl) ?_ | refine we_cbK ?_) | refine we_int ?_ | refine we_bl ?_ | refine we_non ?_ | refine we_str ?_ | refine we_neg ?_ | refine we_not ?_ | refine we_and ?_ | refine we_or ?_ | refine we_if ?_ | refine we_tup ?_ | refine we_lst ?_ | refine we_call ?_ | refine we_mt (by with_unfolding_all exact rfl) ?_)
  | (with_reducible show WS _ _ _ _; with_reducible first | refine ws_seqA ?_ | refine ws_seqD ?_ | refine ws_asg (by with_unfolding_all exact rfl) ?_ | refine ws_asgG ?_ | refine ws_if ?_ | refine ws_ret ?_ | refine ws_drop ?_ | refine ws_next ?_ | refine ws_retN ?_)
  | (with_reducible show WT _ _ _; with_reducible first | refine wt_test ?_ | refine wt_B ?_ | refine wt_not ?_ | refine wt_and ?_ | refine wt_or ?_ | refine wt_yes ?_)
  | (with_reducible show WA _ _ _; with_reducible first | refine wa_nil ?_ | refine wa_cons (wq_of (we_var (by with_unfolding_all exact rfl) ?_)) | refine wa_slotU (by with_unfolding_all exact rfl) ?_ | refine wa_cons ?_)
  | (with_reducible show OpK _ _ _ _ _; with_reducible first | refine ok_plusI ?_ | refine ok_sub ?_ | refine ok_lt ?_ | refine ok_le ?_ | refine ok_gt ?_ | refine ok_ge ?_ | refine ok_eqI ?_ | refine ok_neI ?_ | refine ok_mod (by first | assumption | decide | omega) ?_ | refine ok_ixL (by with_unfolding_all exact rfl) ?_)
  | (with_reducible show CbK _ _ _ _; with_reducible first | refine ck_lenL ?_ | refine ck_lenT ?_ | refine ck_int ?_ | refine ck_intB ?_ | refine ck_max ?_ | refine ck_min ?_ | refine ck_list ?_)
  | with_reducible refine wq_of ?_
  | (with_reducible show WG _ _ _ _ _; with_reducible first | refine wg_name (by with_unfolding_all exact rfl) ?_ | refine wg_tup (by with_unfolding_all exact rfl) ?_ | refine wg_set (by with_unfolding_all exact rfl) ?_)
  | (with_reducible show WGs _ _ _ _ _; with_reducible first | refine wgs_cons ?_ | refine wgs_nil ?_)
  | with_reducible refine iteT ?_
  | with_reducible refine iteF ?_
  | with_reducible refine ⟨_, frz_per, ?_⟩
  | with_reducible refine ⟨_, frz_own, ?_⟩
  | refine ⟨_, rfl, ?_⟩
  | refine ⟨_, argD1, ?_⟩
  | refine ⟨_, argD2, ?_⟩
  | refine ⟨_, argD0, ?_⟩
  | refine ⟨_, argD3, ?_⟩
  | refine ⟨_, argD4, ?_⟩
  | refine ⟨_, _, rfl, rfl, rfl, ?_⟩
  | refine ⟨_, _, _, rfl, rfl, rfl, ?_⟩
  | refine ⟨(by simp only [List.length_cons, List.length_nil]; decide), ?_⟩
  | refine ⟨rfl, nd1, ?_⟩
  | refine ⟨rfl, nd0, ?_⟩)
local macro_rules | `(tactic| walk_at "go") => `(tactic| repeat walk_at "g1")
local macro_rules | `(tactic| walk_at "g2") => `(tactic| first
  | (with_reducible show WE _ _ _; with_reducible first | refine we_var (by with_unfolding_all exact rfl) ?_ | (show WE (tOp _ _ _) _ _; first | refine we_notN ?_ | refine we_ixS (by with_unfolding_all exact rfl) ?_ | refine we_ixScr (by with_unfolding_all exact rfl) ?_ | refine we_inS (by with_unfolding_all exact rfl) ?_ | refine we_notInS (by with_unfolding_all exact rfl) ?_ | refine we_eqS (by with_unfolding_all exact rfl) ?_ | refine we_neS (by with_unfolding_all exact rfl) ?_ | refine we_opK ?_) | (show WE (tCB _ _) _ _; first | refine we_isInt ?_ | refine we_isBl ?_ | refine we_isLst ?_ | refine we_isTup ?_ | refine we_lenO (by with_unfolding_all exact rfl) ?_ | refine we_lenS' (by with_unfolding_all exact rfl) ?_ | refine we_lenScr (by with_unfolding_all exact rfl) ?_ | refine we_cbK ?_) | refine we_chain ?_ | refine we_slice ?_ | refine we_int ?_ | refine we_bl ?_ | refine we_non ?_ | refine we_str ?_ | refine we_neg ?_ | refine we_not ?_ | refine we_and ?_ | refine we_or ?_ | refine we_if ?_ | refine we_tup ?_ | refine we_lst ?_ | refine we_call ?_ | refine we_mt (by with_unfolding_all exact rfl) ?_)
  | (with_reducible show WS _ _ _ _; with_reducible first | refine ws_seqA ?_ | refine ws_seqD ?_ | refine ws_asg (by with_unfolding_all exact rfl) ?_ | refine ws_asgG ?_ | refine ws_if ?_ | refine ws_ret ?_ | refine ws_drop ?_ | refine ws_next ?_ | refine ws_retN ?_)
  | (with_reducible show WT _ _ _; with_reducible first | refine wt_test ?_ | refine wt_B ?_ | refine wt_not ?_ | refine wt_and ?_ | refine wt_or ?_ | refine wt_yes ?_)
  | (with_reducible show WA _ _ _; with_reducible first | refine wa_nil ?_ | refine wa_cons (wq_of (we_var (by with_unfolding_all exact rfl) ?_)) | refine wa_slotU (by with_unfolding_all exact rfl) ?_ | refine wa_cons ?_)
  | (with_reducible show OpK _ _ _ _ _; with_reducible first | refine ok_isB ?_ | refine ok_notB ?_ | refine ok_plusI ?_ | refine ok_sub ?_ | refine ok_lt ?_ | refine ok_le ?_ | refine ok_gt ?_ | refine ok_ge ?_ | refine ok_eqI ?_ | refine ok_neI ?_ | refine ok_mod (by first | assumption | decide | omega) ?_ | refine ok_ixL (by with_unfolding_all exact rfl) ?_)
  | (with_reducible show CbK _ _ _ _; with_reducible first | refine ck_lenL ?_ | refine ck_lenT ?_ | refine ck_int ?_ | refine ck_intB ?_ | refine ck_max ?_ | refine ck_min ?_ | refine ck_list ?_)
  | with_reducible refine wq_of ?_
  | (with_reducible show WG _ _ _ _ _; with_reducible first | refine wg_name (by with_unfolding_all exact rfl) ?_ | refine wg_tup (by with_unfolding_all exact rfl) ?_ | refine wg_set (by with_unfolding_all exact rfl) ?_)
  | (with_reducible show WGs _ _ _ _ _; with_reducible first | refine wgs_cons ?_ | refine wgs_nil ?_)
  | (with_reducible show WO _ _ _; with_reducible first | refine wo_some ?_ | refine wo_none ?_)
  | refine ⟨_, argD5, ?_⟩
  | refine ⟨_, argD6, ?_⟩
  | refine ⟨_, argD7, ?_⟩
  | refine ⟨_, argD9, ?_⟩
  | with_reducible refine iteT ?_
  | with_reducible refine iteF ?_
  | with_reducible refine ⟨_, frz_per, ?_⟩
  | with_reducible refine ⟨_, frz_own, ?_⟩
  | refine ⟨_, rfl, ?_⟩
  | refine ⟨_, argD1, ?_⟩
  | refine ⟨_, argD2, ?_⟩
  | refine ⟨_, argD0, ?_⟩
  | refine ⟨_, argD3, ?_⟩
  | refine ⟨_, argD4, ?_⟩
  | refine ⟨_, _, rfl, rfl, rfl, ?_⟩
  | refine ⟨_, _, _, rfl, rfl, rfl, ?_⟩
  | refine ⟨(by simp only [List.length_cons, List.length_nil]; decide), ?_⟩
  | refine ⟨rfl, nd1, ?_⟩
  | refine ⟨rfl, nd0, ?_⟩)
local macro_rules | `(tactic| walk_at "w") => `(tactic| first
  | (with_reducible show WE _ _ _; with_reducible first | refine we_var (by with_unfolding_all exact rfl) ?_ | refine we_varF (by with_unfolding_all exact rfl) frz_own ?_ | (show WE (tOp _ _ _) _ _; first | refine we_isNd ?_ | refine we_notNd ?_ | refine we_notN ?_ | refine we_ixS (by with_unfolding_all exact rfl) ?_ | refine we_ixScr (by with_unfolding_all exact rfl) ?_ | refine we_inS (by with_unfolding_all exact rfl) ?_ | refine we_notInS (by with_unfolding_all exact rfl) ?_ | refine we_eqS (by with_unfolding_all exact rfl) ?_ | refine we_neS (by with_unfolding_all exact rfl) ?_ | refine we_opK ?_) | (show WE (tCB _ _) _ _; first | refine we_repr ?_ | refine we_isInt ?_ | refine we_isBl ?_ | refine we_isLst ?_ | refine we_isTup ?_ | refine we_lenO (by with_unfolding_all exact rfl) ?_ | refine we_lenS' (by with_unfolding_all exact rfl) ?_ | refine we_lenScr (by with_unfolding_all exact rfl) ?_ | refine we_cbK ?_) | refine we_dnew ?_ | refine we_lenSetI ?_ | refine we_revL ?_ | refine we_chain ?_ | refine we_slice ?_ | refine we_int ?_ | refine we_bl ?_ | refine we_non ?_ | refine we_str ?_ | refine we_neg ?_ | refine we_not ?_ | refine we_and ?_ | refine we_or ?_ | refine we_if ?_ | refine we_tup ?_ | refine we_lst ?_ | refine we_call ?_ | refine we_mt (by with_unfolding_all exact rfl) ?_)
  | (with_reducible show WS _ _ _ _; with_reducible first | refine ws_seqI ?_ | refine ws_seqA ?_ | refine ws_seqD ?_ | refine ws_asg (by with_unfolding_all exact rfl) ?_ | refine ws_asgG ?_ | refine ws_if ?_ | refine ws_ret ?_ | refine ws_drop ?_ | refine ws_next ?_ | refine ws_retN ?_)
  | (with_reducible show WT _ _ _; with_reducible first | refine wt_truL ?_ | refine wt_test ?_ | refine wt_B ?_ | refine wt_not ?_ | refine wt_and ?_ | refine wt_or ?_ | refine wt_yes ?_)
  | (with_reducible show WA _ _ _; with_reducible first | refine wa_nil ?_ | refine wa_cons (wq_of (we_var (by with_unfolding_all exact rfl) ?_)) | refine wa_slotU (by with_unfolding_all exact rfl) ?_ | refine wa_cons ?_)
  | (with_reducible show OpK _ _ _ _ _; with_reducible first | refine ok_neR ?_ | refine ok_eqR ?_ | refine ok_isB ?_ | refine ok_notB ?_ | refine ok_plusI ?_ | refine ok_sub ?_ | refine ok_lt ?_ | refine ok_le ?_ | refine ok_gt ?_ | refine ok_ge ?_ | refine ok_eqI ?_ | refine ok_neI ?_ | refine ok_mod (by first | assumption | decide | omega) ?_ | refine ok_ixL (by with_unfolding_all exact rfl) ?_)
  | (with_reducible show CbK _ _ _ _; with_reducible first | refine ck_tuple ?_ | refine ck_allF ?_ | refine ck_anyF ?_ | refine ck_abs ?_ | refine ck_sumI ?_ | refine ck_lenL ?_ | refine ck_lenT ?_ | refine ck_int ?_ | refine ck_intB ?_ | refine ck_max ?_ | refine ck_min ?_ | refine ck_list ?_)
  | with_reducible refine wq_of ?_
  | (with_reducible show WG _ _ _ _ _; with_reducible first | refine wg_name (by with_unfolding_all exact rfl) ?_ | refine wg_tup (by with_unfolding_all exact rfl) ?_ | refine wg_set (by with_unfolding_all exact rfl) ?_)
  | (with_reducible show WGs _ _ _ _ _; with_reducible first | refine wgs_cons ?_ | refine wgs_nil ?_)
  | (with_reducible show WO _ _ _; with_reducible first | refine wo_some ?_ | refine wo_none ?_)
  | refine ⟨_, argD5, ?_⟩
  | refine ⟨_, argD6, ?_⟩
  | refine ⟨_, argD7, ?_⟩
  | refine ⟨_, argD9, ?_⟩
  | with_reducible refine iteT ?_
  | with_reducible refine iteF ?_
  | with_reducible refine ⟨_, frz_per, ?_⟩
  | with_reducible refine ⟨_, frz_own, ?_⟩
  | refine ⟨_, rfl, ?_⟩
  | refine ⟨_, argD1, ?_⟩
  | refine ⟨_, argD2, ?_⟩
  | refine ⟨_, argD0, ?_⟩
  | refine ⟨_, argD3, ?_⟩
  | refine ⟨_, argD4, ?_⟩
  | refine ⟨_, _, rfl, rfl, rfl, ?_⟩
  | refine ⟨_, _, _, rfl, rfl, rfl, ?_⟩
  | refine ⟨(by simp only [List.length_cons, List.length_nil]; decide), ?_⟩
  | refine ⟨rfl, nd1, ?_⟩
  | refine ⟨rfl, nd0, ?_⟩
  | refine ⟨_, argD8, ?_⟩
  | refine ⟨_, argD10, ?_⟩)
local macro_rules | `(tactic| walk_at "v") => `(tactic| first
  | (with_reducible show WE _ _ _; with_reducible first | refine we_var (by with_unfolding_all exact rfl) ?_ | refine we_varF (by with_unfolding_all exact rfl) frz_own ?_ | (show WE (tOp _ _ _) _ _; first | refine we_isNd ?_ | refine we_notNd ?_ | refine we_notN ?_ | refine we_ixS (by with_unfolding_all exact rfl) ?_ | refine we_ixScr (by with_unfolding_all exact rfl) ?_ | refine we_inS (by with_unfolding_all exact rfl) ?_ | refine we_notInS (by with_unfolding_all exact rfl) ?_ | refine we_eqS (by with_unfolding_all exact rfl) ?_ | refine we_neS (by with_unfolding_all exact rfl) ?_ | refine we_opK ?_) | (show WE (tCB _ _) _ _; first | refine we_repr ?_ | refine we_lenWeb (by with_unfolding_all exact rfl) (by assumption) ?_ | refine we_isInt ?_ | refine we_isBl ?_ | refine we_isLst ?_ | refine we_isTup ?_ | refine we_lenO (by with_unfolding_all exact rfl) ?_ | refine we_lenS' (by with_unfolding_all exact rfl) ?_ | refine we_lenScr (by with_unfolding_all exact rfl) ?_ | refine we_cbK ?_) | refine we_dnew ?_ | refine we_lenSetI ?_ | refine we_revL ?_ | refine we_nbWeb (by with_unfolding_all exact rfl) (by assumption) (by assumption) ?_ | refine we_tiesWeb (by with_unfolding_all exact rfl) ?_ | refine we_chain ?_ | refine we_slice ?_ | refine we_int ?_ | refine we_bl ?_ | refine we_non ?_ | refine we_str ?_ | refine we_neg ?_ | refine we_not ?_ | refine we_and ?_ | refine we_or ?_ | refine we_if ?_ | refine we_tup ?_ | refine we_lst ?_ | refine we_call ?_ | refine we_mt (by with_unfolding_all exact rfl) ?_)
  | (with_reducible show WS _ _ _ _; with_reducible first | refine ws_seqI ?_ | refine ws_seqA ?_ | refine ws_seqD ?_ | refine ws_asg (by with_unfolding_all exact rfl) ?_ | refine ws_asgG ?_ | refine ws_if ?_ | refine ws_ret ?_ | refine ws_drop ?_ | refine ws_next ?_ | refine ws_retN ?_)
  | (with_reducible show WT _ _ _; with_reducible first | refine wt_truL ?_ | refine wt_test ?_ | refine wt_B ?_ | refine wt_not ?_ | refine wt_and ?_ | refine wt_or ?_ | refine wt_yes ?_)
  | (with_reducible show WA _ _ _; with_reducible first | refine wa_nil ?_ | refine wa_cons (wq_of (we_var (by with_unfolding_all exact rfl) ?_)) | refine wa_slotU (by with_unfolding_all exact rfl) ?_ | refine wa_cons ?_)
  | (with_reducible show OpK _ _ _ _ _; with_reducible first | refine ok_neR ?_ | refine ok_eqR ?_ | refine ok_isB ?_ | refine ok_notB ?_ | refine ok_plusI ?_ | refine ok_sub ?_ | refine ok_lt ?_ | refine ok_le ?_ | refine ok_gt ?_ | refine ok_ge ?_ | refine ok_eqI ?_ | refine ok_neI ?_ | refine ok_mod (by first | assumption | decide | omega) ?_ | refine ok_ixL (by with_unfolding_all exact rfl) ?_)
  | (with_reducible show CbK _ _ _ _; with_reducible first | refine ck_tuple ?_ | refine ck_allF ?_ | refine ck_anyF ?_ | refine ck_abs ?_ | refine ck_sumI ?_ | refine ck_lenL ?_ | refine ck_lenT ?_ | refine ck_int ?_ | refine ck_intB ?_ | refine ck_max ?_ | refine ck_min ?_ | refine ck_list ?_)
  | with_reducible refine wq_of ?_
  | (with_reducible show WG _ _ _ _ _; with_reducible first | refine wg_name (by with_unfolding_all exact rfl) ?_ | refine wg_tup (by with_unfolding_all exact rfl) ?_ | refine wg_set (by with_unfolding_all exact rfl) ?_)
  | (with_reducible show WGs _ _ _ _ _; with_reducible first | refine wgs_cons ?_ | refine wgs_nil ?_)
  | (with_reducible show WO _ _ _; with_reducible first | refine wo_some ?_ | refine wo_none ?_)
  | refine ⟨_, argD5, ?_⟩
  | refine ⟨_, argD6, ?_⟩
  | refine ⟨_, argD7, ?_⟩
  | refine ⟨_, argD9, ?_⟩
  | with_reducible refine iteT ?_
  | with_reducible refine iteF ?_
  | with_reducible refine ⟨_, frz_per, ?_⟩
  | with_reducible refine ⟨_, frz_own, ?_⟩
  | refine ⟨_, rfl, ?_⟩
  | refine ⟨_, argD1, ?_⟩
  | refine ⟨_, argD2, ?_⟩
  | refine ⟨_, argD0, ?_⟩
  | refine ⟨_, argD3, ?_⟩
  | refine ⟨_, argD4, ?_⟩
  | refine ⟨_, _, rfl, rfl, rfl, ?_⟩
  | refine ⟨_, _, _, rfl, rfl, rfl, ?_⟩
  | refine ⟨(by simp only [List.length_cons, List.length_nil]; decide), ?_⟩
  | refine ⟨rfl, nd1, ?_⟩
  | refine ⟨rfl, nd0, ?_⟩
  | refine ⟨_, argD8, ?_⟩
  | refine ⟨_, argD10, ?_⟩)
local macro_rules | `(tactic| walk_at "p") => `(tactic| refine ⟨_, _, rfl, (by omega), (by first | decide | omega), (by first | decide | omega), ?_⟩)
local macro_rules | `(tactic| walk_at "n") => `(tactic| try dsimp only [back, List.set_cons_zero, List.set_cons_succ, List.map_cons, List.map_nil, List.cons_append, List.nil_append])
local macro_rules | `(tactic| walk_at "q") => `(tactic| first | with_reducible refine ws_seqP (ws_par (by with_unfolding_all exact rfl) (by with_unfolding_all exact rfl) ?_) | refine ⟨_, _, rfl, ?_⟩ | walk_at "v")
/-! ### what hangs together -/
inductive Conn (ts : List (Int × Int)) : Int → Int → Prop
  | refl (u : Int) : Conn ts u u
  | step {u v x : Int} : Conn ts u v → x ∈ nb ts v → Conn ts u x
/-- reached so far: xs; waiting: ws; E, what is under way -/
structure Front (n : Nat) (ts : List (Int × Int)) (p : Int) (xs ws : List Int) (E : Int → Prop) : Prop where
  root : p ∈ xs
  conn : ∀ x ∈ xs, Conn ts p x
  sub : ∀ x ∈ ws, x ∈ xs
  nd : xs.Nodup
  cl : ∀ x ∈ xs, x ∈ ws ∨ E x ∨ ∀ y ∈ nb ts x, y ∈ xs
  rng : ∀ x ∈ xs, 0 ≤ x ∧ x < n
theorem Front.all {n : Nat} {ts : List (Int × Int)} {p : Int} {xs : List Int} (F : Front n ts p xs [] fun _ => False) (x : Int) : x ∈ xs ↔ Conn ts p x := by
  refine ⟨F.conn x, fun h => ?_⟩
  have key : ∀ u, Conn ts p u → u ∈ xs := by
    intro u hc
    have : ∀ q u, Conn ts q u → q = p → u ∈ xs := by
      intro q u hc
      induction hc with
      | refl => intro e; rw [e]; exact F.root
      | step _ hx ih =>
        intro e
        rcases F.cl _ (ih e) with h | h | h
        · cases h
        · exact h.elim
        · exact h _ hx
    exact this p u hc rfl
  exact key x h
end G

namespace G
open PySem L2
local macro_rules | `(tactic| walk_at "g1") => `(tactic| first
  | (with_reducible show WE _ _ _; with_reducible first | refine we_var (by with_unfolding_all exact rfl) ?_ | (show WE (tOp _ _ _) _ _; first | refine we_ixS (by with_unfolding_all exact rfl) ?_ | refine we_ixScr (by with_unfolding_all exact rfl) ?_ | refine we_inS (by with_unfolding_all exact rfl) ?_ | refine we_notInS (by with_unfolding_all exact rfl) ?_ | refine we_eqS (by with_unfolding_all exact rfl) ?_ | refine we_neS (by with_unfolding_all exact rfl) ?_ | refine we_opK ?_) | (show WE (tCB _ _) _ _; first | refine we_lenS' (by with_unfolding_all exact rfl) ?_ | refine we_lenScr (by with_unfolding_all exact rfl) ?_ | refine we_cbK ?_) | refine we_int ?_ | refine we_bl ?_ | refine we_non ?_ | refine we_str ?_ | refine we_neg ?_ | refine we_not ?_ | refine we_and ?_ | refine we_or ?_ | refine we_if ?_ | refine we_tup ?_ | refine we_lst ?_ | refine we_call ?_ | refine we_mt (by with_unfolding_all exact rfl) ?_)
  | (with_reducible show WS _ _ _ _; with_reducible first | refine ws_seqA ?_ | refine ws_seqD ?_ | refine ws_asg (by with_unfolding_all exact rfl) ?_ | refine ws_asgG ?_ | refine ws_if ?_ | refine ws_ret ?_ | refine ws_drop ?_ | refine ws_next ?_ | refine ws_retN ?_)
  | (with_reducible show WT _ _ _; with_reducible first | refine wt_test ?_ | refine wt_B ?_ | refine wt_not ?_ | refine wt_and ?_ | refine wt_or ?_ | refine wt_yes ?_)
  | (with_reducible show WA _ _ _; with_reducible first | refine wa_nil ?_ | refine wa_cons (wq_of (we_var (by with_unfolding_all exact rfl) ?_)) | refine wa_slotU (by with_unfolding_all exact rfl) ?_ | refine wa_cons ?_)
  | (with_reducible show OpK _ _ _ _ _; with_reducible first | refine ok_plusI ?_ | refine ok_sub ?_ | refine ok_lt ?_ | refine ok_le ?_ | refine ok_gt ?_ | refine ok_ge ?_ | refine ok_eqI ?_ | refine ok_neI ?_ | refine ok_mod (by first | assumption | decide | omega) ?_ | refine ok_ixL (by with_unfolding_all exact rfl) ?_)
  | (with_reducible show CbK _ _ _ _; with_reducible first | refine ck_lenL ?_ | refine ck_lenT ?_ | refine ck_int ?_ | refine ck_intB ?_ | refine ck_max ?_ | refine ck_min ?_ | refine ck_list ?_)
  | with_reducible refine wq_of ?_
  | (with_reducible show WG _ _ _ _ _; with_reducible first | refine wg_name (by with_unfolding_all exact rfl) ?_ | refine wg_tup (by with_unfolding_all exact rfl) ?_ | refine wg_set (by with_unfolding_all exact rfl) ?_)
  | (with_reducible show WGs _ _ _ _ _; with_reducible first | refine wgs_cons ?_ | refine wgs_nil ?_)
  | with_reducible refine iteT ?_
  | with_reducible refine iteF ?_
  | with_reducible refine ⟨_, frz_per, ?_⟩
  | with_reducible refine ⟨_, frz_own, ?_⟩
  | refine ⟨_, rfl, ?_⟩
  | refine ⟨_, argD1, ?_⟩
  | refine ⟨_, argD2, ?_⟩
  | refine ⟨_, argD0, ?_⟩
  | refine ⟨_, argD3, ?_⟩
  | refine ⟨_, argD4, ?_⟩
  | refine ⟨_, _, rfl, rfl, rfl, ?_⟩
  | refine ⟨_, _, _, rfl, rfl, rfl, ?_⟩
  | refine ⟨(by simp only [List.length_cons, List.length_nil]; decide), ?_⟩
  | refine ⟨rfl, nd1, ?_⟩
  | refine ⟨rfl, nd0, ?_⟩)
local macro_rules | `(tactic| walk_at "go") => `(tactic| repeat walk_at "g1")
local macro_rules | `(tactic| walk_at "g2") => `(tactic| first
  | (with_reducible show WE _ _ _; with_reducible first | refine we_var (by with_unfolding_all exact rfl) ?_ | (show WE (tOp _ _ _) _ _; first | refine we_notN ?_ | refine we_ixS (by with_unfolding_all exact rfl) ?_ | refine we_ixScr (by with_unfolding_all exact rfl) ?_ | refine we_inS (by with_unfolding_all exact rfl) ?_ | refine we_notInS (by with_unfolding_all exact rfl) ?_ | refine we_eqS (by with_unfolding_all exact rfl) ?_ | refine we_neS (by with_unfolding_all exact rfl) ?_ | refine we_opK ?_) | (show WE (tCB _ _) _ _; first | refine we_isInt ?_ | refine we_isBl ?_ | refine we_isLst ?_ | refine we_isTup ?_ | refine we_lenO (by with_unfolding_all exact rfl) ?_ | refine we_lenS' (by with_unfolding_all exact rfl) ?_ | refine we_lenScr (by with_unfolding_all exact rfl) ?_ | refine we_cbK ?_) | refine we_chain ?_ | refine we_slice ?_ | refine we_int ?_ | refine we_bl ?_ | refine we_non ?_ | refine we_str ?_ | refine we_neg ?_ | refine we_not ?_ | refine we_and ?_ | refine we_or ?_ | refine we_if ?_ | refine we_tup ?_ | refine we_lst ?_ | refine we_call ?_ | refine we_mt (by with_unfolding_all exact rfl) ?_)
  | (with_reducible show WS _ _ _ _; with_reducible first | refine ws_seqA ?_ | refine ws_seqD ?_ | refine ws_asg (by with_unfolding_all exact rfl) ?_ | refine ws_asgG ?_ | refine ws_if ?_ | refine ws_ret ?_ | refine ws_drop ?_ | refine ws_next ?_ | refine ws_retN ?_)
  | (with_reducible show WT _ _ _; with_reducible first | refine wt_test ?_ | refine wt_B ?_ | refine wt_not ?_ | refine wt_and ?_ | refine wt_or ?_ | refine wt_yes ?_)
  | (with_reducible show WA _ _ _; with_reducible first | refine wa_nil ?_ | refine wa_cons (wq_of (we_var (by with_unfolding_all exact rfl) ?_)) | refine wa_slotU (by with_unfolding_all exact rfl) ?_ | refine wa_cons ?_)
  | (with_reducible show OpK _ _ _ _ _; with_reducible first | refine ok_isB ?_ | refine ok_notB ?_ | refine ok_plusI ?_ | refine ok_sub ?_ | refine ok_lt ?_ | refine ok_le ?_ | refine ok_gt ?_ | refine ok_ge ?_ | refine ok_eqI ?_ | refine ok_neI ?_ | refine ok_mod (by first | assumption | decide | omega) ?_ | refine ok_ixL (by with_unfolding_all exact rfl) ?_)
  | (with_reducible show CbK _ _ _ _; with_reducible first | refine ck_lenL ?_ | refine ck_lenT ?_ | refine ck_int ?_ | refine ck_intB ?_ | refine ck_max ?_ | refine ck_min ?_ | refine ck_list ?_)
  | with_reducible refine wq_of ?_
  | (with_reducible show WG _ _ _ _ _; with_reducible first | refine wg_name (by with_unfolding_all exact rfl) ?_ | refine wg_tup (by with_unfolding_all exact rfl) ?_ | refine wg_set (by with_unfolding_all exact rfl) ?_)
  | (with_reducible show WGs _ _ _ _ _; with_reducible first | refine wgs_cons ?_ | refine wgs_nil ?_)
  | (with_reducible show WO _ _ _; with_reducible first | refine wo_some ?_ | refine wo_none ?_)
  | refine ⟨_, argD5, ?_⟩
  | refine ⟨_, argD6, ?_⟩
  | refine ⟨_, argD7, ?_⟩
  | refine ⟨_, argD9, ?_⟩
  | with_reducible refine iteT ?_
  | with_reducible refine iteF ?_
  | with_reducible refine ⟨_, frz_per, ?_⟩
  | with_reducible refine ⟨_, frz_own, ?_⟩
  | refine ⟨_, rfl, ?_⟩
  | refine ⟨_, argD1, ?_⟩
  | refine ⟨_, argD2, ?_⟩
  | refine ⟨_, argD0, ?_⟩
  | refine ⟨_, argD3, ?_⟩
  | refine ⟨_, argD4, ?_⟩
  | refine ⟨_, _, rfl, rfl, rfl, ?_⟩
  | refine ⟨_, _, _, rfl, rfl, rfl, ?_⟩
  | refine ⟨(by simp only [List.length_cons, List.length_nil]; decide), ?_⟩
  | refine ⟨rfl, nd1, ?_⟩
  | refine ⟨rfl, nd0, ?_⟩)
local macro_rules | `(tactic| walk_at "w") => `(tactic| first
  | (with_reducible show WE _ _ _; with_reducible first | refine we_var (by with_unfolding_all exact rfl) ?_ | refine we_varF (by with_unfolding_all exact rfl) frz_own ?_ | (show WE (tOp _ _ _) _ _; first | refine we_isNd ?_ | refine we_notNd ?_ | refine we_notN ?_ | refine we_ixS (by with_unfolding_all exact rfl) ?_ | refine we_ixScr (by with_unfolding_all exact rfl) ?_ | refine we_inS (by with_unfolding_all exact rfl) ?_ | refine we_notInS (by with_unfolding_all exact rfl) ?_ | refine we_eqS (by with_unfolding_all exact rfl) ?_ | refine we_neS (by with_unfolding_all exact rfl) ?_ | refine we_opK ?_) | (show WE (tCB _ _) _ _; first | refine we_repr ?_ | refine we_isInt ?_ | refine we_isBl ?_ | refine we_isLst ?_ | refine we_isTup ?_ | refine we_lenO (by with_unfolding_all exact rfl) ?_ | refine we_lenS' (by with_unfolding_all exact rfl) ?_ | refine we_lenScr (by with_unfolding_all exact rfl) ?_ | refine we_cbK ?_) | refine we_dnew ?_ | refine we_lenSetI ?_ | refine we_revL ?_ | refine we_chain ?_ | refine we_slice ?_ | refine we_int ?_ | refine we_bl ?_ | refine we_non ?_ | refine we_str ?_ | refine we_neg ?_ | refine we_not ?_ | refine we_and ?_ | refine we_or ?_ | refine we_if ?_ | refine we_tup ?_ | refine we_lst ?_ | refine we_call ?_ | refine we_mt (by with_unfolding_all exact rfl) ?_)
  | (with_reducible show WS _ _ _ _; with_reducible first | refine ws_seqI ?_ | refine ws_seqA ?_ | refine ws_seqD ?_ | refine ws_asg (by with_unfolding_all exact rfl) ?_ | refine ws_asgG ?_ | refine ws_if ?_ | refine ws_ret ?_ | refine ws_drop ?_ | refine ws_next ?_ | refine ws_retN ?_)
  | (with_reducible show WT _ _ _; with_reducible first | refine wt_truL ?_ | refine wt_test ?_ | refine wt_B ?_ | refine wt_not ?_ | refine wt_and ?_ | refine wt_or ?_ | refine wt_yes ?_)
  | (with_reducible show WA _ _ _; with_reducible first | refine wa_nil ?_ | refine wa_cons (wq_of (we_var (by with_unfolding_all exact rfl) ?_)) | refine wa_slotU (by with_unfolding_all exact rfl) ?_ | refine wa_cons ?_)
  | (with_reducible show OpK _ _ _ _ _; with_reducible first | refine ok_neR ?_ | refine ok_eqR ?_ | refine ok_isB ?_ | refine ok_notB ?_ | refine ok_plusI ?_ | refine ok_sub ?_ | refine ok_lt ?_ | refine ok_le ?_ | refine ok_gt ?_ | refine ok_ge ?_ | refine ok_eqI ?_ | refine ok_neI ?_ | refine ok_mod (by first | assumption | decide | omega) ?_ | refine ok_ixL (by with_unfolding_all exact rfl) ?_)
  | (with_reducible show CbK _ _ _ _; with_reducible first | refine ck_tuple ?_ | refine ck_allF ?_ | refine ck_anyF ?_ | refine ck_abs ?_ | refine ck_sumI ?_ | refine ck_lenL ?_ | refine ck_lenT ?_ | refine ck_int ?_ | refine ck_intB ?_ | refine ck_max ?_ | refine ck_min ?_ | refine ck_list ?_)
  | with_reducible refine wq_of ?_
  | (with_reducible show WG _ _ _ _ _; with_reducible first | refine wg_name (by with_unfolding_all exact rfl) ?_ | refine wg_tup (by with_unfolding_all exact rfl) ?_ | refine wg_set (by with_unfolding_all exact rfl) ?_)
  | (with_reducible show WGs _ _ _ _ _; with_reducible first | refine wgs_cons ?_ | refine wgs_nil ?_)
  | (with_reducible show WO _ _ _; with_reducible first | refine wo_some ?_ | refine wo_none ?_)
  | refine ⟨_, argD5, ?_⟩
  | refine ⟨_, argD6, ?_⟩
  | refine ⟨_, argD7, ?_⟩
  | refine ⟨_, argD9, ?_⟩
  | with_reducible refine iteT ?_
  | with_reducible refine iteF ?_
  | with_reducible refine ⟨_, frz_per, ?_⟩
  | with_reducible refine ⟨_, frz_own, ?_⟩
  | refine ⟨_, rfl, ?_⟩
  | refine ⟨_, argD1, ?_⟩
  | refine ⟨_, argD2, ?_⟩
  | refine ⟨_, argD0, ?_⟩
  | refine ⟨_, argD3, ?_⟩
  | refine ⟨_, argD4, ?_⟩
  | refine ⟨_, _, rfl, rfl, rfl, ?_⟩
  | refine ⟨_, _, _, rfl, rfl, rfl, ?_⟩
  | refine ⟨(by simp only [List.length_cons, List.length_nil]; decide), ?_⟩
  | refine ⟨rfl, nd1, ?_⟩
  | refine ⟨rfl, nd0, ?_⟩
  | refine ⟨_, argD8, ?_⟩
  | refine ⟨_, argD10, ?_⟩)
local macro_rules | `(tactic| walk_at "v") => `(tactic| first
  | (with_reducible show WE _ _ _; with_reducible first | refine we_var (by with_unfolding_all exact rfl) ?_ | refine we_varF (by with_unfolding_all exact rfl) frz_own ?_ | (show WE (tOp _ _ _) _ _; first | refine we_isNd ?_ | refine we_notNd ?_ | refine we_notN ?_ | refine we_ixS (by with_unfolding_all exact rfl) ?_ | refine we_ixScr (by with_unfolding_all exact rfl) ?_ | refine we_inS (by with_unfolding_all exact rfl) ?_ | refine we_notInS (by with_unfolding_all exact rfl) ?_ | refine we_eqS (by with_unfolding_all exact rfl) ?_ | refine we_neS (by with_unfolding_all exact rfl) ?_ | refine we_opK ?_) | (show WE (tCB _ _) _ _; first | refine we_repr ?_ | refine we_lenWeb (by with_unfolding_all exact rfl) (by assumption) ?_ | refine we_isInt ?_ | refine we_isBl ?_ | refine we_isLst ?_ | refine we_isTup ?_ | refine we_lenO (by with_unfolding_all exact rfl) ?_ | refine we_lenS' (by with_unfolding_all exact rfl) ?_ | refine we_lenScr (by with_unfolding_all exact rfl) ?_ | refine we_cbK ?_) | refine we_dnew ?_ | refine we_lenSetI ?_ | refine we_revL ?_ | refine we_nbWeb (by with_unfolding_all exact rfl) (by assumption) (by assumption) ?_ | refine we_tiesWeb (by with_unfolding_all exact rfl) ?_ | refine we_chain ?_ | refine we_slice ?_ | refine we_int ?_ | refine we_bl ?_ | refine we_non ?_ | refine we_str ?_ | refine we_neg ?_ | refine we_not ?_ | refine we_and ?_ | refine we_or ?_ | refine we_if ?_ | refine we_tup ?_ | refine we_lst ?_ | refine we_call ?_ | refine we_mt (by with_unfolding_all exact rfl) ?_)
  | (with_reducible show WS _ _ _ _; with_reducible first | refine ws_seqI ?_ | refine ws_seqA ?_ | refine ws_seqD ?_ | refine ws_asg (by with_unfolding_all exact rfl) ?_ | refine ws_asgG ?_ | refine ws_if ?_ | refine ws_ret ?_ | refine ws_drop ?_ | refine ws_next ?_ | refine ws_retN ?_)
  | (with_reducible show WT _ _ _; with_reducible first | refine wt_truL ?_ | refine wt_test ?_ | refine wt_B ?_ | refine wt_not ?_ | refine wt_and ?_ | refine wt_or ?_ | refine wt_yes ?_)
  | (with_reducible show WA _ _ _; with_reducible first | refine wa_nil ?_ | refine wa_cons (wq_of (we_var (by with_unfolding_all exact rfl) ?_)) | refine wa_slotU (by with_unfolding_all exact rfl) ?_ | refine wa_cons ?_)
  | (with_reducible show OpK _ _ _ _ _; with_reducible first | refine ok_neR ?_ | refine ok_eqR ?_ | refine ok_isB ?_ | refine ok_notB ?_ | refine ok_plusI ?_ | refine ok_sub ?_ | refine ok_lt ?_ | refine ok_le ?_ | refine ok_gt ?_ | refine ok_ge ?_ | refine ok_eqI ?_ | refine ok_neI ?_ | refine ok_mod (by first | assumption | decide | omega) ?_ | refine ok_ixL (by with_unfolding_all exact rfl) ?_)
  | (with_reducible show CbK _ _ _ _; with_reducible first | refine ck_tuple ?_ | refine ck_allF ?_ | refine ck_anyF ?_ | refine ck_abs ?_ | refine ck_sumI ?_ | refine ck_lenL ?_ | refine ck_lenT ?_ | refine ck_int ?_ | refine ck_intB ?_ | refine ck_max ?_ | refine ck_min ?_ | refine ck_list ?_)
  | with_reducible refine wq_of ?_
  | (with_reducible show WG _ _ _ _ _; with_reducible first | refine wg_name (by with_unfolding_all exact rfl) ?_ | refine wg_tup (by with_unfolding_all exact rfl) ?_ | refine wg_set (by with_unfolding_all exact rfl) ?_)
  | (with_reducible show WGs _ _ _ _ _; with_reducible first | refine wgs_cons ?_ | refine wgs_nil ?_)
  | (with_reducible show WO _ _ _; with_reducible first | refine wo_some ?_ | refine wo_none ?_)
  | refine ⟨_, argD5, ?_⟩
  | refine ⟨_, argD6, ?_⟩
  | refine ⟨_, argD7, ?_⟩
  | refine ⟨_, argD9, ?_⟩
  | with_reducible refine iteT ?_
  | with_reducible refine iteF ?_
  | with_reducible refine ⟨_, frz_per, ?_⟩
  | with_reducible refine ⟨_, frz_own, ?_⟩
  | refine ⟨_, rfl, ?_⟩
  | refine ⟨_, argD1, ?_⟩
  | refine ⟨_, argD2, ?_⟩
  | refine ⟨_, argD0, ?_⟩
  | refine ⟨_, argD3, ?_⟩
  | refine ⟨_, argD4, ?_⟩
  | refine ⟨_, _, rfl, rfl, rfl, ?_⟩
  | refine ⟨_, _, _, rfl, rfl, rfl, ?_⟩
  | refine ⟨(by simp only [List.length_cons, List.length_nil]; decide), ?_⟩
  | refine ⟨rfl, nd1, ?_⟩
  | refine ⟨rfl, nd0, ?_⟩
  | refine ⟨_, argD8, ?_⟩
  | refine ⟨_, argD10, ?_⟩)
local macro_rules | `(tactic| walk_at "p") => `(tactic| refine ⟨_, _, rfl, (by omega), (by first | decide | omega), (by first | decide | omega), ?_⟩)
local macro_rules | `(tactic| walk_at "n") => `(tactic| try dsimp only [back, List.set_cons_zero, List.set_cons_succ, List.map_cons, List.map_nil, List.cons_append, List.nil_append])
local macro_rules | `(tactic| walk_at "q") => `(tactic| first | with_reducible refine ws_seqP (ws_par (by with_unfolding_all exact rfl) (by with_unfolding_all exact rfl) ?_) | refine ⟨_, _, rfl, ?_⟩ | walk_at "v")
end G

namespace G
open PySem L2
local macro_rules | `(tactic| walk_at "g1") => `(tactic| first
  | (with_reducible show WE _ _ _; with_reducible first | refine we_var (by with_unfolding_all exact rfl) ?_ | (show WE (tOp _ _ _) _ _; first | refine we_ixS (by with_unfolding_all exact rfl) ?_ | refine we_ixScr (by with_unfolding_all exact rfl) ?_ | refine we_inS (by with_unfolding_all exact rfl) ?_ | refine we_notInS (by with_unfolding_all exact rfl) ?_ | refine we_eqS (by with_unfolding_all exact rfl) ?_ | refine we_neS (by with_unfolding_all exact rfl) ?_ | refine we_opK ?_) | (show WE (tCB _ _) _ _; first | refine we_lenS' (by with_unfolding_all exact rfl) ?_ | refine we_lenScr (by with_unfolding_all exact rfl) ?_ | refine we_cbK ?_) | refine we_int ?_ | refine we_bl ?_ | refine we_non ?_ | refine we_str ?_ | refine we_neg ?_ | refine we_not ?_ | refine we_and ?_ | refine we_or ?_ | refine we_if ?_ | refine we_tup ?_ | refine we_lst ?_ | refine we_call ?_ | refine we_mt (by with_unfolding_all exact rfl) ?_)
  | (with_reducible show WS _ _ _ _; with_reducible first | refine ws_seqA ?_ | refine ws_seqD ?_ | refine ws_asg (by with_unfolding_all exact rfl) ?_ | refine ws_asgG ?_ | refine ws_if ?_ | refine ws_ret ?_ | refine ws_drop ?_ | refine ws_next ?_ | refine ws_retN ?_)
  | (with_reducible show WT _ _ _; with_reducible first | refine wt_test ?_ | refine wt_B ?_ | refine wt_not ?_ | refine wt_and ?_ | refine wt_or ?_ | refine wt_yes ?_)
  | (with_reducible show WA _ _ _; with_reducible first | refine wa_nil ?_ | refine wa_cons (wq_of (we_var (by with_unfolding_all exact rfl) ?_)) | refine wa_slotU (by with_unfolding_all exact rfl) ?_ | refine wa_cons ?_)
  | (with_reducible show OpK _ _ _ _ _; with_reducible first | refine ok_plusI ?_ | refine ok_sub ?_ | refine ok_lt ?_ | refine ok_le ?_ | refine ok_gt ?_ | refine ok_ge ?_ | refine ok_eqI ?_ | refine ok_neI ?_ | refine ok_mod (by first | assumption | decide | omega) ?_ | refine ok_ixL (by with_unfolding_all exact rfl) ?_)
  | (with_reducible show CbK _ _ _ _; with_reducible first | refine ck_lenL ?_ | refine ck_lenT ?_ | refine ck_int ?_ | refine ck_intB ?_ | refine ck_max ?_ | refine ck_min ?_ | refine ck_list ?_)
  | with_reducible refine wq_of ?_
  | (with_reducible show WG _ _ _ _ _; with_reducible first | refine wg_name (by with_unfolding_all exact rfl) ?_ | refine wg_tup (by with_unfolding_all exact rfl) ?_ | refine wg_set (by with_unfolding_all exact rfl) ?_)
  | (with_reducible show WGs _ _ _ _ _; with_reducible first | refine wgs_cons ?_ | refine wgs_nil ?_)
  | with_reducible refine iteT ?_
  | with_reducible refine iteF ?_
  | with_reducible refine ⟨_, frz_per, ?_⟩
  | with_reducible refine ⟨_, frz_own, ?_⟩
  | refine ⟨_, rfl, ?_⟩
  | refine ⟨_, argD1, ?_⟩
  | refine ⟨_, argD2, ?_⟩
  | refine ⟨_, argD0, ?_⟩
  | refine ⟨_, argD3, ?_⟩
  | refine ⟨_, argD4, ?_⟩
  | refine ⟨_, _, rfl, rfl, rfl, ?_⟩
  | refine ⟨_, _, _, rfl, rfl, rfl, ?_⟩
  | refine ⟨(by simp only [List.length_cons, List.length_nil]; decide), ?_⟩
  | refine ⟨rfl, nd1, ?_⟩
  | refine ⟨rfl, nd0, ?_⟩)
local macro_rules | `(tactic| walk_at "go") => `(tactic| repeat walk_at "g1")
local macro_rules | `(tactic| walk_at "g2") => `(tactic| first
  | (with_reducible show WE _ _ _; with_reducible first | refine we_var (by with_unfolding_all exact rfl) ?_ | (show WE (tOp _ _ _) _ _; first | refine we_notN ?_ | refine we_ixS (by with_unfolding_all exact rfl) ?_ | refine we_ixScr (by with_unfolding_all exact rfl) ?_ | refine we_inS (by with_unfolding_all exact rfl) ?_ | refine we_notInS (by with_unfolding_all exact rfl) ?_ | refine we_eqS (by with_unfolding_all exact rfl) ?_ | refine we_neS (by with_unfolding_all exact rfl) ?_ | refine we_opK ?_) | (show WE (tCB _ _) _ _; first | refine we_isInt ?_ | refine we_isBl ?_ | refine we_isLst ?_ | refine we_isTup ?_ | refine we_lenO (by with_unfolding_all exact rfl) ?_ | refine we_lenS' (by with_unfolding_all exact rfl) ?_ | refine we_lenScr (by with_unfolding_all exact rfl) ?_ | refine we_cbK ?_) | refine we_chain ?_ | refine we_slice ?_ | refine we_int ?_ | refine we_bl ?_ | refine we_non ?_ | refine we_str ?_ | refine we_neg ?_ | refine we_not ?_ | refine we_and ?_ | refine we_or ?_ | refine we_if ?_ | refine we_tup ?_ | refine we_lst ?_ | refine we_call ?_ | refine we_mt (by with_unfolding_all exact rfl) ?_)
  | (with_reducible show WS _ _ _ _; with_reducible first | refine ws_seqA ?_ | refine ws_seqD ?_ | refine ws_asg (by with_unfolding_all exact rfl) ?_ | refine ws_asgG ?_ | refine ws_if ?_ | refine ws_ret ?_ | refine ws_drop ?_ | refine ws_next ?_ | refine ws_retN ?_)
  | (with_reducible show WT _ _ _; with_reducible first | refine wt_test ?_ | refine wt_B ?_ | refine wt_not ?_ | refine wt_and ?_ | refine wt_or ?_ | refine wt_yes ?_)
  | (with_reducible show WA _ _ _; with_reducible first | refine wa_nil ?_ | refine wa_cons (wq_of (we_var (by with_unfolding_all exact rfl) ?_)) | refine wa_slotU (by with_unfolding_all exact rfl) ?_ | refine wa_cons ?_)
  | (with_reducible show OpK _ _ _ _ _; with_reducible first | refine ok_isB ?_ | refine ok_notB ?_ | refine ok_plusI ?_ | refine ok_sub ?_ | refine ok_lt ?_ | refine ok_le ?_ | refine ok_gt ?_ | refine ok_ge ?_ | refine ok_eqI ?_ | refine ok_neI ?_ | refine ok_mod (by first | assumption | decide | omega) ?_ | refine ok_ixL (by with_unfolding_all exact rfl) ?_)
  | (with_reducible show CbK _ _ _ _; with_reducible first | refine ck_lenL ?_ | refine ck_lenT ?_ | refine ck_int ?_ | refine ck_intB ?_ | refine ck_max ?_ | refine ck_min ?_ | refine ck_list ?_)
  | with_reducible refine wq_of ?_
  | (with_reducible show WG _ _ _ _ _; with_reducible first | refine wg_name (by with_unfolding_all exact rfl) ?_ | refine wg_tup (by with_unfolding_all exact rfl) ?_ | refine wg_set (by with_unfolding_all exact rfl) ?_)
  | (with_reducible show WGs _ _ _ _ _; with_reducible first | refine wgs_cons ?_ | refine wgs_nil ?_)
  | (with_reducible show WO _ _ _; with_reducible first | refine wo_some ?_ | refine wo_none ?_)
  | refine ⟨_, argD5, ?_⟩
  | refine ⟨_, argD6, ?_⟩
  | refine ⟨_, argD7, ?_⟩
  | refine ⟨_, argD9, ?_⟩
  | with_reducible refine iteT ?_
  | with_reducible refine iteF ?_
  | with_reducible refine ⟨_, frz_per, ?_⟩
  | with_reducible refine ⟨_, frz_own, ?_⟩
  | refine ⟨_, rfl, ?_⟩
  | refine ⟨_, argD1, ?_⟩
  | refine ⟨_, argD2, ?_⟩
  | refine ⟨_, argD0, ?_⟩
  | refine ⟨_, argD3, ?_⟩
  | refine ⟨_, argD4, ?_⟩
  | refine ⟨_, _, rfl, rfl, rfl, ?_⟩
  | refine ⟨_, _, _, rfl, rfl, rfl, ?_⟩
  | refine ⟨(by simp only [List.length_cons, List.length_nil]; decide), ?_⟩
  | refine ⟨rfl, nd1, ?_⟩
  | refine ⟨rfl, nd0, ?_⟩)
local macro_rules | `(tactic| walk_at "w") => `(tactic| first
  | (with_reducible show WE _ _ _; with_reducible first | refine we_var (by with_unfolding_all exact rfl) ?_ | refine we_varF (by with_unfolding_all exact rfl) frz_own ?_ | (show WE (tOp _ _ _) _ _; first | refine we_isNd ?_ | refine we_notNd ?_ | refine we_notN ?_ | refine we_ixS (by with_unfolding_all exact rfl) ?_ | refine we_ixScr (by with_unfolding_all exact rfl) ?_ | refine we_inS (by with_unfolding_all exact rfl) ?_ | refine we_notInS (by with_unfolding_all exact rfl) ?_ | refine we_eqS (by with_unfolding_all exact rfl) ?_ | refine we_neS (by with_unfolding_all exact rfl) ?_ | refine we_opK ?_) | (show WE (tCB _ _) _ _; first | refine we_repr ?_ | refine we_isInt ?_ | refine we_isBl ?_ | refine we_isLst ?_ | refine we_isTup ?_ | refine we_lenO (by with_unfolding_all exact rfl) ?_ | refine we_lenS' (by with_unfolding_all exact rfl) ?_ | refine we_lenScr (by with_unfolding_all exact rfl) ?_ | refine we_cbK ?_) | refine we_dnew ?_ | refine we_lenSetI ?_ | refine we_revL ?_ | refine we_chain ?_ | refine we_slice ?_ | refine we_int ?_ | refine we_bl ?_ | refine we_non ?_ | refine we_str ?_ | refine we_neg ?_ | refine we_not ?_ | refine we_and ?_ | refine we_or ?_ | refine we_if ?_ | refine we_tup ?_ | refine we_lst ?_ | refine we_call ?_ | refine we_mt (by with_unfolding_all exact rfl) ?_)
  | (with_reducible show WS _ _ _ _; with_reducible first | refine ws_seqI ?_ | refine ws_seqA ?_ | refine ws_seqD ?_ | refine ws_asg (by with_unfolding_all exact rfl) ?_ | refine ws_asgG ?_ | refine ws_if ?_ | refine ws_ret ?_ | refine ws_drop ?_ | refine ws_next ?_ | refine ws_retN ?_)
  | (with_reducible show WT _ _ _; with_reducible first | refine wt_truL ?_ | refine wt_test ?_ | refine wt_B ?_ | refine wt_not ?_ | refine wt_and ?_ | refine wt_or ?_ | refine wt_yes ?_)
  | (with_reducible show WA _ _ _; with_reducible first | refine wa_nil ?_ | refine wa_cons (wq_of (we_var (by with_unfolding_all exact rfl) ?_)) | refine wa_slotU (by with_unfolding_all exact rfl) ?_ | refine wa_cons ?_)
  | (with_reducible show OpK _ _ _ _ _; with_reducible first | refine ok_neR ?_ | refine ok_eqR ?_ | refine ok_isB ?_ | refine ok_notB ?_ | refine ok_plusI ?_ | refine ok_sub ?_ | refine ok_lt ?_ | refine ok_le ?_ | refine ok_gt ?_ | refine ok_ge ?_ | refine ok_eqI ?_ | refine ok_neI ?_ | refine ok_mod (by first | assumption | decide | omega) ?_ | refine ok_ixL (by with_unfolding_all exact rfl) ?_)
  | (with_reducible show CbK _ _ _ _; with_reducible first | refine ck_tuple ?_ | refine ck_allF ?_ | refine ck_anyF ?_ | refine ck_abs ?_ | refine ck_sumI ?_ | refine ck_lenL ?_ | refine ck_lenT ?_ | refine ck_int ?_ | refine ck_intB ?_ | refine ck_max ?_ | refine ck_min ?_ | refine ck_list ?_)
  | with_reducible refine wq_of ?_
  | (with_reducible show WG _ _ _ _ _; with_reducible first | refine wg_name (by with_unfolding_all exact rfl) ?_ | refine wg_tup (by with_unfolding_all exact rfl) ?_ | refine wg_set (by with_unfolding_all exact rfl) ?_)
  | (with_reducible show WGs _ _ _ _ _; with_reducible first | refine wgs_cons ?_ | refine wgs_nil ?_)
  | (with_reducible show WO _ _ _; with_reducible first | refine wo_some ?_ | refine wo_none ?_)
  | refine ⟨_, argD5, ?_⟩
  | refine ⟨_, argD6, ?_⟩
  | refine ⟨_, argD7, ?_⟩
  | refine ⟨_, argD9, ?_⟩
  | with_reducible refine iteT ?_
  | with_reducible refine iteF ?_
  | with_reducible refine ⟨_, frz_per, ?_⟩
  | with_reducible refine ⟨_, frz_own, ?_⟩
  | refine ⟨_, rfl, ?_⟩
  | refine ⟨_, argD1, ?_⟩
  | refine ⟨_, argD2, ?_⟩
  | refine ⟨_, argD0, ?_⟩
  | refine ⟨_, argD3, ?_⟩
  | refine ⟨_, argD4, ?_⟩
  | refine ⟨_, _, rfl, rfl, rfl, ?_⟩
  | refine ⟨_, _, _, rfl, rfl, rfl, ?_⟩
  | refine ⟨(by simp only [List.length_cons, List.length_nil]; decide), ?_⟩
  | refine ⟨rfl, nd1, ?_⟩
  | refine ⟨rfl, nd0, ?_⟩
  | refine ⟨_, argD8, ?_⟩
  | refine ⟨_, argD10, ?_⟩)
local macro_rules | `(tactic| walk_at "v") => `(tactic| first
  | (with_reducible show WE _ _ _; with_reducible first | refine we_var (by with_unfolding_all exact rfl) ?_ | refine we_varF (by with_unfolding_all exact rfl) frz_own ?_ | (show WE (tOp _ _ _) _ _; first | refine we_isNd ?_ | refine we_notNd ?_ | refine we_notN ?_ | refine we_ixS (by with_unfolding_all exact rfl) ?_ | refine we_ixScr (by with_unfolding_all exact rfl) ?_ | refine we_inS (by with_unfolding_all exact rfl) ?_ | refine we_notInS (by with_unfolding_all exact rfl) ?_ | refine we_eqS (by with_unfolding_all exact rfl) ?_ | refine we_neS (by with_unfolding_all exact rfl) ?_ | refine we_opK ?_) | (show WE (tCB _ _) _ _; first | refine we_repr ?_ | refine we_lenWeb (by with_unfolding_all exact rfl) (by assumption) ?_ | refine we_isInt ?_ | refine we_isBl ?_ | refine we_isLst ?_ | refine we_isTup ?_ | refine we_lenO (by with_unfolding_all exact rfl) ?_ | refine we_lenS' (by with_unfolding_all exact rfl) ?_ | refine we_lenScr (by with_unfolding_all exact rfl) ?_ | refine we_cbK ?_) | refine we_dnew ?_ | refine we_lenSetI ?_ | refine we_revL ?_ | refine we_nbWeb (by with_unfolding_all exact rfl) (by assumption) (by assumption) ?_ | refine we_tiesWeb (by with_unfolding_all exact rfl) ?_ | refine we_chain ?_ | refine we_slice ?_ | refine we_int ?_ | refine we_bl ?_ | refine we_non ?_ | refine we_str ?_ | refine we_neg ?_ | refine we_not ?_ | refine we_and ?_ | refine we_or ?_ | refine we_if ?_ | refine we_tup ?_ | refine we_lst ?_ | refine we_call ?_ | refine we_mt (by with_unfolding_all exact rfl) ?_)
  | (with_reducible show WS _ _ _ _; with_reducible first | refine ws_seqI ?_ | refine ws_seqA ?_ | refine ws_seqD ?_ | refine ws_asg (by with_unfolding_all exact rfl) ?_ | refine ws_asgG ?_ | refine ws_if ?_ | refine ws_ret ?_ | refine ws_drop ?_ | refine ws_next ?_ | refine ws_retN ?_)
  | (with_reducible show WT _ _ _; with_reducible first | refine wt_truL ?_ | refine wt_test ?_ | refine wt_B ?_ | refine wt_not ?_ | refine wt_and ?_ | refine wt_or ?_ | refine wt_yes ?_)
  | (with_reducible show WA _ _ _; with_reducible first | refine wa_nil ?_ | refine wa_cons (wq_of (we_var (by with_unfolding_all exact rfl) ?_)) | refine wa_slotU (by with_unfolding_all exact rfl) ?_ | refine wa_cons ?_)
  | (with_reducible show OpK _ _ _ _ _; with_reducible first | refine ok_neR ?_ | refine ok_eqR ?_ | refine ok_isB ?_ | refine ok_notB ?_ | refine ok_plusI ?_ | refine ok_sub ?_ | refine ok_lt ?_ | refine ok_le ?_ | refine ok_gt ?_ | refine ok_ge ?_ | refine ok_eqI ?_ | refine ok_neI ?_ | refine ok_mod (by first | assumption | decide | omega) ?_ | refine ok_ixL (by with_unfolding_all exact rfl) ?_)
  | (with_reducible show CbK _ _ _ _; with_reducible first | refine ck_tuple ?_ | refine ck_allF ?_ | refine ck_anyF ?_ | refine ck_abs ?_ | refine ck_sumI ?_ | refine ck_lenL ?_ | refine ck_lenT ?_ | refine ck_int ?_ | refine ck_intB ?_ | refine ck_max ?_ | refine ck_min ?_ | refine ck_list ?_)
  | with_reducible refine wq_of ?_
  | (with_reducible show WG _ _ _ _ _; with_reducible first | refine wg_name (by with_unfolding_all exact rfl) ?_ | refine wg_tup (by with_unfolding_all exact rfl) ?_ | refine wg_set (by with_unfolding_all exact rfl) ?_)
  | (with_reducible show WGs _ _ _ _ _; with_reducible first | refine wgs_cons ?_ | refine wgs_nil ?_)
  | (with_reducible show WO _ _ _; with_reducible first | refine wo_some ?_ | refine wo_none ?_)
  | refine ⟨_, argD5, ?_⟩
  | refine ⟨_, argD6, ?_⟩
  | refine ⟨_, argD7, ?_⟩
  | refine ⟨_, argD9, ?_⟩
  | with_reducible refine iteT ?_
  | with_reducible refine iteF ?_
  | with_reducible refine ⟨_, frz_per, ?_⟩
  | with_reducible refine ⟨_, frz_own, ?_⟩
  | refine ⟨_, rfl, ?_⟩
  | refine ⟨_, argD1, ?_⟩
  | refine ⟨_, argD2, ?_⟩
  | refine ⟨_, argD0, ?_⟩
  | refine ⟨_, argD3, ?_⟩
  | refine ⟨_, argD4, ?_⟩
  | refine ⟨_, _, rfl, rfl, rfl, ?_⟩
  | refine ⟨_, _, _, rfl, rfl, rfl, ?_⟩
  | refine ⟨(by simp only [List.length_cons, List.length_nil]; decide), ?_⟩
  | refine ⟨rfl, nd1, ?_⟩
  | refine ⟨rfl, nd0, ?_⟩
  | refine ⟨_, argD8, ?_⟩
  | refine ⟨_, argD10, ?_⟩)
local macro_rules | `(tactic| walk_at "p") => `(tactic| refine ⟨_, _, rfl, (by omega), (by first | decide | omega), (by first | decide | omega), ?_⟩)
local macro_rules | `(tactic| walk_at "n") => `(tactic| try dsimp only [back, List.set_cons_zero, List.set_cons_succ, List.map_cons, List.map_nil, List.cons_append, List.nil_append])
local macro_rules | `(tactic| walk_at "q") => `(tactic| first | with_reducible refine ws_seqP (ws_par (by with_unfolding_all exact rfl) (by with_unfolding_all exact rfl) ?_) | refine ⟨_, _, rfl, ?_⟩ | walk_at "v")
local macro_rules | `(tactic| walk_at "j") => `(tactic| first
  | (with_reducible show WA _ _ _; with_reducible refine wa_slotJ (by with_unfolding_all exact rfl) ?_)
  | walk_at "v")
namespace J
end J
end G

namespace G
open PySem L2
local macro_rules | `(tactic| walk_at "g1") => `(tactic| first
  | (with_reducible show WE _ _ _; with_reducible first | refine we_var (by with_unfolding_all exact rfl) ?_ | (show WE (tOp _ _ _) _ _; first | refine we_ixS (by with_unfolding_all exact rfl) ?_ | refine we_ixScr (by with_unfolding_all exact rfl) ?_ | refine we_inS (by with_unfolding_all exact rfl) ?_ | refine we_notInS (by with_unfolding_all exact rfl) ?_ | refine we_eqS (by with_unfolding_all exact rfl) ?_ | refine we_neS (by with_unfolding_all exact rfl) ?_ | refine we_opK ?_) | (show WE (tCB _ _) _ _; first | refine we_lenS' (by with_unfolding_all exact rfl) ?_ | refine we_lenScr (by with_unfolding_all exact rfl) ?_ | refine we_cbK ?_) | refine we_int ?_ | refine we_bl ?_ | refine we_non ?_ | refine we_str ?_ | refine we_neg ?_ | refine we_not ?_ | refine we_and ?_ | refine we_or ?_ | refine we_if ?_ | refine we_tup ?_ | refine we_lst ?_ | refine we_call ?_ | refine we_mt (by with_unfolding_all exact rfl) ?_)
  | (with_reducible show WS _ _ _ _; with_reducible first | refine ws_seqA ?_ | refine ws_seqD ?_ | refine ws_asg (by with_unfolding_all exact rfl) ?_ | refine ws_asgG ?_ | refine ws_if ?_ | refine ws_ret ?_ | refine ws_drop ?_ | refine ws_next ?_ | refine ws_retN ?_)
  | (with_reducible show WT _ _ _; with_reducible first | refine wt_test ?_ | refine wt_B ?_ | refine wt_not ?_ | refine wt_and ?_ | refine wt_or ?_ | refine wt_yes ?_)
  | (with_reducible show WA _ _ _; with_reducible first | refine wa_nil ?_ | refine wa_cons (wq_of (we_var (by with_unfolding_all exact rfl) ?_)) | refine wa_slotU (by with_unfolding_all exact rfl) ?_ | refine wa_cons ?_)
  | (with_reducible show OpK _ _ _ _ _; with_reducible first | refine ok_plusI ?_ | refine ok_sub ?_ | refine ok_lt ?_ | refine ok_le ?_ | refine ok_gt ?_ | refine ok_ge ?_ | refine ok_eqI ?_ | refine ok_neI ?_ | refine ok_mod (by first | assumption | decide | omega) ?_ | refine ok_ixL (by with_unfolding_all exact rfl) ?_)
  | (with_reducible show CbK _ _ _ _; with_reducible first | refine ck_lenL ?_ | refine ck_lenT ?_ | refine ck_int ?_ | refine ck_intB ?_ | refine ck_max ?_ | refine ck_min ?_ | refine ck_list ?_)
  | with_reducible refine wq_of ?_
  | (with_reducible show WG _ _ _ _ _; with_reducible first | refine wg_name (by with_unfolding_all exact rfl) ?_ | refine wg_tup (by with_unfolding_all exact rfl) ?_ | refine wg_set (by with_unfolding_all exact rfl) ?_)
  | (with_reducible show WGs _ _ _ _ _; with_reducible first | refine wgs_cons ?_ | refine wgs_nil ?_)
  | with_reducible refine iteT ?_
  | with_reducible refine iteF ?_
  | with_reducible refine ⟨_, frz_per, ?_⟩
  | with_reducible refine ⟨_, frz_own, ?_⟩
  | refine ⟨_, rfl, ?_⟩
  | refine ⟨_, argD1, ?_⟩
  | refine ⟨_, argD2, ?_⟩
  | refine ⟨_, argD0, ?_⟩
  | refine ⟨_, argD3, ?_⟩
  | refine ⟨_, argD4, ?_⟩
  | refine ⟨_, _, rfl, rfl, rfl, ?_⟩
  | refine ⟨_, _, _, rfl, rfl, rfl, ?_⟩
  | refine ⟨(by simp only [List.length_cons, List.length_nil]; decide), ?_⟩
  | refine ⟨rfl, nd1, ?_⟩
  | refine ⟨rfl, nd0, ?_⟩)
local macro_rules | `(tactic| walk_at "go") => `(tactic| repeat walk_at "g1")
local macro_rules | `(tactic| walk_at "g2") => `(tactic| first
  | (with_reducible show WE _ _ _; with_reducible first | refine we_var (by with_unfolding_all exact rfl) ?_ | (show WE (tOp _ _ _) _ _; first | refine we_notN ?_ | refine we_ixS (by with_unfolding_all exact rfl) ?_ | refine we_ixScr (by with_unfolding_all exact rfl) ?_ | refine we_inS (by with_unfolding_all exact rfl) ?_ | refine we_notInS (by with_unfolding_all exact rfl) ?_ | refine we_eqS (by with_unfolding_all exact rfl) ?_ | refine we_neS (by with_unfolding_all exact rfl) ?_ | refine we_opK ?_) | (show WE (tCB _ _) _ _; first | refine we_isInt ?_ | refine we_isBl ?_ | refine we_isLst ?_ | refine we_isTup ?_ | refine we_lenO (by with_unfolding_all exact rfl) ?_ | refine we_lenS' (by with_unfolding_all exact rfl) ?_ | refine we_lenScr (by with_unfolding_all exact rfl) ?_ | refine we_cbK ?_) | refine we_chain ?_ | refine we_slice ?_ | refine we_int ?_ | refine we_bl ?_ | refine we_non ?_ | refine we_str ?_ | refine we_neg ?_ | refine we_not ?_ | refine we_and ?_ | refine we_or ?_ | refine we_if ?_ | refine we_tup ?_ | refine we_lst ?_ | refine we_call ?_ | refine we_mt (by with_unfolding_all exact rfl) ?_)
  | (with_reducible show WS _ _ _ _; with_reducible first | refine ws_seqA ?_ | refine ws_seqD ?_ | refine ws_asg (by with_unfolding_all exact rfl) ?_ | refine ws_asgG ?_ | refine ws_if ?_ | refine ws_ret ?_ | refine ws_drop ?_ | refine ws_next ?_ | refine ws_retN ?_)
  | (with_reducible show WT _ _ _; with_reducible first | refine wt_test ?_ | refine wt_B ?_ | refine wt_not ?_ | refine wt_and ?_ | refine wt_or ?_ | refine wt_yes ?_)
  | (with_reducible show WA _ _ _; with_reducible first | refine wa_nil ?_ | refine wa_cons (wq_of (we_var (by with_unfolding_all exact rfl) ?_)) | refine wa_slotU (by with_unfolding_all exact rfl) ?_ | refine wa_cons ?_)
  | (with_reducible show OpK _ _ _ _ _; with_reducible first | refine ok_isB ?_ | refine ok_notB ?_ | refine ok_plusI ?_ | refine ok_sub ?_ | refine ok_lt ?_ | refine ok_le ?_ | refine ok_gt ?_ | refine ok_ge ?_ | refine ok_eqI ?_ | refine ok_neI ?_ | refine ok_mod (by first | assumption | decide | omega) ?_ | refine ok_ixL (by with_unfolding_all exact rfl) ?_)
  | (with_reducible show CbK _ _ _ _; with_reducible first | refine ck_lenL ?_ | refine ck_lenT ?_ | refine ck_int ?_ | refine ck_intB ?_ | refine ck_max ?_ | refine ck_min ?_ | refine ck_list ?_)
  | with_reducible refine wq_of ?_
  | (with_reducible show WG _ _ _ _ _; with_reducible first | refine wg_name (by with_unfolding_all exact rfl) ?_ | refine wg_tup (by with_unfolding_all exact rfl) ?_ | refine wg_set (by with_unfolding_all exact rfl) ?_)
  | (with_reducible show WGs _ _ _ _ _; with_reducible first | refine wgs_cons ?_ | refine wgs_nil ?_)
  | (with_reducible show WO _ _ _; with_reducible first | refine wo_some ?_ | refine wo_none ?_)
  | refine ⟨_, argD5, ?_⟩
  | refine ⟨_, argD6, ?_⟩
  | refine ⟨_, argD7, ?_⟩
  | refine ⟨_, argD9, ?_⟩
  | with_reducible refine iteT ?_
  | with_reducible refine iteF ?_
  | with_reducible refine ⟨_, frz_per, ?_⟩
  | with_reducible refine ⟨_, frz_own, ?_⟩
  | refine ⟨_, rfl, ?_⟩
  | refine ⟨_, argD1, ?_⟩
  | refine ⟨_, argD2, ?_⟩
  | refine ⟨_, argD0, ?_⟩
  | refine ⟨_, argD3, ?_⟩
  | refine ⟨_, argD4, ?_⟩
  | refine ⟨_, _, rfl, rfl, rfl, ?_⟩
  | refine ⟨_, _, _, rfl, rfl, rfl, ?_⟩
  | refine ⟨(by simp only [List.length_cons, List.length_nil]; decide), ?_⟩
  | refine ⟨rfl, nd1, ?_⟩
  | refine ⟨rfl, nd0, ?_⟩)
local macro_rules | `(tactic| walk_at "w") => `(tactic| first
  | (with_reducible show WE _ _ _; with_reducible first | refine we_var (by with_unfolding_all exact rfl) ?_ | refine we_varF (by with_unfolding_all exact rfl) frz_own ?_ | (show WE (tOp _ _ _) _ _; first | refine we_isNd ?_ | refine we_notNd ?_ | refine we_notN ?_ | refine we_ixS (by with_unfolding_all exact rfl) ?_ | refine we_ixScr (by with_unfolding_all exact rfl) ?_ | refine we_inS (by with_unfolding_all exact rfl) ?_ | refine we_notInS (by with_unfolding_all exact rfl) ?_ | refine we_eqS (by with_unfolding_all exact rfl) ?_ | refine we_neS (by with_unfolding_all exact rfl) ?_ | refine we_opK ?_) | (show WE (tCB _ _) _ _; first | refine we_repr ?_ | refine we_isInt ?_ | refine we_isBl ?_ | refine we_isLst ?_ | refine we_isTup ?_ | refine we_lenO (by with_unfolding_all exact rfl) ?_ | refine we_lenS' (by with_unfolding_all exact rfl) ?_ | refine we_lenScr (by with_unfolding_all exact rfl) ?_ | refine we_cbK ?_) | refine we_dnew ?_ | refine we_lenSetI ?_ | refine we_revL ?_ | refine we_chain ?_ | refine we_slice ?_ | refine we_int ?_ | refine we_bl ?_ | refine we_non ?_ | refine we_str ?_ | refine we_neg ?_ | refine we_not ?_ | refine we_and ?_ | refine we_or ?_ | refine we_if ?_ | refine we_tup ?_ | refine we_lst ?_ | refine we_call ?_ | refine we_mt (by with_unfolding_all exact rfl) ?_)
  | (with_reducible show WS _ _ _ _; with_reducible first | refine ws_seqI ?_ | refine ws_seqA ?_ | refine ws_seqD ?_ | refine ws_asg (by with_unfolding_all exact rfl) ?_ | refine ws_asgG ?_ | refine ws_if ?_ | refine ws_ret ?_ | refine ws_drop ?_ | refine ws_next ?_ | refine ws_retN ?_)
  | (with_reducible show WT _ _ _; with_reducible first | refine wt_truL ?_ | refine wt_test ?_ | refine wt_B ?_ | refine wt_not ?_ | refine wt_and ?_ | refine wt_or ?_ | refine wt_yes ?_)
  | (with_reducible show WA _ _ _; with_reducible first | refine wa_nil ?_ | refine wa_cons (wq_of (we_var (by with_unfolding_all exact rfl) ?_)) | refine wa_slotU (by with_unfolding_all exact rfl) ?_ | refine wa_cons ?_)
  | (with_reducible show OpK _ _ _ _ _; with_reducible first | refine ok_neR ?_ | refine ok_eqR ?_ | refine ok_isB ?_ | refine ok_notB ?_ | refine ok_plusI ?_ | refine ok_sub ?_ | refine ok_lt ?_ | refine ok_le ?_ | refine ok_gt ?_ | refine ok_ge ?_ | refine ok_eqI ?_ | refine ok_neI ?_ | refine ok_mod (by first | assumption | decide | omega) ?_ | refine ok_ixL (by with_unfolding_all exact rfl) ?_)
  | (with_reducible show CbK _ _ _ _; with_reducible first | refine ck_tuple ?_ | refine ck_allF ?_ | refine ck_anyF ?_ | refine ck_abs ?_ | refine ck_sumI ?_ | refine ck_lenL ?_ | refine ck_lenT ?_ | refine ck_int ?_ | refine ck_intB ?_ | refine ck_max ?_ | refine ck_min ?_ | refine ck_list ?_)
  | with_reducible refine wq_of ?_
  | (with_reducible show WG _ _ _ _ _; with_reducible first | refine wg_name (by with_unfolding_all exact rfl) ?_ | refine wg_tup (by with_unfolding_all exact rfl) ?_ | refine wg_set (by with_unfolding_all exact rfl) ?_)
  | (with_reducible show WGs _ _ _ _ _; with_reducible first | refine wgs_cons ?_ | refine wgs_nil ?_)
  | (with_reducible show WO _ _ _; with_reducible first | refine wo_some ?_ | refine wo_none ?_)
  | refine ⟨_, argD5, ?_⟩
  | refine ⟨_, argD6, ?_⟩
  | refine ⟨_, argD7, ?_⟩
  | refine ⟨_, argD9, ?_⟩
  | with_reducible refine iteT ?_
  | with_reducible refine iteF ?_
  | with_reducible refine ⟨_, frz_per, ?_⟩
  | with_reducible refine ⟨_, frz_own, ?_⟩
  | refine ⟨_, rfl, ?_⟩
  | refine ⟨_, argD1, ?_⟩
  | refine ⟨_, argD2, ?_⟩
  | refine ⟨_, argD0, ?_⟩
  | refine ⟨_, argD3, ?_⟩
  | refine ⟨_, argD4, ?_⟩
  | refine ⟨_, _, rfl, rfl, rfl, ?_⟩
  | refine ⟨_, _, _, rfl, rfl, rfl, ?_⟩
  | refine ⟨(by simp only [List.length_cons, List.length_nil]; decide), ?_⟩
  | refine ⟨rfl, nd1, ?_⟩
  | refine ⟨rfl, nd0, ?_⟩
  | refine ⟨_, argD8, ?_⟩
  | refine ⟨_, argD10, ?_⟩)
local macro_rules | `(tactic| walk_at "v") => `(tactic| first
  | (with_reducible show WE _ _ _; with_reducible first | refine we_var (by with_unfolding_all exact rfl) ?_ | refine we_varF (by with_unfolding_all exact rfl) frz_own ?_ | (show WE (tOp _ _ _) _ _; first | refine we_isNd ?_ | refine we_notNd ?_ | refine we_notN ?_ | refine we_ixS (by with_unfolding_all exact rfl) ?_ | refine we_ixScr (by with_unfolding_all exact rfl) ?_ | refine we_inS (by with_unfolding_all exact rfl) ?_ | refine we_notInS (by with_unfolding_all exact rfl) ?_ | refine we_eqS (by with_unfolding_all exact rfl) ?_ | refine we_neS (by with_unfolding_all exact rfl) ?_ | refine we_opK ?_) | (show WE (tCB _ _) _ _; first | refine we_repr ?_ | refine we_lenWeb (by with_unfolding_all exact rfl) (by assumption) ?_ | refine we_isInt ?_ | refine we_isBl ?_ | refine we_isLst ?_ | refine we_isTup ?_ | refine we_lenO (by with_unfolding_all exact rfl) ?_ | refine we_lenS' (by with_unfolding_all exact rfl) ?_ | refine we_lenScr (by with_unfolding_all exact rfl) ?_ | refine we_cbK ?_) | refine we_dnew ?_ | refine we_lenSetI ?_ | refine we_revL ?_ | refine we_nbWeb (by with_unfolding_all exact rfl) (by assumption) (by assumption) ?_ | refine we_tiesWeb (by with_unfolding_all exact rfl) ?_ | refine we_chain ?_ | refine we_slice ?_ | refine we_int ?_ | refine we_bl ?_ | refine we_non ?_ | refine we_str ?_ | refine we_neg ?_ | refine we_not ?_ | refine we_and ?_ | refine we_or ?_ | refine we_if ?_ | refine we_tup ?_ | refine we_lst ?_ | refine we_call ?_ | refine we_mt (by with_unfolding_all exact rfl) ?_)
  | (with_reducible show WS _ _ _ _; with_reducible first | refine ws_seqI ?_ | refine ws_seqA ?_ | refine ws_seqD ?_ | refine ws_asg (by with_unfolding_all exact rfl) ?_ | refine ws_asgG ?_ | refine ws_if ?_ | refine ws_ret ?_ | refine ws_drop ?_ | refine ws_next ?_ | refine ws_retN ?_)
  | (with_reducible show WT _ _ _; with_reducible first | refine wt_truL ?_ | refine wt_test ?_ | refine wt_B ?_ | refine wt_not ?_ | refine wt_and ?_ | refine wt_or ?_ | refine wt_yes ?_)
  | (with_reducible show WA _ _ _; with_reducible first | refine wa_nil ?_ | refine wa_cons (wq_of (we_var (by with_unfolding_all exact rfl) ?_)) | refine wa_slotU (by with_unfolding_all exact rfl) ?_ | refine wa_cons ?_)
  | (with_reducible show OpK _ _ _ _ _; with_reducible first | refine ok_neR ?_ | refine ok_eqR ?_ | refine ok_isB ?_ | refine ok_notB ?_ | refine ok_plusI ?_ | refine ok_sub ?_ | refine ok_lt ?_ | refine ok_le ?_ | refine ok_gt ?_ | refine ok_ge ?_ | refine ok_eqI ?_ | refine ok_neI ?_ | refine ok_mod (by first | assumption | decide | omega) ?_ | refine ok_ixL (by with_unfolding_all exact rfl) ?_)
  | (with_reducible show CbK _ _ _ _; with_reducible first | refine ck_tuple ?_ | refine ck_allF ?_ | refine ck_anyF ?_ | refine ck_abs ?_ | refine ck_sumI ?_ | refine ck_lenL ?_ | refine ck_lenT ?_ | refine ck_int ?_ | refine ck_intB ?_ | refine ck_max ?_ | refine ck_min ?_ | refine ck_list ?_)
  | with_reducible refine wq_of ?_
  | (with_reducible show WG _ _ _ _ _; with_reducible first | refine wg_name (by with_unfolding_all exact rfl) ?_ | refine wg_tup (by with_unfolding_all exact rfl) ?_ | refine wg_set (by with_unfolding_all exact rfl) ?_)
  | (with_reducible show WGs _ _ _ _ _; with_reducible first | refine wgs_cons ?_ | refine wgs_nil ?_)
  | (with_reducible show WO _ _ _; with_reducible first | refine wo_some ?_ | refine wo_none ?_)
  | refine ⟨_, argD5, ?_⟩
  | refine ⟨_, argD6, ?_⟩
  | refine ⟨_, argD7, ?_⟩
  | refine ⟨_, argD9, ?_⟩
  | with_reducible refine iteT ?_
  | with_reducible refine iteF ?_
  | with_reducible refine ⟨_, frz_per, ?_⟩
  | with_reducible refine ⟨_, frz_own, ?_⟩
  | refine ⟨_, rfl, ?_⟩
  | refine ⟨_, argD1, ?_⟩
  | refine ⟨_, argD2, ?_⟩
  | refine ⟨_, argD0, ?_⟩
  | refine ⟨_, argD3, ?_⟩
  | refine ⟨_, argD4, ?_⟩
  | refine ⟨_, _, rfl, rfl, rfl, ?_⟩
  | refine ⟨_, _, _, rfl, rfl, rfl, ?_⟩
  | refine ⟨(by simp only [List.length_cons, List.length_nil]; decide), ?_⟩
  | refine ⟨rfl, nd1, ?_⟩
  | refine ⟨rfl, nd0, ?_⟩
  | refine ⟨_, argD8, ?_⟩
  | refine ⟨_, argD10, ?_⟩)
local macro_rules | `(tactic| walk_at "p") => `(tactic| refine ⟨_, _, rfl, (by omega), (by first | decide | omega), (by first | decide | omega), ?_⟩)
local macro_rules | `(tactic| walk_at "n") => `(tactic| try dsimp only [back, List.set_cons_zero, List.set_cons_succ, List.map_cons, List.map_nil, List.cons_append, List.nil_append])
local macro_rules | `(tactic| walk_at "q") => `(tactic| first | with_reducible refine ws_seqP (ws_par (by with_unfolding_all exact rfl) (by with_unfolding_all exact rfl) ?_) | refine ⟨_, _, rfl, ?_⟩ | walk_at "v")
local macro_rules | `(tactic| walk_at "j") => `(tactic| first
  | (with_reducible show WA _ _ _; with_reducible refine wa_slotJ (by with_unfolding_all exact rfl) ?_)
  | walk_at "v")
section
variable {K : PySem.W.Frag} {a : Ad} {Γ : Ga} {k : Gp → Ga → Prop} {tr : TA} {E : XK}
/-- Web(n, ties), up to 40 places -/
theorem we_makeWebW (h : WA tr Γ fun as Γ1 => ∃ (n : Nat) (ts : List (Int × Int)), as = [.q (dP (.int n)), .q (dP (.list (ts.map tieD)))] ∧ n ≤ 40 ∧ Valid n ts ∧ ts.Nodup ∧ ∀ ts', ts'.Perm ts → ts'.Pairwise LexLe → k (insG a.C_Web (webF n ts')) Γ1) :
    WE (tMake a.C_Web (sp_Web_init_ K a) [] E tr) Γ k := by
  refine we_make (h.imp fun as Γ1 ⟨n, ts, e, hn, hv, hnd, hk⟩ => ?_)
  subst e
  refine ⟨rfl, rfl, .inl ⟨.int n, .list (ts.map tieD), rfl, fun i e => by cases e; omega, fun ds e => .inr ⟨n, ts, rfl, hn, rfl, hv, hnd⟩, fun n' ts0 ts' e1 e2 _ _ hp hs => ?_, fun hn => (hn ⟨n, ts, rfl, rfl, hv, hnd⟩).elim⟩⟩
  obtain rfl : n = n' := Int.ofNat.inj (PyData.int.inj e1)
  obtain rfl : ts = ts0 := ties_inj (PyData.list.inj e2)
  exact ⟨rfl, _, rfl, hk ts' hp hs⟩
end
namespace J
end J
end G

namespace G
open PySem L2
local macro_rules | `(tactic| walk_at "g1") => `(tactic| first
  | (with_reducible show WE _ _ _; with_reducible first | refine we_var (by with_unfolding_all exact rfl) ?_ | (show WE (tOp _ _ _) _ _; first | refine we_ixS (by with_unfolding_all exact rfl) ?_ | refine we_ixScr (by with_unfolding_all exact rfl) ?_ | refine we_inS (by with_unfolding_all exact rfl) ?_ | refine we_notInS (by with_unfolding_all exact rfl) ?_ | refine we_eqS (by with_unfolding_all exact rfl) ?_ | refine we_neS (by with_unfolding_all exact rfl) ?_ | refine we_opK ?_) | (show WE (tCB _ _) _ _; first | refine we_lenS' (by with_unfolding_all exact rfl) ?_ | refine we_lenScr (by with_unfolding_all exact rfl) ?_ | refine we_cbK ?_) | refine we_int ?_ | refine we_bl ?_ | refine we_non ?_ | refine we_str ?_ | refine we_neg ?_ | refine we_not ?_ | refine we_and ?_ | refine we_or ?_ | refine we_if ?_ | refine we_tup ?_ | refine we_lst ?_ | refine we_call ?_ | refine we_mt (by with_unfolding_all exact rfl) ?_)
  | (with_reducible show WS _ _ _ _; with_reducible first | refine ws_seqA ?_ | refine ws_seqD ?_ | refine ws_asg (by with_unfolding_all exact rfl) ?_ | refine ws_asgG ?_ | refine ws_if ?_ | refine ws_ret ?_ | refine ws_drop ?_ | refine ws_next ?_ | refine ws_retN ?_)
  | (with_reducible show WT _ _ _; with_reducible first | refine wt_test ?_ | refine wt_B ?_ | refine wt_not ?_ | refine wt_and ?_ | refine wt_or ?_ | refine wt_yes ?_)
  | (with_reducible show WA _ _ _; with_reducible first | refine wa_nil ?_ | refine wa_cons (wq_of (we_var (by with_unfolding_all exact rfl) ?_)) | refine wa_slotU (by with_unfolding_all exact rfl) ?_ | refine wa_cons ?_)
  | (with_reducible show OpK _ _ _ _ _; with_reducible first | refine ok_plusI ?_ | refine ok_sub ?_ | refine ok_lt ?_ | refine ok_le ?_ | refine ok_gt ?_ | refine ok_ge ?_ | refine ok_eqI ?_ | refine ok_neI ?_ | refine ok_mod (by first | assumption | decide | omega) ?_ | refine ok_ixL (by with_unfolding_all exact rfl) ?_)
  | (with_reducible show CbK _ _ _ _; with_reducible first | refine ck_lenL ?_ | refine ck_lenT ?_ | refine ck_int ?_ | refine ck_intB ?_ | refine ck_max ?_ | refine ck_min ?_ | refine ck_list ?_)
  | with_reducible refine wq_of ?_
  | (with_reducible show WG _ _ _ _ _; with_reducible first | refine wg_name (by with_unfolding_all exact rfl) ?_ | refine wg_tup (by with_unfolding_all exact rfl) ?_ | refine wg_set (by with_unfolding_all exact rfl) ?_)
  | (with_reducible show WGs _ _ _ _ _; with_reducible first | refine wgs_cons ?_ | refine wgs_nil ?_)
  | with_reducible refine iteT ?_
  | with_reducible refine iteF ?_
  | with_reducible refine ⟨_, frz_per, ?_⟩
  | with_reducible refine ⟨_, frz_own, ?_⟩
  | refine ⟨_, rfl, ?_⟩
  | refine ⟨_, argD1, ?_⟩
  | refine ⟨_, argD2, ?_⟩
  | refine ⟨_, argD0, ?_⟩
  | refine ⟨_, argD3, ?_⟩
  | refine ⟨_, argD4, ?_⟩
  | refine ⟨_, _, rfl, rfl, rfl, ?_⟩
  | refine ⟨_, _, _, rfl, rfl, rfl, ?_⟩
  | refine ⟨(by simp only [List.length_cons, List.length_nil]; decide), ?_⟩
  | refine ⟨rfl, nd1, ?_⟩
  | refine ⟨rfl, nd0, ?_⟩)
local macro_rules | `(tactic| walk_at "go") => `(tactic| repeat walk_at "g1")
local macro_rules | `(tactic| walk_at "g2") => `(tactic| first
  | (with_reducible show WE _ _ _; with_reducible first | refine we_var (by with_unfolding_all exact rfl) ?_ | (show WE (tOp _ _ _) _ _; first | refine we_notN ?_ | refine we_ixS (by with_unfolding_all exact rfl) ?_ | refine we_ixScr (by with_unfolding_all exact rfl) ?_ | refine we_inS (by with_unfolding_all exact rfl) ?_ | refine we_notInS (by with_unfolding_all exact rfl) ?_ | refine we_eqS (by with_unfolding_all exact rfl) ?_ | refine we_neS (by with_unfolding_all exact rfl) ?_ | refine we_opK ?_) | (show WE (tCB _ _) _ _; first | refine we_isInt ?_ | refine we_isBl ?_ | refine we_isLst ?_ | refine we_isTup ?_ | refine we_lenO (by with_unfolding_all exact rfl) ?_ | refine we_lenS' (by with_unfolding_all exact rfl) ?_ | refine we_lenScr (by with_unfolding_all exact rfl) ?_ | refine we_cbK ?_) | refine we_chain ?_ | refine we_slice ?_ | refine we_int ?_ | refine we_bl ?_ | refine we_non ?_ | refine we_str ?_ | refine we_neg ?_ | refine we_not ?_ | refine we_and ?_ | refine we_or ?_ | refine we_if ?_ | refine we_tup ?_ | refine we_lst ?_ | refine we_call ?_ | refine we_mt (by with_unfolding_all exact rfl) ?_)
  | (with_reducible show WS _ _ _ _; with_reducible first | refine ws_seqA ?_ | refine ws_seqD ?_ | refine ws_asg (by with_unfolding_all exact rfl) ?_ | refine ws_asgG ?_ | refine ws_if ?_ | refine ws_ret ?_ | refine ws_drop ?_ | refine ws_next ?_ | refine ws_retN ?_)
  | (with_reducible show WT _ _ _; with_reducible first | refine wt_test ?_ | refine wt_B ?_ | refine wt_not ?_ | refine wt_and ?_ | refine wt_or ?_ | refine wt_yes ?_)
  | (with_reducible show WA _ _ _; with_reducible first | refine wa_nil ?_ | refine wa_cons (wq_of (we_var (by with_unfolding_all exact rfl) ?_)) | refine wa_slotU (by with_unfolding_all exact rfl) ?_ | refine wa_cons ?_)
  | (with_reducible show OpK _ _ _ _ _; with_reducible first | refine ok_isB ?_ | refine ok_notB ?_ | refine ok_plusI ?_ | refine ok_sub ?_ | refine ok_lt ?_ | refine ok_le ?_ | refine ok_gt ?_ | refine ok_ge ?_ | refine ok_eqI ?_ | refine ok_neI ?_ | refine ok_mod (by first | assumption | decide | omega) ?_ | refine ok_ixL (by with_unfolding_all exact rfl) ?_)
  | (with_reducible show CbK _ _ _ _; with_reducible first | refine ck_lenL ?_ | refine ck_lenT ?_ | refine ck_int ?_ | refine ck_intB ?_ | refine ck_max ?_ | refine ck_min ?_ | refine ck_list ?_)
  | with_reducible refine wq_of ?_
  | (with_reducible show WG _ _ _ _ _; with_reducible first | refine wg_name (by with_unfolding_all exact rfl) ?_ | refine wg_tup (by with_unfolding_all exact rfl) ?_ | refine wg_set (by with_unfolding_all exact rfl) ?_)
  | (with_reducible show WGs _ _ _ _ _; with_reducible first | refine wgs_cons ?_ | refine wgs_nil ?_)
  | (with_reducible show WO _ _ _; with_reducible first | refine wo_some ?_ | refine wo_none ?_)
  | refine ⟨_, argD5, ?_⟩
  | refine ⟨_, argD6, ?_⟩
  | refine ⟨_, argD7, ?_⟩
  | refine ⟨_, argD9, ?_⟩
  | with_reducible refine iteT ?_
  | with_reducible refine iteF ?_
  | with_reducible refine ⟨_, frz_per, ?_⟩
  | with_reducible refine ⟨_, frz_own, ?_⟩
  | refine ⟨_, rfl, ?_⟩
  | refine ⟨_, argD1, ?_⟩
  | refine ⟨_, argD2, ?_⟩
  | refine ⟨_, argD0, ?_⟩
  | refine ⟨_, argD3, ?_⟩
  | refine ⟨_, argD4, ?_⟩
  | refine ⟨_, _, rfl, rfl, rfl, ?_⟩
  | refine ⟨_, _, _, rfl, rfl, rfl, ?_⟩
  | refine ⟨(by simp only [List.length_cons, List.length_nil]; decide), ?_⟩
  | refine ⟨rfl, nd1, ?_⟩
  | refine ⟨rfl, nd0, ?_⟩)
local macro_rules | `(tactic| walk_at "w") => `(tactic| first
  | (with_reducible show WE _ _ _; with_reducible first | refine we_var (by with_unfolding_all exact rfl) ?_ | refine we_varF (by with_unfolding_all exact rfl) frz_own ?_ | (show WE (tOp _ _ _) _ _; first | refine we_isNd ?_ | refine we_notNd ?_ | refine we_notN ?_ | refine we_ixS (by with_unfolding_all exact rfl) ?_ | refine we_ixScr (by with_unfolding_all exact rfl) ?_ | refine we_inS (by with_unfolding_all exact rfl) ?_ | refine we_notInS (by with_unfolding_all exact rfl) ?_ | refine we_eqS (by with_unfolding_all exact rfl) ?_ | refine we_neS (by with_unfolding_all exact rfl) ?_ | refine we_opK ?_) | (show WE (tCB _ _) _ _; first | refine we_repr ?_ | refine we_isInt ?_ | refine we_isBl ?_ | refine we_isLst ?_ | refine we_isTup ?_ | refine we_lenO (by with_unfolding_all exact rfl) ?_ | refine we_lenS' (by with_unfolding_all exact rfl) ?_ | refine we_lenScr (by with_unfolding_all exact rfl) ?_ | refine we_cbK ?_) | refine we_dnew ?_ | refine we_lenSetI ?_ | refine we_revL ?_ | refine we_chain ?_ | refine we_slice ?_ | refine we_int ?_ | refine we_bl ?_ | refine we_non ?_ | refine we_str ?_ | refine we_neg ?_ | refine we_not ?_ | refine we_and ?_ | refine we_or ?_ | refine we_if ?_ | refine we_tup ?_ | refine we_lst ?_ | refine we_call ?_ | refine we_mt (by with_unfolding_all exact rfl) ?_)
  | (with_reducible show WS _ _ _ _; with_reducible first | refine ws_seqI ?_ | refine ws_seqA ?_ | refine ws_seqD ?_ | refine ws_asg (by with_unfolding_all exact rfl) ?_ | refine ws_asgG ?_ | refine ws_if ?_ | refine ws_ret ?_ | refine ws_drop ?_ | refine ws_next ?_ | refine ws_retN ?_)
  | (with_reducible show WT _ _ _; with_reducible first | refine wt_truL ?_ | refine wt_test ?_ | refine wt_B ?_ | refine wt_not ?_ | refine wt_and ?_ | refine wt_or ?_ | refine wt_yes ?_)
  | (with_reducible show WA _ _ _; with_reducible first | refine wa_nil ?_ | refine wa_cons (wq_of (we_var (by with_unfolding_all exact rfl) ?_)) | refine wa_slotU (by with_unfolding_all exact rfl) ?_ | refine wa_cons ?_)
  | (with_reducible show OpK _ _ _ _ _; with_reducible first | refine ok_neR ?_ | refine ok_eqR ?_ | refine ok_isB ?_ | refine ok_notB ?_ | refine ok_plusI ?_ | refine ok_sub ?_ | refine ok_lt ?_ | refine ok_le ?_ | refine ok_gt ?_ | refine ok_ge ?_ | refine ok_eqI ?_ | refine ok_neI ?_ | refine ok_mod (by first | assumption | decide | omega) ?_ | refine ok_ixL (by with_unfolding_all exact rfl) ?_)
  | (with_reducible show CbK _ _ _ _; with_reducible first | refine ck_tuple ?_ | refine ck_allF ?_ | refine ck_anyF ?_ | refine ck_abs ?_ | refine ck_sumI ?_ | refine ck_lenL ?_ | refine ck_lenT ?_ | refine ck_int ?_ | refine ck_intB ?_ | refine ck_max ?_ | refine ck_min ?_ | refine ck_list ?_)
  | with_reducible refine wq_of ?_
  | (with_reducible show WG _ _ _ _ _; with_reducible first | refine wg_name (by with_unfolding_all exact rfl) ?_ | refine wg_tup (by with_unfolding_all exact rfl) ?_ | refine wg_set (by with_unfolding_all exact rfl) ?_)
  | (with_reducible show WGs _ _ _ _ _; with_reducible first | refine wgs_cons ?_ | refine wgs_nil ?_)
  | (with_reducible show WO _ _ _; with_reducible first | refine wo_some ?_ | refine wo_none ?_)
  | refine ⟨_, argD5, ?_⟩
  | refine ⟨_, argD6, ?_⟩
  | refine ⟨_, argD7, ?_⟩
  | refine ⟨_, argD9, ?_⟩
  | with_reducible refine iteT ?_
  | with_reducible refine iteF ?_
  | with_reducible refine ⟨_, frz_per, ?_⟩
  | with_reducible refine ⟨_, frz_own, ?_⟩
  | refine ⟨_, rfl, ?_⟩
  | refine ⟨_, argD1, ?_⟩
  | refine ⟨_, argD2, ?_⟩
  | refine ⟨_, argD0, ?_⟩
  | refine ⟨_, argD3, ?_⟩
  | refine ⟨_, argD4, ?_⟩
  | refine ⟨_, _, rfl, rfl, rfl, ?_⟩
  | refine ⟨_, _, _, rfl, rfl, rfl, ?_⟩
  | refine ⟨(by simp only [List.length_cons, List.length_nil]; decide), ?_⟩
  | refine ⟨rfl, nd1, ?_⟩
  | refine ⟨rfl, nd0, ?_⟩
  | refine ⟨_, argD8, ?_⟩
  | refine ⟨_, argD10, ?_⟩)
local macro_rules | `(tactic| walk_at "v") => `(tactic| first
  | (with_reducible show WE _ _ _; with_reducible first | refine we_var (by with_unfolding_all exact rfl) ?_ | refine we_varF (by with_unfolding_all exact rfl) frz_own ?_ | (show WE (tOp _ _ _) _ _; first | refine we_isNd ?_ | refine we_notNd ?_ | refine we_notN ?_ | refine we_ixS (by with_unfolding_all exact rfl) ?_ | refine we_ixScr (by with_unfolding_all exact rfl) ?_ | refine we_inS (by with_unfolding_all exact rfl) ?_ | refine we_notInS (by with_unfolding_all exact rfl) ?_ | refine we_eqS (by with_unfolding_all exact rfl) ?_ | refine we_neS (by with_unfolding_all exact rfl) ?_ | refine we_opK ?_) | (show WE (tCB _ _) _ _; first | refine we_repr ?_ | refine we_lenWeb (by with_unfolding_all exact rfl) (by assumption) ?_ | refine we_isInt ?_ | refine we_isBl ?_ | refine we_isLst ?_ | refine we_isTup ?_ | refine we_lenO (by with_unfolding_all exact rfl) ?_ | refine we_lenS' (by with_unfolding_all exact rfl) ?_ | refine we_lenScr (by with_unfolding_all exact rfl) ?_ | refine we_cbK ?_) | refine we_dnew ?_ | refine we_lenSetI ?_ | refine we_revL ?_ | refine we_nbWeb (by with_unfolding_all exact rfl) (by assumption) (by assumption) ?_ | refine we_tiesWeb (by with_unfolding_all exact rfl) ?_ | refine we_chain ?_ | refine we_slice ?_ | refine we_int ?_ | refine we_bl ?_ | refine we_non ?_ | refine we_str ?_ | refine we_neg ?_ | refine we_not ?_ | refine we_and ?_ | refine we_or ?_ | refine we_if ?_ | refine we_tup ?_ | refine we_lst ?_ | refine we_call ?_ | refine we_mt (by with_unfolding_all exact rfl) ?_)
  | (with_reducible show WS _ _ _ _; with_reducible first | refine ws_seqI ?_ | refine ws_seqA ?_ | refine ws_seqD ?_ | refine ws_asg (by with_unfolding_all exact rfl) ?_ | refine ws_asgG ?_ | refine ws_if ?_ | refine ws_ret ?_ | refine ws_drop ?_ | refine ws_next ?_ | refine ws_retN ?_)
  | (with_reducible show WT _ _ _; with_reducible first | refine wt_truL ?_ | refine wt_test ?_ | refine wt_B ?_ | refine wt_not ?_ | refine wt_and ?_ | refine wt_or ?_ | refine wt_yes ?_)
  | (with_reducible show WA _ _ _; with_reducible first | refine wa_nil ?_ | refine wa_cons (wq_of (we_var (by with_unfolding_all exact rfl) ?_)) | refine wa_slotU (by with_unfolding_all exact rfl) ?_ | refine wa_cons ?_)
  | (with_reducible show OpK _ _ _ _ _; with_reducible first | refine ok_neR ?_ | refine ok_eqR ?_ | refine ok_isB ?_ | refine ok_notB ?_ | refine ok_plusI ?_ | refine ok_sub ?_ | refine ok_lt ?_ | refine ok_le ?_ | refine ok_gt ?_ | refine ok_ge ?_ | refine ok_eqI ?_ | refine ok_neI ?_ | refine ok_mod (by first | assumption | decide | omega) ?_ | refine ok_ixL (by with_unfolding_all exact rfl) ?_)
  | (with_reducible show CbK _ _ _ _; with_reducible first | refine ck_tuple ?_ | refine ck_allF ?_ | refine ck_anyF ?_ | refine ck_abs ?_ | refine ck_sumI ?_ | refine ck_lenL ?_ | refine ck_lenT ?_ | refine ck_int ?_ | refine ck_intB ?_ | refine ck_max ?_ | refine ck_min ?_ | refine ck_list ?_)
  | with_reducible refine wq_of ?_
  | (with_reducible show WG _ _ _ _ _; with_reducible first | refine wg_name (by with_unfolding_all exact rfl) ?_ | refine wg_tup (by with_unfolding_all exact rfl) ?_ | refine wg_set (by with_unfolding_all exact rfl) ?_)
  | (with_reducible show WGs _ _ _ _ _; with_reducible first | refine wgs_cons ?_ | refine wgs_nil ?_)
  | (with_reducible show WO _ _ _; with_reducible first | refine wo_some ?_ | refine wo_none ?_)
  | refine ⟨_, argD5, ?_⟩
  | refine ⟨_, argD6, ?_⟩
  | refine ⟨_, argD7, ?_⟩
  | refine ⟨_, argD9, ?_⟩
  | with_reducible refine iteT ?_
  | with_reducible refine iteF ?_
  | with_reducible refine ⟨_, frz_per, ?_⟩
  | with_reducible refine ⟨_, frz_own, ?_⟩
  | refine ⟨_, rfl, ?_⟩
  | refine ⟨_, argD1, ?_⟩
  | refine ⟨_, argD2, ?_⟩
  | refine ⟨_, argD0, ?_⟩
  | refine ⟨_, argD3, ?_⟩
  | refine ⟨_, argD4, ?_⟩
  | refine ⟨_, _, rfl, rfl, rfl, ?_⟩
  | refine ⟨_, _, _, rfl, rfl, rfl, ?_⟩
  | refine ⟨(by simp only [List.length_cons, List.length_nil]; decide), ?_⟩
  | refine ⟨rfl, nd1, ?_⟩
  | refine ⟨rfl, nd0, ?_⟩
  | refine ⟨_, argD8, ?_⟩
  | refine ⟨_, argD10, ?_⟩)
local macro_rules | `(tactic| walk_at "p") => `(tactic| refine ⟨_, _, rfl, (by omega), (by first | decide | omega), (by first | decide | omega), ?_⟩)
local macro_rules | `(tactic| walk_at "n") => `(tactic| try dsimp only [back, List.set_cons_zero, List.set_cons_succ, List.map_cons, List.map_nil, List.cons_append, List.nil_append])
local macro_rules | `(tactic| walk_at "q") => `(tactic| first | with_reducible refine ws_seqP (ws_par (by with_unfolding_all exact rfl) (by with_unfolding_all exact rfl) ?_) | refine ⟨_, _, rfl, ?_⟩ | walk_at "v")
/-! ### words and texts -/
def tS (n : Int) : Str := (toString n : Str)
/-- a whole number's word -/
def intW (w : Str) : Bool := Txt.isascii w && (Txt.isdigit w && (decide (w.length ≤ 30) && (decide (w = "0") || !Txt.startswith w "0")))
theorem wd_all : ((List.range 61).all fun n => Txt.isascii (tS n) && (Txt.isdigit (tS n) && (decide ((tS n).length ≤ 2) && ((decide (tS n = "0") || !Txt.startswith (tS n) "0") && (decide (intText? (tS n) = some (n : Int)) && (!(tS n).cps.toList.contains 32 && !(tS n).cps.toList.contains 45)))))) = true := by decide +kernel
structure Wd (n : Nat) : Prop where
  w : intW (tS n) = true
  len : (tS n).length ≤ 2
  int : intText? (tS n) = some (n : Int)
  sp : 32 ∉ (tS n).cps.toList
  mi : 45 ∉ (tS n).cps.toList
theorem wd {n : Nat} (h : n ≤ 60) : Wd n := by
  have z := List.all_eq_true.mp wd_all n (List.mem_range.mpr (by omega))
  simp only [Bool.and_eq_true, decide_eq_true_eq, Bool.not_eq_true'] at z
  obtain ⟨a, b, c, d, e, f, g⟩ := z
  refine ⟨?_, c, e, fun h => ?_, fun h => ?_⟩
  · unfold intW
    rw [a, b, decide_eq_true (by omega : (tS n).length ≤ 30), d]
    rfl
  · rw [List.contains_iff_mem.mpr h] at f; cases f
  · rw [List.contains_iff_mem.mpr h] at g; cases g
theorem asc_ok {w : Str} (h : Txt.isascii w = true) : PyData.strOk w = true := by
  unfold PyData.strOk
  unfold Txt.isascii at h
  rw [Array.all_eq_true] at h ⊢
  intro i hi
  have := h i hi
  rw [decide_eq_true_eq] at this ⊢
  omega
theorem eqv_str {a b : Str} : PyData.eqv (.str a) (.str b) = decide (a = b) := by
  show (a == b) = _
  exact Bool.beq_eq_decide_eq a b
abbrev t_is_integer_word_0 (K : PySem.W.Frag) : TS :=
  (tSeq (tIfS (tOr (tNot (tB (tM0 rIsAsc (tVar 0)))) (tOr (tNot (tB (tM0 rIsDig (tVar 0)))) (tTest (tOp (rGtI) (tCB (rLenA K) (tCons (tVar 0) tNil)) (tC (.int 30)))))) (tRet (tC (.bl false))) tNext)
    (tRet (tOrV (tOp (rEqD K) (tVar 0) (tC (.str "0"))) (tNotV (tM1 rStarts (tVar 0) (tC (.str "0")))))))
def t_is_integer_word (K : PySem.W.Frag) : TS :=
  (t_is_integer_word_0 K)
abbrev N_is_integer_word : List Str := ["word"]
abbrev F_is_integer_word : Fw := fun gs kk xx => ∃ w : Str, gs = [dat (.str w)] ∧ w.length ≤ 1000000 ∧ kk (dat (.bool (intW w))) [none]
abbrev sp_is_integer_word (K : PySem.W.Frag) : Sp := SpG 1 F_is_integer_word
theorem pure_is_integer_word {K : PySem.W.Frag} {vs : List V} {H : Hp} {Q : VK} {E : XK} (h : sp_is_integer_word K vs H Q E) : t_is_integer_word K { nx := fun _ H' => Q .non H', rt := Q } (start N_is_integer_word vs) H := by
  refine body_ok (fun _ => false) ?_ h
  rintro gs kk xx ⟨w, rfl, hl, hk⟩ -
  unfold t_is_integer_word
  show WS _ _ [some (dat (.str w))] _
  have out : ∀ {b : Bool}, intW w = b → ∃ g' Γp, Ent (dat (.bool b)) g' ∧ Les (mask (fun _ => false) 1 [some (dat (.str w))]) Γp ∧ kk g' Γp := fun {b} e => ⟨_, [none], Ent.refl, les_none les_nil, e ▸ hk⟩
  refine ws_seqI (ws_if (wt_or (wt_not (wt_B (wq_of (we_isAsc (wq_of (we_var rfl ⟨_, frz_per, w, rfl, _, frz_per, _, rfl, ?_⟩))))))))
  cases h1 : Txt.isascii w with
  | false =>
    refine iteT (iteT (ws_ret (we_bl (out ?_))))
    unfold intW
    rw [h1]
    rfl
  | true =>
    refine iteF (wt_or (wt_not (wt_B (wq_of (we_isDig (wq_of (we_var rfl ⟨_, frz_per, w, rfl, _, frz_per, _, rfl, ?_⟩)))))))
    cases h2 : Txt.isdigit w with
    | false =>
      refine iteT (iteT (ws_ret (we_bl (out ?_))))
      unfold intW
      rw [h1, h2]
      rfl
    | true =>
      refine iteF (wt_test (wq_of (we_opK (wq_of (we_cbK (wa_cons (wq_of (we_var rfl ⟨_, frz_per, wa_nil ⟨_, argD1, ck_lenS hl ⟨_, frz_per, _, rfl, wq_of (we_int ⟨_, frz_per, _, rfl, ok_gt ⟨_, frz_per, _, rfl, ?_⟩⟩)⟩⟩⟩))))))))
      refine ite_dec (fun h3 => ?_) fun h3 => ws_next ?_
      · refine ws_ret (we_bl (out ?_))
        unfold intW
        rw [h1, h2, decide_eq_false (by omega : ¬ w.length ≤ 30)]
        rfl
      · refine ws_ret (we_or (wq_of (we_opK (wq_of (we_var rfl ⟨_, frz_per, _, rfl, wq_of (we_str ⟨_, frz_per, _, rfl, ?_⟩)⟩)))))
        refine ok_eq (lay_str (asc_ok h1)).shaped (lay_str (by decide +kernel)).shaped ?_
        rw [eqv_str]
        refine ⟨_, frz_per, _, rfl, ?_⟩
        have e0 : intW w = (decide (w = "0") || !Txt.startswith w "0") := by
          unfold intW
          rw [h1, h2, decide_eq_true (by omega : w.length ≤ 30)]
          rfl
        by_cases h4 : w = "0"
        · rw [decide_eq_true h4]
          refine iteT (out ?_)
          rw [e0, decide_eq_true h4]
          rfl
        · rw [decide_eq_false h4]
          refine iteF (we_not (wq_of (we_starts (wq_of (we_var rfl ⟨_, frz_per, _, rfl, wq_of (we_str ⟨_, frz_per, _, rfl, _, frz_per, _, rfl, ?_⟩)⟩)))))
          refine out ?_
          rw [e0, decide_eq_false h4]
          rfl
abbrev t_integers_of_0 (K : PySem.W.Frag) : TS :=
  (tSeq (tIfS (tNot (tB (tCB (rAllA K) (tCons (tLc (iList K (tVar 0)) (gName 1) tYes (tCall (sp_is_integer_word K) [] E0 (tCons (tVar 1) tNil)) [1]) tNil)))) (tRet (tC .non)) tNext)
    (tRet (tLc (iList K (tVar 0)) (gName 1) tYes (tCB rIntT (tCons (tVar 1) tNil)) [1])))
def t_integers_of (K : PySem.W.Frag) : TS :=
  (t_integers_of_0 K)
abbrev N_integers_of : List Str := ["words", "word"]
abbrev F_integers_of : Fw := fun gs kk xx => ∃ ws : List Str, gs = [dat (.list (ws.map .str))] ∧ (∀ w ∈ ws, w.length ≤ 1000000) ∧ ws.length ≤ 100000 ∧
  ((ws.all intW = true ∧ ∃ ns : List Int, ws.map intText? = ns.map some ∧ kk (own (ns.map .int)) [none]) ∨ (ws.all intW = false ∧ kk (dat .none) [none]))
abbrev sp_integers_of (K : PySem.W.Frag) : Sp := SpG 1 F_integers_of
theorem pure_integers_of {K : PySem.W.Frag} {vs : List V} {H : Hp} {Q : VK} {E : XK} (h : sp_integers_of K vs H Q E) : t_integers_of K { nx := fun _ H' => Q .non H', rt := Q } (start N_integers_of vs) H := by
  refine body_ok (fun _ => false) ?_ h
  rintro gs kk xx ⟨ws, rfl, hl, hn, hk⟩ -
  unfold t_integers_of
  show WS _ _ [some (dat (.list (ws.map .str))), none] _
  refine ws_seqI (ws_if (wt_not (wt_B (wq_of (we_cbK (wa_cons (wq_of (we_lcM .str .bool intW (wil_list (wq_of (we_var rfl ⟨_, frz_per, _, rfl, ws, rfl, rfl, hn, fun w hw => ?_, ?_⟩)))))))))))
  · refine wg_name rfl ?_
    walk_at "n"
    exact wq_of (we_call (wa_cons (wq_of (we_var rfl ⟨_, frz_per, wa_nil ⟨rfl, nd0, w, rfl, hl w hw, _, frz_per, rfl, rfl⟩⟩))))
  refine ⟨_, frz_own, wa_nil ⟨_, argD1, ck_allF ⟨_, frz_per, _, rfl, ?_⟩⟩⟩
  rcases hk with ⟨ha, ns, hns, hk⟩ | ⟨ha, hk⟩
  · rw [ha]
    refine iteF (ws_next ?_)
    have hlen : ws.length = ns.length := by have := congrArg List.length hns; rwa [List.length_map, List.length_map] at this
    refine ws_ret (we_lcM .str .int (fun w => (intText? w).getD 0) (wil_list (wq_of (we_var rfl ⟨_, frz_per, _, rfl, ws, rfl, rfl, hn, fun w hw => ?_, ?_⟩))))
    · have hint : ∃ n, intText? w = some n := by
        have : intText? w ∈ ws.map intText? := List.mem_map.mpr ⟨w, hw, rfl⟩
        rw [hns] at this
        obtain ⟨n, _, e⟩ := List.mem_map.mp this
        exact ⟨n, e.symm⟩
      obtain ⟨n, en⟩ := hint
      have hw30 : w.length ≤ 30 := by
        have := List.all_eq_true.mp ha w hw
        unfold intW at this
        simp only [Bool.and_eq_true, decide_eq_true_eq] at this
        exact this.2.2.1
      refine wg_name rfl ?_
      walk_at "n"
      refine wq_of (we_cbK (wa_cons (wq_of (we_var rfl ⟨_, frz_per, wa_nil ⟨_, argD1, ck_intT en (by omega) ⟨_, frz_per, ?_, rfl⟩⟩⟩))))
      rw [en]
      rfl
    · have e : ws.map (fun w => (intText? w).getD 0) = ns := by
        have h2 := congrArg (List.map fun o : Option Int => o.getD 0) hns
        rw [List.map_map, List.map_map] at h2
        exact h2.trans (List.map_id _)
      rw [e]
      exact ⟨_, _, Ent.refl, les_none les_nil, hk⟩
  · rw [ha]
    exact iteT (ws_ret (we_non ⟨_, _, Ent.refl, les_none les_nil, hk⟩))
abbrev t_tie_of_word_0 (K : PySem.W.Frag) : TS :=
  (tSeq (tAsg (tCall (sp_integers_of K) [] E0 (tCons (tM1 rSplitS (tVar 0) (tC (.str "-"))) tNil)) (gName 1))
    (tRet (tIf (tTest (tOp (rIsN0) (tVar 1) (tC .non))) (tC .non) (tCB (rTupOf K) (tCons (tVar 1) tNil)))))
def t_tie_of_word (K : PySem.W.Frag) : TS :=
  (t_tie_of_word_0 K)
abbrev N_tie_of_word : List Str := ["word", "ends"]
abbrev F_tie_of_word : Fw := fun gs kk xx => ∃ w : Str, gs = [dat (.str w)] ∧ w.length ≤ 1000 ∧
  (((Txt.split w "-").all intW = true ∧ ∃ ns : List Int, (Txt.split w "-").map intText? = ns.map some ∧ kk (dat (.tuple (ns.map .int))) [none]) ∨ ((Txt.split w "-").all intW = false ∧ kk (dat .none) [none]))
abbrev sp_tie_of_word (K : PySem.W.Frag) : Sp := SpG 1 F_tie_of_word
theorem pure_tie_of_word {K : PySem.W.Frag} {vs : List V} {H : Hp} {Q : VK} {E : XK} (h : sp_tie_of_word K vs H Q E) : t_tie_of_word K { nx := fun _ H' => Q .non H', rt := Q } (start N_tie_of_word vs) H := by
  refine body_ok (fun _ => false) ?_ h
  rintro gs kk xx ⟨w, rfl, hl, hk⟩ -
  unfold t_tie_of_word
  show WS _ _ [some (dat (.str w)), none] _
  refine ws_seq (ws_asg rfl (we_call (wa_cons (wq_of (we_split (wq_of (we_var rfl ⟨_, frz_per, w, rfl, wq_of (we_str ⟨_, frz_per, "-", rfl, by decide +kernel, by omega, ?_⟩)⟩)))))))
  have hs := PyProof.Rows.split_le w "-"
  refine ⟨_, frz_own, wa_nil ⟨rfl, nd0, Txt.split w "-", rfl, fun x hx => ?_, by omega, ?_⟩⟩
  · have := PyProof.Rows.part_short hx
    omega
  rcases hk with ⟨ha, ns, hns, hk⟩ | ⟨ha, hk⟩
  · refine .inl ⟨ha, ns, hns, ?_⟩
    walk_at "n"
    show WS _ _ [some (dat (.str w)), some (own (ns.map .int))] _
    refine ws_frz (i := 1) rfl frz_own ?_
    refine ws_ret (we_if (wt_test (wq_of (we_isNd (wq_of (we_var rfl ⟨_, frz_per, _, rfl, _, frz_per, _, rfl, ?_⟩))))))
    refine iteF ?_
    refine we_cbK (wa_cons (wq_of (we_var rfl ⟨_, frz_per, wa_nil ⟨_, argD1, ck_tuple ?_⟩⟩)))
    exact ⟨_, _, Ent.refl, les_none les_nil, hk⟩
  · refine .inr ⟨ha, ?_⟩
    walk_at "n"
    show WS _ _ [some (dat (.str w)), some (dat .none)] _
    refine ws_ret (we_if (wt_test (wq_of (we_isNd (wq_of (we_var rfl ⟨_, frz_per, _, rfl, _, frz_per, _, rfl, ?_⟩))))))
    exact iteT (we_non ⟨_, _, Ent.refl, les_none les_nil, hk⟩)
end G

namespace G
open PySem L2
local macro_rules | `(tactic| walk_at "g1") => `(tactic| first
  | (with_reducible show WE _ _ _; with_reducible first | refine we_var (by with_unfolding_all exact rfl) ?_ | (show WE (tOp _ _ _) _ _; first | refine we_ixS (by with_unfolding_all exact rfl) ?_ | refine we_ixScr (by with_unfolding_all exact rfl) ?_ | refine we_inS (by with_unfolding_all exact rfl) ?_ | refine we_notInS (by with_unfolding_all exact rfl) ?_ | refine we_eqS (by with_unfolding_all exact rfl) ?_ | refine we_neS (by with_unfolding_all exact rfl) ?_ | refine we_opK ?_) | (show WE (tCB _ _) _ _; first | refine we_lenS' (by with_unfolding_all exact rfl) ?_ | refine we_lenScr (by with_unfolding_all exact rfl) ?_ | refine we_cbK ?_) | refine we_int ?_ | refine we_bl ?_ | refine we_non ?_ | refine we_str ?_ | refine we_neg ?_ | refine we_not ?_ | refine we_and ?_ | refine we_or ?_ | refine we_if ?_ | refine we_tup ?_ | refine we_lst ?_ | refine we_call ?_ | refine we_mt (by with_unfolding_all exact rfl) ?_)
  | (with_reducible show WS _ _ _ _; with_reducible first | refine ws_seqA ?_ | refine ws_seqD ?_ | refine ws_asg (by with_unfolding_all exact rfl) ?_ | refine ws_asgG ?_ | refine ws_if ?_ | refine ws_ret ?_ | refine ws_drop ?_ | refine ws_next ?_ | refine ws_retN ?_)
  | (with_reducible show WT _ _ _; with_reducible first | refine wt_test ?_ | refine wt_B ?_ | refine wt_not ?_ | refine wt_and ?_ | refine wt_or ?_ | refine wt_yes ?_)
  | (with_reducible show WA _ _ _; with_reducible first | refine wa_nil ?_ | refine wa_cons (wq_of (we_var (by with_unfolding_all exact rfl) ?_)) | refine wa_slotU (by with_unfolding_all exact rfl) ?_ | refine wa_cons ?_)
  | (with_reducible show OpK _ _ _ _ _; with_reducible first | refine ok_plusI ?_ | refine ok_sub ?_ | refine ok_lt ?_ | refine ok_le ?_ | refine ok_gt ?_ | refine ok_ge ?_ | refine ok_eqI ?_ | refine ok_neI ?_ | refine ok_mod (by first | assumption | decide | omega) ?_ | refine ok_ixL (by with_unfolding_all exact rfl) ?_)
  | (with_reducible show CbK _ _ _ _; with_reducible first | refine ck_lenL ?_ | refine ck_lenT ?_ | refine ck_int ?_ | refine ck_intB ?_ | refine ck_max ?_ | refine ck_min ?_ | refine ck_list ?_)
  | with_reducible refine wq_of ?_
  | (with_reducible show WG _ _ _ _ _; with_reducible first | refine wg_name (by with_unfolding_all exact rfl) ?_ | refine wg_tup (by with_unfolding_all exact rfl) ?_ | refine wg_set (by with_unfolding_all exact rfl) ?_)
  | (with_reducible show WGs _ _ _ _ _; with_reducible first | refine wgs_cons ?_ | refine wgs_nil ?_)
  | with_reducible refine iteT ?_
  | with_reducible refine iteF ?_
  | with_reducible refine ⟨_, frz_per, ?_⟩
  | with_reducible refine ⟨_, frz_own, ?_⟩
  | refine ⟨_, rfl, ?_⟩
  | refine ⟨_, argD1, ?_⟩
  | refine ⟨_, argD2, ?_⟩
  | refine ⟨_, argD0, ?_⟩
  | refine ⟨_, argD3, ?_⟩
  | refine ⟨_, argD4, ?_⟩
  | refine ⟨_, _, rfl, rfl, rfl, ?_⟩
  | refine ⟨_, _, _, rfl, rfl, rfl, ?_⟩
  | refine ⟨(by simp only [List.length_cons, List.length_nil]; decide), ?_⟩
  | refine ⟨rfl, nd1, ?_⟩
  | refine ⟨rfl, nd0, ?_⟩)
local macro_rules | `(tactic| walk_at "go") => `(tactic| repeat walk_at "g1")
local macro_rules | `(tactic| walk_at "g2") => `(tactic| first
  | (with_reducible show WE _ _ _; with_reducible first | refine we_var (by with_unfolding_all exact rfl) ?_ | (show WE (tOp _ _ _) _ _; first | refine we_notN ?_ | refine we_ixS (by with_unfolding_all exact rfl) ?_ | refine we_ixScr (by with_unfolding_all exact rfl) ?_ | refine we_inS (by with_unfolding_all exact rfl) ?_ | refine we_notInS (by with_unfolding_all exact rfl) ?_ | refine we_eqS (by with_unfolding_all exact rfl) ?_ | refine we_neS (by with_unfolding_all exact rfl) ?_ | refine we_opK ?_) | (show WE (tCB _ _) _ _; first | refine we_isInt ?_ | refine we_isBl ?_ | refine we_isLst ?_ | refine we_isTup ?_ | refine we_lenO (by with_unfolding_all exact rfl) ?_ | refine we_lenS' (by with_unfolding_all exact rfl) ?_ | refine we_lenScr (by with_unfolding_all exact rfl) ?_ | refine we_cbK ?_) | refine we_chain ?_ | refine we_slice ?_ | refine we_int ?_ | refine we_bl ?_ | refine we_non ?_ | refine we_str ?_ | refine we_neg ?_ | refine we_not ?_ | refine we_and ?_ | refine we_or ?_ | refine we_if ?_ | refine we_tup ?_ | refine we_lst ?_ | refine we_call ?_ | refine we_mt (by with_unfolding_all exact rfl) ?_)
  | (with_reducible show WS _ _ _ _; with_reducible first | refine ws_seqA ?_ | refine ws_seqD ?_ | refine ws_asg (by with_unfolding_all exact rfl) ?_ | refine ws_asgG ?_ | refine ws_if ?_ | refine ws_ret ?_ | refine ws_drop ?_ | refine ws_next ?_ | refine ws_retN ?_)
  | (with_reducible show WT _ _ _; with_reducible first | refine wt_test ?_ | refine wt_B ?_ | refine wt_not ?_ | refine wt_and ?_ | refine wt_or ?_ | refine wt_yes ?_)
  | (with_reducible show WA _ _ _; with_reducible first | refine wa_nil ?_ | refine wa_cons (wq_of (we_var (by with_unfolding_all exact rfl) ?_)) | refine wa_slotU (by with_unfolding_all exact rfl) ?_ | refine wa_cons ?_)
  | (with_reducible show OpK _ _ _ _ _; with_reducible first | refine ok_isB ?_ | refine ok_notB ?_ | refine ok_plusI ?_ | refine ok_sub ?_ | refine ok_lt ?_ | refine ok_le ?_ | refine ok_gt ?_ | refine ok_ge ?_ | refine ok_eqI ?_ | refine ok_neI ?_ | refine ok_mod (by first | assumption | decide | omega) ?_ | refine ok_ixL (by with_unfolding_all exact rfl) ?_)
  | (with_reducible show CbK _ _ _ _; with_reducible first | refine ck_lenL ?_ | refine ck_lenT ?_ | refine ck_int ?_ | refine ck_intB ?_ | refine ck_max ?_ | refine ck_min ?_ | refine ck_list ?_)
  | with_reducible refine wq_of ?_
  | (with_reducible show WG _ _ _ _ _; with_reducible first | refine wg_name (by with_unfolding_all exact rfl) ?_ | refine wg_tup (by with_unfolding_all exact rfl) ?_ | refine wg_set (by with_unfolding_all exact rfl) ?_)
  | (with_reducible show WGs _ _ _ _ _; with_reducible first | refine wgs_cons ?_ | refine wgs_nil ?_)
  | (with_reducible show WO _ _ _; with_reducible first | refine wo_some ?_ | refine wo_none ?_)
  | refine ⟨_, argD5, ?_⟩
  | refine ⟨_, argD6, ?_⟩
  | refine ⟨_, argD7, ?_⟩
  | refine ⟨_, argD9, ?_⟩
  | with_reducible refine iteT ?_
  | with_reducible refine iteF ?_
  | with_reducible refine ⟨_, frz_per, ?_⟩
  | with_reducible refine ⟨_, frz_own, ?_⟩
  | refine ⟨_, rfl, ?_⟩
  | refine ⟨_, argD1, ?_⟩
  | refine ⟨_, argD2, ?_⟩
  | refine ⟨_, argD0, ?_⟩
  | refine ⟨_, argD3, ?_⟩
  | refine ⟨_, argD4, ?_⟩
  | refine ⟨_, _, rfl, rfl, rfl, ?_⟩
  | refine ⟨_, _, _, rfl, rfl, rfl, ?_⟩
  | refine ⟨(by simp only [List.length_cons, List.length_nil]; decide), ?_⟩
  | refine ⟨rfl, nd1, ?_⟩
  | refine ⟨rfl, nd0, ?_⟩)
local macro_rules | `(tactic| walk_at "w") => `(tactic| first
  | (with_reducible show WE _ _ _; with_reducible first | refine we_var (by with_unfolding_all exact rfl) ?_ | refine we_varF (by with_unfolding_all exact rfl) frz_own ?_ | (show WE (tOp _ _ _) _ _; first | refine we_isNd ?_ | refine we_notNd ?_ | refine we_notN ?_ | refine we_ixS (by with_unfolding_all exact rfl) ?_ | refine we_ixScr (by with_unfolding_all exact rfl) ?_ | refine we_inS (by with_unfolding_all exact rfl) ?_ | refine we_notInS (by with_unfolding_all exact rfl) ?_ | refine we_eqS (by with_unfolding_all exact rfl) ?_ | refine we_neS (by with_unfolding_all exact rfl) ?_ | refine we_opK ?_) | (show WE (tCB _ _) _ _; first | refine we_repr ?_ | refine we_isInt ?_ | refine we_isBl ?_ | refine we_isLst ?_ | refine we_isTup ?_ | refine we_lenO (by with_unfolding_all exact rfl) ?_ | refine we_lenS' (by with_unfolding_all exact rfl) ?_ | refine we_lenScr (by with_unfolding_all exact rfl) ?_ | refine we_cbK ?_) | refine we_dnew ?_ | refine we_lenSetI ?_ | refine we_revL ?_ | refine we_chain ?_ | refine we_slice ?_ | refine we_int ?_ | refine we_bl ?_ | refine we_non ?_ | refine we_str ?_ | refine we_neg ?_ | refine we_not ?_ | refine we_and ?_ | refine we_or ?_ | refine we_if ?_ | refine we_tup ?_ | refine we_lst ?_ | refine we_call ?_ | refine we_mt (by with_unfolding_all exact rfl) ?_)
  | (with_reducible show WS _ _ _ _; with_reducible first | refine ws_seqI ?_ | refine ws_seqA ?_ | refine ws_seqD ?_ | refine ws_asg (by with_unfolding_all exact rfl) ?_ | refine ws_asgG ?_ | refine ws_if ?_ | refine ws_ret ?_ | refine ws_drop ?_ | refine ws_next ?_ | refine ws_retN ?_)
  | (with_reducible show WT _ _ _; with_reducible first | refine wt_truL ?_ | refine wt_test ?_ | refine wt_B ?_ | refine wt_not ?_ | refine wt_and ?_ | refine wt_or ?_ | refine wt_yes ?_)
  | (with_reducible show WA _ _ _; with_reducible first | refine wa_nil ?_ | refine wa_cons (wq_of (we_var (by with_unfolding_all exact rfl) ?_)) | refine wa_slotU (by with_unfolding_all exact rfl) ?_ | refine wa_cons ?_)
  | (with_reducible show OpK _ _ _ _ _; with_reducible first | refine ok_neR ?_ | refine ok_eqR ?_ | refine ok_isB ?_ | refine ok_notB ?_ | refine ok_plusI ?_ | refine ok_sub ?_ | refine ok_lt ?_ | refine ok_le ?_ | refine ok_gt ?_ | refine ok_ge ?_ | refine ok_eqI ?_ | refine ok_neI ?_ | refine ok_mod (by first | assumption | decide | omega) ?_ | refine ok_ixL (by with_unfolding_all exact rfl) ?_)
  | (with_reducible show CbK _ _ _ _; with_reducible first | refine ck_tuple ?_ | refine ck_allF ?_ | refine ck_anyF ?_ | refine ck_abs ?_ | refine ck_sumI ?_ | refine ck_lenL ?_ | refine ck_lenT ?_ | refine ck_int ?_ | refine ck_intB ?_ | refine ck_max ?_ | refine ck_min ?_ | refine ck_list ?_)
  | with_reducible refine wq_of ?_
  | (with_reducible show WG _ _ _ _ _; with_reducible first | refine wg_name (by with_unfolding_all exact rfl) ?_ | refine wg_tup (by with_unfolding_all exact rfl) ?_ | refine wg_set (by with_unfolding_all exact rfl) ?_)
  | (with_reducible show WGs _ _ _ _ _; with_reducible first | refine wgs_cons ?_ | refine wgs_nil ?_)
  | (with_reducible show WO _ _ _; with_reducible first | refine wo_some ?_ | refine wo_none ?_)
  | refine ⟨_, argD5, ?_⟩
  | refine ⟨_, argD6, ?_⟩
  | refine ⟨_, argD7, ?_⟩
  | refine ⟨_, argD9, ?_⟩
  | with_reducible refine iteT ?_
  | with_reducible refine iteF ?_
  | with_reducible refine ⟨_, frz_per, ?_⟩
  | with_reducible refine ⟨_, frz_own, ?_⟩
  | refine ⟨_, rfl, ?_⟩
  | refine ⟨_, argD1, ?_⟩
  | refine ⟨_, argD2, ?_⟩
  | refine ⟨_, argD0, ?_⟩
  | refine ⟨_, argD3, ?_⟩
  | refine ⟨_, argD4, ?_⟩
  | refine ⟨_, _, rfl, rfl, rfl, ?_⟩
  | refine ⟨_, _, _, rfl, rfl, rfl, ?_⟩
  | refine ⟨(by simp only [List.length_cons, List.length_nil]; decide), ?_⟩
  | refine ⟨rfl, nd1, ?_⟩
  | refine ⟨rfl, nd0, ?_⟩
  | refine ⟨_, argD8, ?_⟩
  | refine ⟨_, argD10, ?_⟩)
local macro_rules | `(tactic| walk_at "v") => `(tactic| first
  | (with_reducible show WE _ _ _; with_reducible first | refine we_var (by with_unfolding_all exact rfl) ?_ | refine we_varF (by with_unfolding_all exact rfl) frz_own ?_ | (show WE (tOp _ _ _) _ _; first | refine we_isNd ?_ | refine we_notNd ?_ | refine we_notN ?_ | refine we_ixS (by with_unfolding_all exact rfl) ?_ | refine we_ixScr (by with_unfolding_all exact rfl) ?_ | refine we_inS (by with_unfolding_all exact rfl) ?_ | refine we_notInS (by with_unfolding_all exact rfl) ?_ | refine we_eqS (by with_unfolding_all exact rfl) ?_ | refine we_neS (by with_unfolding_all exact rfl) ?_ | refine we_opK ?_) | (show WE (tCB _ _) _ _; first | refine we_repr ?_ | refine we_lenWeb (by with_unfolding_all exact rfl) (by assumption) ?_ | refine we_isInt ?_ | refine we_isBl ?_ | refine we_isLst ?_ | refine we_isTup ?_ | refine we_lenO (by with_unfolding_all exact rfl) ?_ | refine we_lenS' (by with_unfolding_all exact rfl) ?_ | refine we_lenScr (by with_unfolding_all exact rfl) ?_ | refine we_cbK ?_) | refine we_dnew ?_ | refine we_lenSetI ?_ | refine we_revL ?_ | refine we_nbWeb (by with_unfolding_all exact rfl) (by assumption) (by assumption) ?_ | refine we_tiesWeb (by with_unfolding_all exact rfl) ?_ | refine we_chain ?_ | refine we_slice ?_ | refine we_int ?_ | refine we_bl ?_ | refine we_non ?_ | refine we_str ?_ | refine we_neg ?_ | refine we_not ?_ | refine we_and ?_ | refine we_or ?_ | refine we_if ?_ | refine we_tup ?_ | refine we_lst ?_ | refine we_call ?_ | refine we_mt (by with_unfolding_all exact rfl) ?_)
  | (with_reducible show WS _ _ _ _; with_reducible first | refine ws_seqI ?_ | refine ws_seqA ?_ | refine ws_seqD ?_ | refine ws_asg (by with_unfolding_all exact rfl) ?_ | refine ws_asgG ?_ | refine ws_if ?_ | refine ws_ret ?_ | refine ws_drop ?_ | refine ws_next ?_ | refine ws_retN ?_)
  | (with_reducible show WT _ _ _; with_reducible first | refine wt_truL ?_ | refine wt_test ?_ | refine wt_B ?_ | refine wt_not ?_ | refine wt_and ?_ | refine wt_or ?_ | refine wt_yes ?_)
  | (with_reducible show WA _ _ _; with_reducible first | refine wa_nil ?_ | refine wa_cons (wq_of (we_var (by with_unfolding_all exact rfl) ?_)) | refine wa_slotU (by with_unfolding_all exact rfl) ?_ | refine wa_cons ?_)
  | (with_reducible show OpK _ _ _ _ _; with_reducible first | refine ok_neR ?_ | refine ok_eqR ?_ | refine ok_isB ?_ | refine ok_notB ?_ | refine ok_plusI ?_ | refine ok_sub ?_ | refine ok_lt ?_ | refine ok_le ?_ | refine ok_gt ?_ | refine ok_ge ?_ | refine ok_eqI ?_ | refine ok_neI ?_ | refine ok_mod (by first | assumption | decide | omega) ?_ | refine ok_ixL (by with_unfolding_all exact rfl) ?_)
  | (with_reducible show CbK _ _ _ _; with_reducible first | refine ck_tuple ?_ | refine ck_allF ?_ | refine ck_anyF ?_ | refine ck_abs ?_ | refine ck_sumI ?_ | refine ck_lenL ?_ | refine ck_lenT ?_ | refine ck_int ?_ | refine ck_intB ?_ | refine ck_max ?_ | refine ck_min ?_ | refine ck_list ?_)
  | with_reducible refine wq_of ?_
  | (with_reducible show WG _ _ _ _ _; with_reducible first | refine wg_name (by with_unfolding_all exact rfl) ?_ | refine wg_tup (by with_unfolding_all exact rfl) ?_ | refine wg_set (by with_unfolding_all exact rfl) ?_)
  | (with_reducible show WGs _ _ _ _ _; with_reducible first | refine wgs_cons ?_ | refine wgs_nil ?_)
  | (with_reducible show WO _ _ _; with_reducible first | refine wo_some ?_ | refine wo_none ?_)
  | refine ⟨_, argD5, ?_⟩
  | refine ⟨_, argD6, ?_⟩
  | refine ⟨_, argD7, ?_⟩
  | refine ⟨_, argD9, ?_⟩
  | with_reducible refine iteT ?_
  | with_reducible refine iteF ?_
  | with_reducible refine ⟨_, frz_per, ?_⟩
  | with_reducible refine ⟨_, frz_own, ?_⟩
  | refine ⟨_, rfl, ?_⟩
  | refine ⟨_, argD1, ?_⟩
  | refine ⟨_, argD2, ?_⟩
  | refine ⟨_, argD0, ?_⟩
  | refine ⟨_, argD3, ?_⟩
  | refine ⟨_, argD4, ?_⟩
  | refine ⟨_, _, rfl, rfl, rfl, ?_⟩
  | refine ⟨_, _, _, rfl, rfl, rfl, ?_⟩
  | refine ⟨(by simp only [List.length_cons, List.length_nil]; decide), ?_⟩
  | refine ⟨rfl, nd1, ?_⟩
  | refine ⟨rfl, nd0, ?_⟩
  | refine ⟨_, argD8, ?_⟩
  | refine ⟨_, argD10, ?_⟩)
local macro_rules | `(tactic| walk_at "p") => `(tactic| refine ⟨_, _, rfl, (by omega), (by first | decide | omega), (by first | decide | omega), ?_⟩)
local macro_rules | `(tactic| walk_at "n") => `(tactic| try dsimp only [back, List.set_cons_zero, List.set_cons_succ, List.map_cons, List.map_nil, List.cons_append, List.nil_append])
local macro_rules | `(tactic| walk_at "q") => `(tactic| first | with_reducible refine ws_seqP (ws_par (by with_unfolding_all exact rfl) (by with_unfolding_all exact rfl) ?_) | refine ⟨_, _, rfl, ?_⟩ | walk_at "v")
/-! ### the text of a web -/
def tieS (t : Int × Int) : Str := tS t.1 ++ "-" ++ tS t.2
def webS (n : Nat) (ts : List (Int × Int)) : Str := Str.join (sepS 32) (tS n :: ts.map tieS)
def Small (ts : List (Int × Int)) : Prop := ∀ t ∈ ts, (0 ≤ t.1 ∧ t.1 ≤ 60) ∧ 0 ≤ t.2 ∧ t.2 ≤ 60
theorem wdI {i : Int} (h : 0 ≤ i ∧ i ≤ 60) : Wd i.toNat ∧ tS (i.toNat : Int) = tS i := ⟨wd (by omega), by rw [Int.toNat_of_nonneg h.1]⟩
theorem str_len {s : Str} : s.length = s.cps.toList.length := by simp [Str.length]
theorem tieS_cps {t : Int × Int} : (tieS t).cps.toList = (tS t.1).cps.toList ++ 45 :: (tS t.2).cps.toList := by
  unfold tieS
  rw [app_cps, app_cps]
  show (_ ++ [45]) ++ _ = _
  simp
theorem tieS_two {t : Int × Int} : tieS t = Str.join (sepS 45) [tS t.1, tS t.2] := str_ext (by rw [tieS_cps, join_two, PyProof.Rows.join_one])
theorem tieS_len {t : Int × Int} (h : (0 ≤ t.1 ∧ t.1 ≤ 60) ∧ 0 ≤ t.2 ∧ t.2 ≤ 60) : (tieS t).length ≤ 5 := by
  obtain ⟨w1, e1⟩ := wdI h.1
  obtain ⟨w2, e2⟩ := wdI h.2
  have h1 := w1.len
  have h2 := w2.len
  rw [e1, str_len] at h1
  rw [e2, str_len] at h2
  rw [str_len, tieS_cps, List.length_append, List.length_cons]
  omega
theorem tieS_sp {t : Int × Int} (h : (0 ≤ t.1 ∧ t.1 ≤ 60) ∧ 0 ≤ t.2 ∧ t.2 ≤ 60) : 32 ∉ (tieS t).cps.toList := fun hm => by
  obtain ⟨w1, e1⟩ := wdI h.1
  obtain ⟨w2, e2⟩ := wdI h.2
  rw [tieS_cps] at hm
  rcases List.mem_append.mp hm with hm | hm
  · exact w1.sp (e1 ▸ hm)
  · rcases List.mem_cons.mp hm with hm | hm
    · cases hm
    · exact w2.sp (e2 ▸ hm)
theorem split_tie {t : Int × Int} (h : (0 ≤ t.1 ∧ t.1 ≤ 60) ∧ 0 ≤ t.2 ∧ t.2 ≤ 60) : Txt.split (tieS t) "-" = [tS t.1, tS t.2] := by
  obtain ⟨w1, e1⟩ := wdI h.1
  obtain ⟨w2, e2⟩ := wdI h.2
  rw [tieS_two]
  refine split_join (c := 45) (by simp) fun x hx => ?_
  simp only [List.mem_cons, List.not_mem_nil, or_false] at hx
  rcases hx with rfl | rfl
  · exact e1 ▸ w1.mi
  · exact e2 ▸ w2.mi
theorem split_web {n : Nat} {ts : List (Int × Int)} (hn : n ≤ 60) (h : Small ts) : Txt.split (webS n ts) " " = tS n :: ts.map tieS := by
  unfold webS
  refine split_join (c := 32) (by simp) fun x hx => ?_
  rcases List.mem_cons.mp hx with rfl | hx
  · exact (wd hn).sp
  · obtain ⟨t, ht, rfl⟩ := List.mem_map.mp hx
    exact tieS_sp (h t ht)
theorem web_sum {n : Nat} {ts : List (Int × Int)} (hn : n ≤ 60) (h : Small ts) : ((tS n :: ts.map tieS).map (·.length)).sum ≤ 2 + 5 * ts.length := by
  have h1 : ∀ ts : List (Int × Int), Small ts → ((ts.map tieS).map (·.length)).sum ≤ 5 * ts.length := by
    intro ts
    induction ts with
    | nil => intro _; simp
    | cons t ts ih =>
      intro h
      have h2 := ih fun t ht => h t (by simp [ht])
      have h3 := tieS_len (h t (by simp))
      simp only [List.map_cons, List.sum_cons, List.length_cons] at h2 ⊢
      omega
  have := h1 ts h
  have h4 := (wd hn).len
  simp only [List.map_cons, List.sum_cons] at this ⊢
  omega
theorem join_len {s : Str} : ∀ {ws : List Str}, (Str.join s ws).length ≤ (ws.map (·.length)).sum + ws.length * s.length
  | [] => by
    show Str.empty.length ≤ _
    exact Nat.zero_le _
  | [x] => by
    rw [PyProof.Rows.join_one]
    simp
  | x :: y :: r => by
    have ih := join_len (s := s) (ws := y :: r)
    rw [PyProof.Rows.join_cons_cons]
    have e : (x ++ s ++ Str.join s (y :: r)).length = x.length + s.length + (Str.join s (y :: r)).length := by
      rw [str_len, app_cps, app_cps, str_len, str_len, str_len]
      simp only [List.length_append]
    rw [e]
    simp only [List.map_cons, List.sum_cons, List.length_cons] at ih ⊢
    have : (r.length + 1 + 1) * s.length = (r.length + 1) * s.length + s.length := by rw [Nat.add_mul, Nat.one_mul]
    omega
theorem webS_len {n : Nat} {ts : List (Int × Int)} (hn : n ≤ 60) (h : Small ts) : (webS n ts).length ≤ 3 + 6 * ts.length := by
  have h1 := join_len (s := sepS 32) (ws := tS n :: ts.map tieS)
  have h2 := web_sum hn h
  have h3 : (sepS 32).length = 1 := rfl
  rw [h3, List.length_cons, List.length_map] at h1
  unfold webS
  omega
theorem log60 {i : Int} (h : 0 ≤ i ∧ i ≤ 60) : i.natAbs.log2 < 1920 := by
  by_cases c : i.natAbs = 0
  · rw [c]; decide
  · refine (Nat.log2_lt c).mpr (Nat.lt_of_lt_of_le (show i.natAbs < 2 ^ 30 by omega) (Nat.pow_le_pow_right (by decide) (by decide)))
theorem tieS_f {t : Int × Int} : (((Str.empty ++ (toString t.1 : Str)) ++ "-") ++ (toString t.2 : Str)) = tieS t := by
  rw [empty_app]
  rfl
abbrev t_show_web_0 (K : PySem.W.Frag) (a : Ad) : TS :=
  (tRet (tM1 (rJoinS K) (tC (.str " ")) (tOp (rPlus K) (tLst (tCons (tCB (rStrI) (tCons (tCB (rLenOwn a.C_Web (sp_Web_len_ K a) E0) (tCons (tVar 0) tNil)) tNil)) tNil)) (tLc (iList K (tProp a.C_Web (sp_Web_ties K a) [] E0 (tVar 0))) (gTup K 2 (gCons (gName 1) (gCons (gName 2) gNil))) tYes (tJn [(tFmt (tVar 1)), (tC (.str "-")), (tFmt (tVar 2))]) [1, 2]))))
def t_show_web (K : PySem.W.Frag) (a : Ad) : TS :=
  (t_show_web_0 K a)
abbrev N_show_web : List Str := ["web", "u", "v"]
abbrev F_show_web (a : Ad) : Fw := fun gs kk xx => ∃ (n : Nat) (ts : List (Int × Int)), gs = [per (objP a.C_Web (webF n ts))] ∧ n ≤ 60 ∧ Small ts ∧ ts.length ≤ 1000 ∧ kk (dat (.str (webS n ts))) [none]
abbrev sp_show_web (K : PySem.W.Frag) (a : Ad) : Sp := SpG 1 (F_show_web a)
theorem pure_show_web {K : PySem.W.Frag} {a : Ad} (c : Clf K a) {vs : List V} {H : Hp} {Q : VK} {E : XK} (h : sp_show_web K a vs H Q E) : t_show_web K a { nx := fun _ H' => Q .non H', rt := Q } (start N_show_web vs) H := by
  refine body_ok (fun _ => false) ?_ h
  rintro gs kk xx ⟨n, ts, rfl, hn, hs, hl, hk⟩ -
  unfold t_show_web
  show WS _ _ [some (per (objP a.C_Web (webF n ts))), none, none] _
  refine ws_ret (we_join (wq_of (we_str ⟨_, frz_per, " ", rfl, wq_of (we_opK (wq_of (we_lst (wa_cons (wq_of (we_cbK (wa_cons (wq_of (we_lenWeb (n := n) (ts := ts) rfl (by omega) ⟨_, frz_per, wa_nil ⟨_, argD1, ck_strI (log60 (by omega)) ?_⟩⟩)))))))))⟩)))
  refine ⟨_, frz_per, wa_nil ⟨[_], argD1, by simp, _, frz_own, _, rfl, wq_of ?_⟩⟩
  refine we_lcM tieD .str tieS (wil_list (wq_of (we_tiesWeb (n := n) (ts := ts) rfl ⟨_, frz_own, _, rfl, ts, rfl, rfl, by omega, fun t ht => ?_, ?_⟩)))
  · refine wg_tup rfl (wgs_cons (wg_name rfl (wgs_cons (wg_name rfl (wgs_nil ?_)))))
    walk_at "n"
    have ht := hs t ht
    have h5 := tieS_len ht
    refine wq_of (we_tie rfl rfl (log60 ht.1) (log60 ht.2) ?_ ?_)
    · rw [tieS_f]
      rw [str_len, tieS_cps, List.length_append, List.length_cons] at h5
      have e1 : (Str.empty ++ (toString t.1 : Str)).length = (tS t.1).cps.toList.length := by rw [empty_app, str_len]; rfl
      have e2 : (Str.empty ++ (toString t.1 : Str) ++ "-").length = (tS t.1).cps.toList.length + 1 := by rw [empty_app, str_len, app_cps, List.length_append]; rfl
      rw [e1, e2, str_len, tieS_cps, List.length_append, List.length_cons]
      omega
    · rw [tieS_f]
      exact ⟨_, frz_per, rfl, rfl⟩
  · refine ⟨_, frz_own, _, rfl, ok_plusL (by simp; omega) ?_⟩
    have e : [PyData.str (toString (n : Int) : Str)] ++ (ts.map tieS).map PyData.str = (tS n :: ts.map tieS).map .str := rfl
    rw [e]
    have := web_sum hn hs
    refine ⟨_, frz_own, _, rfl, ?_, ?_⟩
    · show _ + _ * 1 ≤ _
      rw [List.length_cons, List.length_map]
      omega
    · rw [txt_join]
      exact ⟨_, _, Ent.refl, les_none les_nil, hk⟩
end G

namespace G
open PySem L2
local macro_rules | `(tactic| walk_at "g1") => `(tactic| first
  | (with_reducible show WE _ _ _; with_reducible first | refine we_var (by with_unfolding_all exact rfl) ?_ | (show WE (tOp _ _ _) _ _; first | refine we_ixS (by with_unfolding_all exact rfl) ?_ | refine we_ixScr (by with_unfolding_all exact rfl) ?_ | refine we_inS (by with_unfolding_all exact rfl) ?_ | refine we_notInS (by with_unfolding_all exact rfl) ?_ | refine we_eqS (by with_unfolding_all exact rfl) ?_ | refine we_neS (by with_unfolding_all exact rfl) ?_ | refine we_opK ?_) | (show WE (tCB _ _) _ _; first | refine we_lenS' (by with_unfolding_all exact rfl) ?_ | refine we_lenScr (by with_unfolding_all exact rfl) ?_ | refine we_cbK ?_) | refine we_int ?_ | refine we_bl ?_ | refine we_non ?_ | refine we_str ?_ | refine we_neg ?_ | refine we_not ?_ | refine we_and ?_ | refine we_or ?_ | refine we_if ?_ | refine we_tup ?_ | refine we_lst ?_ | refine we_call ?_ | refine we_mt (by with_unfolding_all exact rfl) ?_)
  | (with_reducible show WS _ _ _ _; with_reducible first | refine ws_seqA ?_ | refine ws_seqD ?_ | refine ws_asg (by with_unfolding_all exact rfl) ?_ | refine ws_asgG ?_ | refine ws_if ?_ | refine ws_ret ?_ | refine ws_drop ?_ | refine ws_next ?_ | refine ws_retN ?_)
  | (with_reducible show WT _ _ _; with_reducible first | refine wt_test ?_ | refine wt_B ?_ | refine wt_not ?_ | refine wt_and ?_ | refine wt_or ?_ | refine wt_yes ?_)
  | (with_reducible show WA _ _ _; with_reducible first | refine wa_nil ?_ | refine wa_cons (wq_of (we_var (by with_unfolding_all exact rfl) ?_)) | refine wa_slotU (by with_unfolding_all exact rfl) ?_ | refine wa_cons ?_)
  | (with_reducible show OpK _ _ _ _ _; with_reducible first | refine ok_plusI ?_ | refine ok_sub ?_ | refine ok_lt ?_ | refine ok_le ?_ | refine ok_gt ?_ | refine ok_ge ?_ | refine ok_eqI ?_ | refine ok_neI ?_ | refine ok_mod (by first | assumption | decide | omega) ?_ | refine ok_ixL (by with_unfolding_all exact rfl) ?_)
  | (with_reducible show CbK _ _ _ _; with_reducible first | refine ck_lenL ?_ | refine ck_lenT ?_ | refine ck_int ?_ | refine ck_intB ?_ | refine ck_max ?_ | refine ck_min ?_ | refine ck_list ?_)
  | with_reducible refine wq_of ?_
  | (with_reducible show WG _ _ _ _ _; with_reducible first | refine wg_name (by with_unfolding_all exact rfl) ?_ | refine wg_tup (by with_unfolding_all exact rfl) ?_ | refine wg_set (by with_unfolding_all exact rfl) ?_)
  | (with_reducible show WGs _ _ _ _ _; with_reducible first | refine wgs_cons ?_ | refine wgs_nil ?_)
  | with_reducible refine iteT ?_
  | with_reducible refine iteF ?_
  | with_reducible refine ⟨_, frz_per, ?_⟩
  | with_reducible refine ⟨_, frz_own, ?_⟩
  | refine ⟨_, rfl, ?_⟩
  | refine ⟨_, argD1, ?_⟩
  | refine ⟨_, argD2, ?_⟩
  | refine ⟨_, argD0, ?_⟩
  | refine ⟨_, argD3, ?_⟩
  | refine ⟨_, argD4, ?_⟩
  | refine ⟨_, _, rfl, rfl, rfl, ?_⟩
  | refine ⟨_, _, _, rfl, rfl, rfl, ?_⟩
  | refine ⟨(by simp only [List.length_cons, List.length_nil]; decide), ?_⟩
  | refine ⟨rfl, nd1, ?_⟩
  | refine ⟨rfl, nd0, ?_⟩)
local macro_rules | `(tactic| walk_at "go") => `(tactic| repeat walk_at "g1")
local macro_rules | `(tactic| walk_at "g2") => `(tactic| first
  | (with_reducible show WE _ _ _; with_reducible first | refine we_var (by with_unfolding_all exact rfl) ?_ | (show WE (tOp _ _ _) _ _; first | refine we_notN ?_ | refine we_ixS (by with_unfolding_all exact rfl) ?_ | refine we_ixScr (by with_unfolding_all exact rfl) ?_ | refine we_inS (by with_unfolding_all exact rfl) ?_ | refine we_notInS (by with_unfolding_all exact rfl) ?_ | refine we_eqS (by with_unfolding_all exact rfl) ?_ | refine we_neS (by with_unfolding_all exact rfl) ?_ | refine we_opK ?_) | (show WE (tCB _ _) _ _; first | refine we_isInt ?_ | refine we_isBl ?_ | refine we_isLst ?_ | refine we_isTup ?_ | refine we_lenO (by with_unfolding_all exact rfl) ?_ | refine we_lenS' (by with_unfolding_all exact rfl) ?_ | refine we_lenScr (by with_unfolding_all exact rfl) ?_ | refine we_cbK ?_) | refine we_chain ?_ | refine we_slice ?_ | refine we_int ?_ | refine we_bl ?_ | refine we_non ?_ | refine we_str ?_ | refine we_neg ?_ | refine we_not ?_ | refine we_and ?_ | refine we_or ?_ | refine we_if ?_ | refine we_tup ?_ | refine we_lst ?_ | refine we_call ?_ | refine we_mt (by with_unfolding_all exact rfl) ?_)
  | (with_reducible show WS _ _ _ _; with_reducible first | refine ws_seqA ?_ | refine ws_seqD ?_ | refine ws_asg (by with_unfolding_all exact rfl) ?_ | refine ws_asgG ?_ | refine ws_if ?_ | refine ws_ret ?_ | refine ws_drop ?_ | refine ws_next ?_ | refine ws_retN ?_)
  | (with_reducible show WT _ _ _; with_reducible first | refine wt_test ?_ | refine wt_B ?_ | refine wt_not ?_ | refine wt_and ?_ | refine wt_or ?_ | refine wt_yes ?_)
  | (with_reducible show WA _ _ _; with_reducible first | refine wa_nil ?_ | refine wa_cons (wq_of (we_var (by with_unfolding_all exact rfl) ?_)) | refine wa_slotU (by with_unfolding_all exact rfl) ?_ | refine wa_cons ?_)
  | (with_reducible show OpK _ _ _ _ _; with_reducible first | refine ok_isB ?_ | refine ok_notB ?_ | refine ok_plusI ?_ | refine ok_sub ?_ | refine ok_lt ?_ | refine ok_le ?_ | refine ok_gt ?_ | refine ok_ge ?_ | refine ok_eqI ?_ | refine ok_neI ?_ | refine ok_mod (by first | assumption | decide | omega) ?_ | refine ok_ixL (by with_unfolding_all exact rfl) ?_)
  | (with_reducible show CbK _ _ _ _; with_reducible first | refine ck_lenL ?_ | refine ck_lenT ?_ | refine ck_int ?_ | refine ck_intB ?_ | refine ck_max ?_ | refine ck_min ?_ | refine ck_list ?_)
  | with_reducible refine wq_of ?_
  | (with_reducible show WG _ _ _ _ _; with_reducible first | refine wg_name (by with_unfolding_all exact rfl) ?_ | refine wg_tup (by with_unfolding_all exact rfl) ?_ | refine wg_set (by with_unfolding_all exact rfl) ?_)
  | (with_reducible show WGs _ _ _ _ _; with_reducible first | refine wgs_cons ?_ | refine wgs_nil ?_)
  | (with_reducible show WO _ _ _; with_reducible first | refine wo_some ?_ | refine wo_none ?_)
  | refine ⟨_, argD5, ?_⟩
  | refine ⟨_, argD6, ?_⟩
  | refine ⟨_, argD7, ?_⟩
  | refine ⟨_, argD9, ?_⟩
  | with_reducible refine iteT ?_
  | with_reducible refine iteF ?_
  | with_reducible refine ⟨_, frz_per, ?_⟩
  | with_reducible refine ⟨_, frz_own, ?_⟩
  | refine ⟨_, rfl, ?_⟩
  | refine ⟨_, argD1, ?_⟩
  | refine ⟨_, argD2, ?_⟩
  | refine ⟨_, argD0, ?_⟩
  | refine ⟨_, argD3, ?_⟩
  | refine ⟨_, argD4, ?_⟩
  | refine ⟨_, _, rfl, rfl, rfl, ?_⟩
  | refine ⟨_, _, _, rfl, rfl, rfl, ?_⟩
  | refine ⟨(by simp only [List.length_cons, List.length_nil]; decide), ?_⟩
  | refine ⟨rfl, nd1, ?_⟩
  | refine ⟨rfl, nd0, ?_⟩)
local macro_rules | `(tactic| walk_at "w") => `(tactic| first
  | (with_reducible show WE _ _ _; with_reducible first | refine we_var (by with_unfolding_all exact rfl) ?_ | refine we_varF (by with_unfolding_all exact rfl) frz_own ?_ | (show WE (tOp _ _ _) _ _; first | refine we_isNd ?_ | refine we_notNd ?_ | refine we_notN ?_ | refine we_ixS (by with_unfolding_all exact rfl) ?_ | refine we_ixScr (by with_unfolding_all exact rfl) ?_ | refine we_inS (by with_unfolding_all exact rfl) ?_ | refine we_notInS (by with_unfolding_all exact rfl) ?_ | refine we_eqS (by with_unfolding_all exact rfl) ?_ | refine we_neS (by with_unfolding_all exact rfl) ?_ | refine we_opK ?_) | (show WE (tCB _ _) _ _; first | refine we_repr ?_ | refine we_isInt ?_ | refine we_isBl ?_ | refine we_isLst ?_ | refine we_isTup ?_ | refine we_lenO (by with_unfolding_all exact rfl) ?_ | refine we_lenS' (by with_unfolding_all exact rfl) ?_ | refine we_lenScr (by with_unfolding_all exact rfl) ?_ | refine we_cbK ?_) | refine we_dnew ?_ | refine we_lenSetI ?_ | refine we_revL ?_ | refine we_chain ?_ | refine we_slice ?_ | refine we_int ?_ | refine we_bl ?_ | refine we_non ?_ | refine we_str ?_ | refine we_neg ?_ | refine we_not ?_ | refine we_and ?_ | refine we_or ?_ | refine we_if ?_ | refine we_tup ?_ | refine we_lst ?_ | refine we_call ?_ | refine we_mt (by with_unfolding_all exact rfl) ?_)
  | (with_reducible show WS _ _ _ _; with_reducible first | refine ws_seqI ?_ | refine ws_seqA ?_ | refine ws_seqD ?_ | refine ws_asg (by with_unfolding_all exact rfl) ?_ | refine ws_asgG ?_ | refine ws_if ?_ | refine ws_ret ?_ | refine ws_drop ?_ | refine ws_next ?_ | refine ws_retN ?_)
  | (with_reducible show WT _ _ _; with_reducible first | refine wt_truL ?_ | refine wt_test ?_ | refine wt_B ?_ | refine wt_not ?_ | refine wt_and ?_ | refine wt_or ?_ | refine wt_yes ?_)
  | (with_reducible show WA _ _ _; with_reducible first | refine wa_nil ?_ | refine wa_cons (wq_of (we_var (by with_unfolding_all exact rfl) ?_)) | refine wa_slotU (by with_unfolding_all exact rfl) ?_ | refine wa_cons ?_)
  | (with_reducible show OpK _ _ _ _ _; with_reducible first | refine ok_neR ?_ | refine ok_eqR ?_ | refine ok_isB ?_ | refine ok_notB ?_ | refine ok_plusI ?_ | refine ok_sub ?_ | refine ok_lt ?_ | refine ok_le ?_ | refine ok_gt ?_ | refine ok_ge ?_ | refine ok_eqI ?_ | refine ok_neI ?_ | refine ok_mod (by first | assumption | decide | omega) ?_ | refine ok_ixL (by with_unfolding_all exact rfl) ?_)
  | (with_reducible show CbK _ _ _ _; with_reducible first | refine ck_tuple ?_ | refine ck_allF ?_ | refine ck_anyF ?_ | refine ck_abs ?_ | refine ck_sumI ?_ | refine ck_lenL ?_ | refine ck_lenT ?_ | refine ck_int ?_ | refine ck_intB ?_ | refine ck_max ?_ | refine ck_min ?_ | refine ck_list ?_)
  | with_reducible refine wq_of ?_
  | (with_reducible show WG _ _ _ _ _; with_reducible first | refine wg_name (by with_unfolding_all exact rfl) ?_ | refine wg_tup (by with_unfolding_all exact rfl) ?_ | refine wg_set (by with_unfolding_all exact rfl) ?_)
  | (with_reducible show WGs _ _ _ _ _; with_reducible first | refine wgs_cons ?_ | refine wgs_nil ?_)
  | (with_reducible show WO _ _ _; with_reducible first | refine wo_some ?_ | refine wo_none ?_)
  | refine ⟨_, argD5, ?_⟩
  | refine ⟨_, argD6, ?_⟩
  | refine ⟨_, argD7, ?_⟩
  | refine ⟨_, argD9, ?_⟩
  | with_reducible refine iteT ?_
  | with_reducible refine iteF ?_
  | with_reducible refine ⟨_, frz_per, ?_⟩
  | with_reducible refine ⟨_, frz_own, ?_⟩
  | refine ⟨_, rfl, ?_⟩
  | refine ⟨_, argD1, ?_⟩
  | refine ⟨_, argD2, ?_⟩
  | refine ⟨_, argD0, ?_⟩
  | refine ⟨_, argD3, ?_⟩
  | refine ⟨_, argD4, ?_⟩
  | refine ⟨_, _, rfl, rfl, rfl, ?_⟩
  | refine ⟨_, _, _, rfl, rfl, rfl, ?_⟩
  | refine ⟨(by simp only [List.length_cons, List.length_nil]; decide), ?_⟩
  | refine ⟨rfl, nd1, ?_⟩
  | refine ⟨rfl, nd0, ?_⟩
  | refine ⟨_, argD8, ?_⟩
  | refine ⟨_, argD10, ?_⟩)
local macro_rules | `(tactic| walk_at "v") => `(tactic| first
  | (with_reducible show WE _ _ _; with_reducible first | refine we_var (by with_unfolding_all exact rfl) ?_ | refine we_varF (by with_unfolding_all exact rfl) frz_own ?_ | (show WE (tOp _ _ _) _ _; first | refine we_isNd ?_ | refine we_notNd ?_ | refine we_notN ?_ | refine we_ixS (by with_unfolding_all exact rfl) ?_ | refine we_ixScr (by with_unfolding_all exact rfl) ?_ | refine we_inS (by with_unfolding_all exact rfl) ?_ | refine we_notInS (by with_unfolding_all exact rfl) ?_ | refine we_eqS (by with_unfolding_all exact rfl) ?_ | refine we_neS (by with_unfolding_all exact rfl) ?_ | refine we_opK ?_) | (show WE (tCB _ _) _ _; first | refine we_repr ?_ | refine we_lenWeb (by with_unfolding_all exact rfl) (by assumption) ?_ | refine we_isInt ?_ | refine we_isBl ?_ | refine we_isLst ?_ | refine we_isTup ?_ | refine we_lenO (by with_unfolding_all exact rfl) ?_ | refine we_lenS' (by with_unfolding_all exact rfl) ?_ | refine we_lenScr (by with_unfolding_all exact rfl) ?_ | refine we_cbK ?_) | refine we_dnew ?_ | refine we_lenSetI ?_ | refine we_revL ?_ | refine we_nbWeb (by with_unfolding_all exact rfl) (by assumption) (by assumption) ?_ | refine we_tiesWeb (by with_unfolding_all exact rfl) ?_ | refine we_chain ?_ | refine we_slice ?_ | refine we_int ?_ | refine we_bl ?_ | refine we_non ?_ | refine we_str ?_ | refine we_neg ?_ | refine we_not ?_ | refine we_and ?_ | refine we_or ?_ | refine we_if ?_ | refine we_tup ?_ | refine we_lst ?_ | refine we_call ?_ | refine we_mt (by with_unfolding_all exact rfl) ?_)
  | (with_reducible show WS _ _ _ _; with_reducible first | refine ws_seqI ?_ | refine ws_seqA ?_ | refine ws_seqD ?_ | refine ws_asg (by with_unfolding_all exact rfl) ?_ | refine ws_asgG ?_ | refine ws_if ?_ | refine ws_ret ?_ | refine ws_drop ?_ | refine ws_next ?_ | refine ws_retN ?_)
  | (with_reducible show WT _ _ _; with_reducible first | refine wt_truL ?_ | refine wt_test ?_ | refine wt_B ?_ | refine wt_not ?_ | refine wt_and ?_ | refine wt_or ?_ | refine wt_yes ?_)
  | (with_reducible show WA _ _ _; with_reducible first | refine wa_nil ?_ | refine wa_cons (wq_of (we_var (by with_unfolding_all exact rfl) ?_)) | refine wa_slotU (by with_unfolding_all exact rfl) ?_ | refine wa_cons ?_)
  | (with_reducible show OpK _ _ _ _ _; with_reducible first | refine ok_neR ?_ | refine ok_eqR ?_ | refine ok_isB ?_ | refine ok_notB ?_ | refine ok_plusI ?_ | refine ok_sub ?_ | refine ok_lt ?_ | refine ok_le ?_ | refine ok_gt ?_ | refine ok_ge ?_ | refine ok_eqI ?_ | refine ok_neI ?_ | refine ok_mod (by first | assumption | decide | omega) ?_ | refine ok_ixL (by with_unfolding_all exact rfl) ?_)
  | (with_reducible show CbK _ _ _ _; with_reducible first | refine ck_tuple ?_ | refine ck_allF ?_ | refine ck_anyF ?_ | refine ck_abs ?_ | refine ck_sumI ?_ | refine ck_lenL ?_ | refine ck_lenT ?_ | refine ck_int ?_ | refine ck_intB ?_ | refine ck_max ?_ | refine ck_min ?_ | refine ck_list ?_)
  | with_reducible refine wq_of ?_
  | (with_reducible show WG _ _ _ _ _; with_reducible first | refine wg_name (by with_unfolding_all exact rfl) ?_ | refine wg_tup (by with_unfolding_all exact rfl) ?_ | refine wg_set (by with_unfolding_all exact rfl) ?_)
  | (with_reducible show WGs _ _ _ _ _; with_reducible first | refine wgs_cons ?_ | refine wgs_nil ?_)
  | (with_reducible show WO _ _ _; with_reducible first | refine wo_some ?_ | refine wo_none ?_)
  | refine ⟨_, argD5, ?_⟩
  | refine ⟨_, argD6, ?_⟩
  | refine ⟨_, argD7, ?_⟩
  | refine ⟨_, argD9, ?_⟩
  | with_reducible refine iteT ?_
  | with_reducible refine iteF ?_
  | with_reducible refine ⟨_, frz_per, ?_⟩
  | with_reducible refine ⟨_, frz_own, ?_⟩
  | refine ⟨_, rfl, ?_⟩
  | refine ⟨_, argD1, ?_⟩
  | refine ⟨_, argD2, ?_⟩
  | refine ⟨_, argD0, ?_⟩
  | refine ⟨_, argD3, ?_⟩
  | refine ⟨_, argD4, ?_⟩
  | refine ⟨_, _, rfl, rfl, rfl, ?_⟩
  | refine ⟨_, _, _, rfl, rfl, rfl, ?_⟩
  | refine ⟨(by simp only [List.length_cons, List.length_nil]; decide), ?_⟩
  | refine ⟨rfl, nd1, ?_⟩
  | refine ⟨rfl, nd0, ?_⟩
  | refine ⟨_, argD8, ?_⟩
  | refine ⟨_, argD10, ?_⟩)
local macro_rules | `(tactic| walk_at "p") => `(tactic| refine ⟨_, _, rfl, (by omega), (by first | decide | omega), (by first | decide | omega), ?_⟩)
local macro_rules | `(tactic| walk_at "n") => `(tactic| try dsimp only [back, List.set_cons_zero, List.set_cons_succ, List.map_cons, List.map_nil, List.cons_append, List.nil_append])
local macro_rules | `(tactic| walk_at "q") => `(tactic| first | with_reducible refine ws_seqP (ws_par (by with_unfolding_all exact rfl) (by with_unfolding_all exact rfl) ?_) | refine ⟨_, _, rfl, ?_⟩ | walk_at "v")
abbrev t_read_web_0 (K : PySem.W.Frag) (a : Ad) (E : XK) : TS :=
  (tSeq (tIfS (tTest (tOp (rNeD K) (tVar 4) (tCB (rSortA K) (tCons (tVar 4) tNil)))) (tRaise E (.ref (He.ga K "InvalidText"))) tNext)
    (tRet (tMake a.C_Web (sp_Web_init_ K a) [] E0 (tCons (tOp (rIx K) (tVar 3) (tC (.int 0))) (tCons (tVar 4) tNil)))))
abbrev t_read_web_1 (K : PySem.W.Frag) (a : Ad) (E : XK) : TS :=
  (tSeq (tIfS (tOr (tTest (tOp (rIsN0) (tVar 3) (tC .non))) (tTest (tOp (rInD K) (tC .non) (tVar 4)))) (tRaise E (.ref (He.ga K "InvalidText"))) tNext)
    (t_read_web_0 K a E))
abbrev t_read_web_2 (K : PySem.W.Frag) (a : Ad) (E : XK) : TS :=
  (tSeq (tAsg (tCall (sp_integers_of K) [] E0 (tCons (tLst (tCons (tVar 1) tNil)) tNil)) (gName 3))
    (tSeq (tAsg (tLc (iList K (tVar 2)) (gName 6) tYes (tCall (sp_tie_of_word K) [] E0 (tCons (tVar 6) tNil)) [6]) (gName 4))
    (t_read_web_1 K a E)))
abbrev t_read_web_3 (K : PySem.W.Frag) (a : Ad) (E : XK) : TS :=
  (tSeq (tIfS (tNot (tB (tCB (rIsiA K) (tCons (tVar 0) (tCons (tC (.ty "str")) tNil))))) (tRaise E (.ref (He.ga K "InvalidText"))) tNext)
    (tSeq (tAsg (tM1 rSplitS (tVar 0) (tC (.str " "))) (GST.gStar K 1 2))
    (t_read_web_2 K a E)))
def t_read_web (K : PySem.W.Frag) (a : Ad) (E : XK) : TS :=
  (t_read_web_3 K a E)
abbrev N_read_web : List Str := ["text", "first", "others", "places", "ties", "error", "word"]
abbrev F_read_web (a : Ad) : Fw := fun gs kk xx => ∃ (n : Nat) (ts : List (Int × Int)), gs = [dat (.str (webS n ts))] ∧ n ≤ 40 ∧ Valid n ts ∧ ts.Pairwise LexLt ∧ ts.length ≤ 1000 ∧ kk (insG a.C_Web (webF n ts)) [none]
abbrev sp_read_web (K : PySem.W.Frag) (a : Ad) : Sp := SpG 1 (F_read_web a)
theorem pure_read_web {K : PySem.W.Frag} {a : Ad} (c : Clf K a) {vs : List V} {H : Hp} {Q : VK} {E : XK} (h : sp_read_web K a vs H Q E) : t_read_web K a E { nx := fun _ H' => Q .non H', rt := Q } (start N_read_web vs) H := by
  refine body_okX (fun _ => false) ?_ h
  rintro gs kk xx ⟨n, ts, rfl, hn, hv, hs, hl, hk⟩ -
  have hsm : Small ts := fun t ht => by have := hv t ht; omega
  have hwl := webS_len (by omega : n ≤ 60) hsm
  have hnd : ts.Nodup := hs.imp fun h e => by subst e; rcases h with h | h <;> omega
  unfold t_read_web
  show WSX _ _ _ [some (dat (.str (webS n ts))), none, none, none, none, none, none] _ _
  refine wsx_of ?_
  refine ws_seqI (ws_if (wt_not (wt_B (wq_of (we_isi (wq_of (we_var rfl ⟨_, frz_per, .str (webS n ts), rfl, "str", true, rfl, by decide +kernel, _, frz_per, _, rfl, iteF (ws_next ?_)⟩)))))))
  refine ws_seq (ws_asgG (wq_of (we_split (wq_of (we_var rfl ⟨_, frz_per, _, rfl, wq_of (we_str ⟨_, frz_per, " ", rfl, by decide +kernel, by omega, ?_⟩)⟩)))))
  rw [split_web (by omega) hsm]
  refine ⟨_, frz_own, wg_star rfl rfl (by simp; omega) ?_⟩
  walk_at "n"
  show WS _ _ [some (dat (.str (webS n ts))), some (dat (.str (tS n))), some (dat (.list ((ts.map tieS).map .str))), none, none, none, none] _
  have wn := wd (by omega : n ≤ 60)
  refine ws_seq (ws_asg rfl (we_call (wa_cons (wq_of (we_lst (wa_cons (wq_of (we_var rfl ⟨_, frz_per, wa_nil ⟨[.str (tS n)], argD1, by simp, _, frz_own, ?_⟩⟩))))))))
  refine wa_nil ⟨rfl, nd0, [tS n], rfl, fun x hx => ?_, by simp, .inl ⟨?_, [(n : Int)], ?_, ?_⟩⟩
  · rw [List.mem_singleton.mp hx]
    have := wn.len
    omega
  · show (intW (tS n) && true) = true
    rw [wn.w]
    rfl
  · show [intText? (tS n)] = [some (n : Int)]
    rw [wn.int]
  walk_at "n"
  refine ws_frz (i := 3) rfl frz_own ?_
  walk_at "n"
  refine ws_seq (ws_asg rfl (we_lcM .str tieD (fun w => ((intText? ((Txt.split w "-").headD "")).getD 0, (intText? ((Txt.split w "-").getD 1 "")).getD 0)) (wil_list (wq_of (we_var rfl ⟨_, frz_per, _, rfl, ts.map tieS, rfl, rfl, by rw [List.length_map]; omega, fun w hw => ?_, ?_⟩)))))
  · obtain ⟨t, ht, rfl⟩ := List.mem_map.mp hw
    have hst := hsm t ht
    obtain ⟨w1, e1⟩ := wdI hst.1
    obtain ⟨w2, e2⟩ := wdI hst.2
    have i1 : intText? (tS t.1) = some t.1 := by have := w1.int; rwa [e1, Int.toNat_of_nonneg hst.1.1] at this
    have i2 : intText? (tS t.2) = some t.2 := by have := w2.int; rwa [e2, Int.toNat_of_nonneg hst.2.1] at this
    have h5 := tieS_len hst
    refine wg_name rfl ?_
    walk_at "n"
    refine wq_of (we_call (wa_cons (wq_of (we_var rfl ⟨_, frz_per, wa_nil ⟨rfl, nd0, tieS t, rfl, by omega, .inl ?_⟩⟩))))
    rw [split_tie hst]
    refine ⟨?_, [t.1, t.2], ?_, ?_⟩
    · show (intW (tS t.1) && (intW (tS t.2) && true)) = true
      rw [← e1, ← e2, w1.w, w2.w]
      rfl
    · show [intText? (tS t.1), intText? (tS t.2)] = [some t.1, some t.2]
      rw [i1, i2]
    · refine ⟨_, frz_per, ?_, rfl⟩
      show dP (.tuple [.int t.1, .int t.2]) = dP (.tuple [.int ((intText? (tS t.1)).getD 0), .int ((intText? (tS t.2)).getD 0)])
      rw [i1, i2]
      rfl
  have ets : (ts.map tieS).map (fun w => ((intText? ((Txt.split w "-").headD "")).getD 0, (intText? ((Txt.split w "-").getD 1 "")).getD 0)) = ts := by
    rw [List.map_map]
    refine (List.map_congr_left fun t ht => ?_).trans (List.map_id ts)
    have hst := hsm t ht
    obtain ⟨w1, e1⟩ := wdI hst.1
    obtain ⟨w2, e2⟩ := wdI hst.2
    have i1 : intText? (tS t.1) = some t.1 := by have := w1.int; rwa [e1, Int.toNat_of_nonneg hst.1.1] at this
    have i2 : intText? (tS t.2) = some t.2 := by have := w2.int; rwa [e2, Int.toNat_of_nonneg hst.2.1] at this
    show ((intText? ((Txt.split (tieS t) "-").headD "")).getD 0, (intText? ((Txt.split (tieS t) "-").getD 1 "")).getD 0) = t
    rw [split_tie hst]
    show ((intText? (tS t.1)).getD 0, (intText? (tS t.2)).getD 0) = t
    rw [i1, i2]
    rfl
  rw [ets]
  walk_at "n"
  refine ws_frz (i := 4) rfl frz_own ?_
  walk_at "n"
  show WS _ _ [some (dat (.str (webS n ts))), some (dat (.str (tS n))), some (dat (.list ((ts.map tieS).map .str))), some (dat (.list [.int n])), some (dat (.list (ts.map tieD))), none, none] _
  refine ws_seqI (ws_if (wt_or (wt_test (wq_of (we_isNd (wq_of (we_var rfl ⟨_, frz_per, _, rfl, _, frz_per, _, rfl, iteF ?_⟩)))))))
  refine wt_test (wq_of (we_opK (wq_of (we_non ⟨_, frz_per, _, rfl, wq_of (we_var rfl ⟨_, frz_per, _, rfl, ?_⟩)⟩))))
  refine ok_in lay_none.shaped lay_ties.shaped ?_
  rw [show ((ts.map tieD).any fun z => PyData.eqv z .none) = false from by
    rw [List.any_map, List.any_eq_false]
    intro t _ h
    simp [tieD, PyData.eqv] at h]
  refine ⟨_, frz_per, _, rfl, iteF (ws_next ?_)⟩
  refine ws_seqI (ws_if (wt_test (wq_of (we_opK (wq_of (we_var rfl ⟨_, frz_per, _, rfl, wq_of (we_cbK (wa_cons (wq_of (we_var rfl ⟨_, frz_per, wa_nil ⟨_, argD1, ck_sortP fun ts' hp' hs' => ?_⟩⟩))))⟩))))))
  rw [lex_uniq hs' (lt_le hs) hp']
  refine ⟨_, frz_own, _, rfl, ?_⟩
  refine ok_neE enc_tie.lst (x := ts) (y := ts) ⟨_, frz_per, _, rfl, ?_⟩
  refine ite_ndec (fun h => absurd rfl h) fun _ => ws_next ?_
  refine ws_ret (we_makeWebW ?_)
  repeat walk_at "v"
  refine ⟨n, ts, rfl, hn, hv, hnd, fun us hp' hs' => ?_⟩
  rw [lex_uniq hs' (lt_le hs) hp']
  exact ⟨_, _, Ent.refl, les_none les_nil, hk⟩
end G

namespace G
open PySem L2
local macro_rules | `(tactic| walk_at "g1") => `(tactic| first
  | (with_reducible show WE _ _ _; with_reducible first | refine we_var (by with_unfolding_all exact rfl) ?_ | (show WE (tOp _ _ _) _ _; first | refine we_ixS (by with_unfolding_all exact rfl) ?_ | refine we_ixScr (by with_unfolding_all exact rfl) ?_ | refine we_inS (by with_unfolding_all exact rfl) ?_ | refine we_notInS (by with_unfolding_all exact rfl) ?_ | refine we_eqS (by with_unfolding_all exact rfl) ?_ | refine we_neS (by with_unfolding_all exact rfl) ?_ | refine we_opK ?_) | (show WE (tCB _ _) _ _; first | refine we_lenS' (by with_unfolding_all exact rfl) ?_ | refine we_lenScr (by with_unfolding_all exact rfl) ?_ | refine we_cbK ?_) | refine we_int ?_ | refine we_bl ?_ | refine we_non ?_ | refine we_str ?_ | refine we_neg ?_ | refine we_not ?_ | refine we_and ?_ | refine we_or ?_ | refine we_if ?_ | refine we_tup ?_ | refine we_lst ?_ | refine we_call ?_ | refine we_mt (by with_unfolding_all exact rfl) ?_)
  | (with_reducible show WS _ _ _ _; with_reducible first | refine ws_seqA ?_ | refine ws_seqD ?_ | refine ws_asg (by with_unfolding_all exact rfl) ?_ | refine ws_asgG ?_ | refine ws_if ?_ | refine ws_ret ?_ | refine ws_drop ?_ | refine ws_next ?_ | refine ws_retN ?_)
  | (with_reducible show WT _ _ _; with_reducible first | refine wt_test ?_ | refine wt_B ?_ | refine wt_not ?_ | refine wt_and ?_ | refine wt_or ?_ | refine wt_yes ?_)
  | (with_reducible show WA _ _ _; with_reducible first | refine wa_nil ?_ | refine wa_cons (wq_of (we_var (by with_unfolding_all exact rfl) ?_)) | refine wa_slotU (by with_unfolding_all exact rfl) ?_ | refine wa_cons ?_)
  | (with_reducible show OpK _ _ _ _ _; with_reducible first | refine ok_plusI ?_ | refine ok_sub ?_ | refine ok_lt ?_ | refine ok_le ?_ | refine ok_gt ?_ | refine ok_ge ?_ | refine ok_eqI ?_ | refine ok_neI ?_ | refine ok_mod (by first | assumption | decide | omega) ?_ | refine ok_ixL (by with_unfolding_all exact rfl) ?_)
  | (with_reducible show CbK _ _ _ _; with_reducible first | refine ck_lenL ?_ | refine ck_lenT ?_ | refine ck_int ?_ | refine ck_intB ?_ | refine ck_max ?_ | refine ck_min ?_ | refine ck_list ?_)
  | with_reducible refine wq_of ?_
  | (with_reducible show WG _ _ _ _ _; with_reducible first | refine wg_name (by with_unfolding_all exact rfl) ?_ | refine wg_tup (by with_unfolding_all exact rfl) ?_ | refine wg_set (by with_unfolding_all exact rfl) ?_)
  | (with_reducible show WGs _ _ _ _ _; with_reducible first | refine wgs_cons ?_ | refine wgs_nil ?_)
  | with_reducible refine iteT ?_
  | with_reducible refine iteF ?_
  | with_reducible refine ⟨_, frz_per, ?_⟩
  | with_reducible refine ⟨_, frz_own, ?_⟩
  | refine ⟨_, rfl, ?_⟩
  | refine ⟨_, argD1, ?_⟩
  | refine ⟨_, argD2, ?_⟩
  | refine ⟨_, argD0, ?_⟩
  | refine ⟨_, argD3, ?_⟩
  | refine ⟨_, argD4, ?_⟩
  | refine ⟨_, _, rfl, rfl, rfl, ?_⟩
  | refine ⟨_, _, _, rfl, rfl, rfl, ?_⟩
  | refine ⟨(by simp only [List.length_cons, List.length_nil]; decide), ?_⟩
  | refine ⟨rfl, nd1, ?_⟩
  | refine ⟨rfl, nd0, ?_⟩)
local macro_rules | `(tactic| walk_at "go") => `(tactic| repeat walk_at "g1")
local macro_rules | `(tactic| walk_at "g2") => `(tactic| first
  | (with_reducible show WE _ _ _; with_reducible first | refine we_var (by with_unfolding_all exact rfl) ?_ | (show WE (tOp _ _ _) _ _; first | refine we_notN ?_ | refine we_ixS (by with_unfolding_all exact rfl) ?_ | refine we_ixScr (by with_unfolding_all exact rfl) ?_ | refine we_inS (by with_unfolding_all exact rfl) ?_ | refine we_notInS (by with_unfolding_all exact rfl) ?_ | refine we_eqS (by with_unfolding_all exact rfl) ?_ | refine we_neS (by with_unfolding_all exact rfl) ?_ | refine we_opK ?_) | (show WE (tCB _ _) _ _; first | refine we_isInt ?_ | refine we_isBl ?_ | refine we_isLst ?_ | refine we_isTup ?_ | refine we_lenO (by with_unfolding_all exact rfl) ?_ | refine we_lenS' (by with_unfolding_all exact rfl) ?_ | refine we_lenScr (by with_unfolding_all exact rfl) ?_ | refine we_cbK ?_) | refine we_chain ?_ | refine we_slice ?_ | refine we_int ?_ | refine we_bl ?_ | refine we_non ?_ | refine we_str ?_ | refine we_neg ?_ | refine we_not ?_ | refine we_and ?_ | refine we_or ?_ | refine we_if ?_ | refine we_tup ?_ | refine we_lst ?_ | refine we_call ?_ | refine we_mt (by with_unfolding_all exact rfl) ?_)
  | (with_reducible show WS _ _ _ _; with_reducible first | refine ws_seqA ?_ | refine ws_seqD ?_ | refine ws_asg (by with_unfolding_all exact rfl) ?_ | refine ws_asgG ?_ | refine ws_if ?_ | refine ws_ret ?_ | refine ws_drop ?_ | refine ws_next ?_ | refine ws_retN ?_)
  | (with_reducible show WT _ _ _; with_reducible first | refine wt_test ?_ | refine wt_B ?_ | refine wt_not ?_ | refine wt_and ?_ | refine wt_or ?_ | refine wt_yes ?_)
  | (with_reducible show WA _ _ _; with_reducible first | refine wa_nil ?_ | refine wa_cons (wq_of (we_var (by with_unfolding_all exact rfl) ?_)) | refine wa_slotU (by with_unfolding_all exact rfl) ?_ | refine wa_cons ?_)
  | (with_reducible show OpK _ _ _ _ _; with_reducible first | refine ok_isB ?_ | refine ok_notB ?_ | refine ok_plusI ?_ | refine ok_sub ?_ | refine ok_lt ?_ | refine ok_le ?_ | refine ok_gt ?_ | refine ok_ge ?_ | refine ok_eqI ?_ | refine ok_neI ?_ | refine ok_mod (by first | assumption | decide | omega) ?_ | refine ok_ixL (by with_unfolding_all exact rfl) ?_)
  | (with_reducible show CbK _ _ _ _; with_reducible first | refine ck_lenL ?_ | refine ck_lenT ?_ | refine ck_int ?_ | refine ck_intB ?_ | refine ck_max ?_ | refine ck_min ?_ | refine ck_list ?_)
  | with_reducible refine wq_of ?_
  | (with_reducible show WG _ _ _ _ _; with_reducible first | refine wg_name (by with_unfolding_all exact rfl) ?_ | refine wg_tup (by with_unfolding_all exact rfl) ?_ | refine wg_set (by with_unfolding_all exact rfl) ?_)
  | (with_reducible show WGs _ _ _ _ _; with_reducible first | refine wgs_cons ?_ | refine wgs_nil ?_)
  | (with_reducible show WO _ _ _; with_reducible first | refine wo_some ?_ | refine wo_none ?_)
  | refine ⟨_, argD5, ?_⟩
  | refine ⟨_, argD6, ?_⟩
  | refine ⟨_, argD7, ?_⟩
  | refine ⟨_, argD9, ?_⟩
  | with_reducible refine iteT ?_
  | with_reducible refine iteF ?_
  | with_reducible refine ⟨_, frz_per, ?_⟩
  | with_reducible refine ⟨_, frz_own, ?_⟩
  | refine ⟨_, rfl, ?_⟩
  | refine ⟨_, argD1, ?_⟩
  | refine ⟨_, argD2, ?_⟩
  | refine ⟨_, argD0, ?_⟩
  | refine ⟨_, argD3, ?_⟩
  | refine ⟨_, argD4, ?_⟩
  | refine ⟨_, _, rfl, rfl, rfl, ?_⟩
  | refine ⟨_, _, _, rfl, rfl, rfl, ?_⟩
  | refine ⟨(by simp only [List.length_cons, List.length_nil]; decide), ?_⟩
  | refine ⟨rfl, nd1, ?_⟩
  | refine ⟨rfl, nd0, ?_⟩)
abbrev t_law_dense_0 (K : PySem.W.Frag) : TS :=
  (tDrop (tBM K "list" (rExtend) (tVar 3) (tCons (tLc (iRng2 (tCons (tOp (rPlus K) (tVar 4) (tC (.int 1))) (tCons (tVar 1) tNil))) (gName 6) (tOr (tTest (tOp (rNotInD K) (tVar 4) (tVar 2))) (tTest (tOp (rNotInD K) (tVar 6) (tVar 2)))) (tTup (tCons (tVar 4) (tCons (tVar 6) tNil))) [6]) tNil)))
abbrev t_law_dense_1 (K : PySem.W.Frag) : TS :=
  (tSeq (tAsg (tLst tNil) (gName 3))
    (tSeq (tFor (iRng1 (tCons (tVar 1) tNil)) (gName 4) (t_law_dense_0 K))
    (tRet (tTup (tCons (tVar 1) (tCons (tVar 3) tNil))))))
abbrev t_law_dense_2 (K : PySem.W.Frag) : TS :=
  (tSeq (tAsg (tLc (iRng1 (tCons (tC (.int 6)) tNil)) (gName 5) tYes (tCall (sp_law_pick K) [] E0 (tCons (tVar 0) (tCons (tVar 1) tNil))) [5]) (gName 2))
    (t_law_dense_1 K))
abbrev t_law_dense_3 (K : PySem.W.Frag) : TS :=
  (tSeq (tAsg (tOp (rPlus K) (tC (.int 11)) (tCall (sp_law_pick K) [] E0 (tCons (tVar 0) (tCons (tC (.int 14)) tNil)))) (gName 1))
    (t_law_dense_2 K))
def t_law_dense (K : PySem.W.Frag) : TS :=
  (t_law_dense_3 K)
abbrev N_law_dense : List Str := ["urn", "places", "gone", "ties", "u", "k", "v"]
abbrev F_law_dense : Fw := fun gs kk xx => ∃ m, gs = [urn m] ∧ 10 ≤ m ∧ ∀ p ts, 11 ≤ p → p ≤ 40 → Ties p ts → kk (dat (.tuple [.int p, .list (ts.map tieD)])) [some (urn (m - 10))]
abbrev sp_law_dense (K : PySem.W.Frag) : Sp := SpG 1 F_law_dense
theorem pure_law_dense {K : PySem.W.Frag} {vs : List V} {H : Hp} {Q : VK} {E : XK} (h : sp_law_dense K vs H Q E) : t_law_dense K { nx := fun _ H' => Q .non H', rt := Q } (L2.start N_law_dense vs) H := by
  refine body_ok (fun i => i == 0) ?_ h
  rintro gs kk xx ⟨m, rfl, hm, hk⟩ -
  unfold t_law_dense
  walk_at "go"
  refine ⟨_, _, rfl, by omega, by omega, by omega, fun q q0 q1 => ?_⟩
  walk_at "go"
  refine we_lc (fun j acc Γ => ∃ (m1 : Nat) (gs : List Int), Γ = [some (urn m1), some (dat (.int (11 + q))), none, none, none, none, none] ∧ acc = gs.map .int ∧ gs.length ≤ j ∧ m ≤ m1 + 1 + j) ?_
  refine wi_range1 ?_
  walk_at "go"
  refine ⟨by omega, by omega, ⟨_, [], rfl, rfl, Nat.le_refl _, by omega⟩, ?_, ?_⟩
  · rintro acc _ ⟨m1, gs, rfl, rfl, h1, h2⟩
    walk_at "go"
    refine ws_seq ?_
    refine ws_for (fun i Γ => ∃ (ts : List (Int × Int)) (o4 o6 : Option Gp), Γ = [some (urn m1), some (dat (.int (11 + q))), some (own (gs.map .int)), some (own (ts.map tieD)), o4, none, o6] ∧ ts.Pairwise LexLt ∧ (∀ t ∈ ts, 0 ≤ t.1 ∧ t.1 < t.2 ∧ t.2 < 11 + q ∧ t.1 < i) ∧ ts.length ≤ 40 * i) ?_
    refine wi_range1 ?_
    walk_at "go"
    refine ⟨by omega, by omega, ⟨[], _, _, rfl, by simp, by simp, by simp⟩, ?_, ?_⟩
    · rintro _ ⟨ts, q4, q6, rfl, h3, h4, h5⟩
      walk_at "go"
      refine we_varF rfl frz_own ?_
      walk_at "go"
      exact ⟨_, _, Ent.refl, les_some (urn_le (by omega)) les_nil, hk _ ts (by omega) (by omega) ⟨h3, fun t ht => by
        obtain ⟨a, b, c, _⟩ := h4 t ht
        exact ⟨a, b, c⟩⟩⟩
    · rintro i _ hi ⟨ts, q4, q6, rfl, h3, h4, h5⟩
      walk_at "go"
      refine we_lc (fun j acc Γ => ∃ (us : List Int), Γ = [some (urn m1), some (dat (.int (11 + q))), some (own (gs.map .int)), some (own (ts.map tieD)), some (dat (.int (0 + (i : Int)))), none, (if j = 0 then q6 else none)] ∧ acc = (us.map fun u => ((0 + (i : Int)), u)).map tieD ∧ us.Pairwise (· < ·) ∧ (∀ u ∈ us, i < u ∧ u < i + 1 + j) ∧ us.length ≤ j) ?_
      refine wi_range2 ?_
      walk_at "go"
      refine ⟨_, _, rfl, by omega, ⟨[], rfl, rfl, by simp, by simp, Nat.le_refl _⟩, ?_, ?_⟩
      · rintro acc _ ⟨us, rfl, rfl, h6, h7, h8⟩
        walk_at "go"
        refine ⟨_, _, _, _, rfl, argD1, mo_extend (by simp only [List.length_map]; omega), ?_⟩
        refine ⟨ts ++ us.map fun u => ((0 + (i : Int)), u), _, _, by rw [List.map_append]; rfl, ?_, ?_, by simp; omega⟩
        · refine List.pairwise_append.mpr ⟨h3, List.pairwise_map.mpr (h6.imp fun {a b} h => .inr ⟨rfl, h⟩), fun a ha b hb => ?_⟩
          obtain ⟨u, hu, e⟩ := List.mem_map.mp hb
          rw [← e]
          have := (h4 a ha).2.2.2
          exact .inl (by simp only; omega)
        · intro t ht
          rcases List.mem_append.mp ht with ht | ht
          · obtain ⟨a, b, c, d⟩ := h4 t ht
            exact ⟨a, b, c, by omega⟩
          · obtain ⟨u, hu, e⟩ := List.mem_map.mp ht
            obtain ⟨u0, u1⟩ := h7 u hu
            rw [← e]
            exact ⟨by simp only; omega, by simp only; omega, by simp only; omega, by simp only; omega⟩
      · rintro j acc _ hj ⟨us, rfl, rfl, h6, h7, h8⟩ hlen
        walk_at "go"
        refine ⟨⟨shaped_int, lay_ints.shaped⟩, ?_⟩
        walk_at "go"
        refine ite_b (fun hb => ?_) (fun hb => ?_)
        · refine iteT ?_
          walk_at "go"
          refine ⟨by simp only [List.length_map]; omega, us ++ [0 + (i : Int) + 1 + (j : Int)], rfl, by simp [tieD], List.pairwise_append.mpr ⟨h6, by simp, fun a ha b hb => by
            rw [List.mem_singleton.mp hb]
            have := h7 a ha
            omega⟩, ?_, by simp; omega⟩
          intro u hu
          rcases List.mem_append.mp hu with hu | hu
          · have := h7 u hu
            omega
          · rw [List.mem_singleton.mp hu]
            omega
        · walk_at "go"
          refine ⟨⟨shaped_int, lay_ints.shaped⟩, ?_⟩
          walk_at "go"
          refine ite_b (fun hb => ?_) (fun hb => ?_)
          · walk_at "go"
            refine ⟨by simp only [List.length_map]; omega, us ++ [0 + (i : Int) + 1 + (j : Int)], rfl, by simp [tieD], List.pairwise_append.mpr ⟨h6, by simp, fun a ha b hb => by
              rw [List.mem_singleton.mp hb]
              have := h7 a ha
              omega⟩, ?_, by simp; omega⟩
            intro u hu
            rcases List.mem_append.mp hu with hu | hu
            · have := h7 u hu
              omega
            · rw [List.mem_singleton.mp hu]
              omega
          · refine ⟨us, rfl, rfl, h6, fun u hu => ?_, by omega⟩
            have := h7 u hu
            omega
  · rintro j acc _ hj ⟨m1, gs, rfl, rfl, h1, h2⟩ hlen
    walk_at "go"
    refine ⟨_, _, rfl, by omega, by omega, by omega, fun r r0 r1 => ?_⟩
    walk_at "go"
    refine ⟨by simp only [List.length_map]; omega, _, gs ++ [r], rfl, by simp, by simp; omega, by omega⟩
end G

namespace G
open PySem L2
local macro_rules | `(tactic| walk_at "g1") => `(tactic| first
  | (with_reducible show WE _ _ _; with_reducible first | refine we_var (by with_unfolding_all exact rfl) ?_ | (show WE (tOp _ _ _) _ _; first | refine we_ixS (by with_unfolding_all exact rfl) ?_ | refine we_ixScr (by with_unfolding_all exact rfl) ?_ | refine we_inS (by with_unfolding_all exact rfl) ?_ | refine we_notInS (by with_unfolding_all exact rfl) ?_ | refine we_eqS (by with_unfolding_all exact rfl) ?_ | refine we_neS (by with_unfolding_all exact rfl) ?_ | refine we_opK ?_) | (show WE (tCB _ _) _ _; first | refine we_lenS' (by with_unfolding_all exact rfl) ?_ | refine we_lenScr (by with_unfolding_all exact rfl) ?_ | refine we_cbK ?_) | refine we_int ?_ | refine we_bl ?_ | refine we_non ?_ | refine we_str ?_ | refine we_neg ?_ | refine we_not ?_ | refine we_and ?_ | refine we_or ?_ | refine we_if ?_ | refine we_tup ?_ | refine we_lst ?_ | refine we_call ?_ | refine we_mt (by with_unfolding_all exact rfl) ?_)
  | (with_reducible show WS _ _ _ _; with_reducible first | refine ws_seqA ?_ | refine ws_seqD ?_ | refine ws_asg (by with_unfolding_all exact rfl) ?_ | refine ws_asgG ?_ | refine ws_if ?_ | refine ws_ret ?_ | refine ws_drop ?_ | refine ws_next ?_ | refine ws_retN ?_)
  | (with_reducible show WT _ _ _; with_reducible first | refine wt_test ?_ | refine wt_B ?_ | refine wt_not ?_ | refine wt_and ?_ | refine wt_or ?_ | refine wt_yes ?_)
  | (with_reducible show WA _ _ _; with_reducible first | refine wa_nil ?_ | refine wa_cons (wq_of (we_var (by with_unfolding_all exact rfl) ?_)) | refine wa_slotU (by with_unfolding_all exact rfl) ?_ | refine wa_cons ?_)
  | (with_reducible show OpK _ _ _ _ _; with_reducible first | refine ok_plusI ?_ | refine ok_sub ?_ | refine ok_lt ?_ | refine ok_le ?_ | refine ok_gt ?_ | refine ok_ge ?_ | refine ok_eqI ?_ | refine ok_neI ?_ | refine ok_mod (by first | assumption | decide | omega) ?_ | refine ok_ixL (by with_unfolding_all exact rfl) ?_)
  | (with_reducible show CbK _ _ _ _; with_reducible first | refine ck_lenL ?_ | refine ck_lenT ?_ | refine ck_int ?_ | refine ck_intB ?_ | refine ck_max ?_ | refine ck_min ?_ | refine ck_list ?_)
  | with_reducible refine wq_of ?_
  | (with_reducible show WG _ _ _ _ _; with_reducible first | refine wg_name (by with_unfolding_all exact rfl) ?_ | refine wg_tup (by with_unfolding_all exact rfl) ?_ | refine wg_set (by with_unfolding_all exact rfl) ?_)
  | (with_reducible show WGs _ _ _ _ _; with_reducible first | refine wgs_cons ?_ | refine wgs_nil ?_)
  | with_reducible refine iteT ?_
  | with_reducible refine iteF ?_
  | with_reducible refine ⟨_, frz_per, ?_⟩
  | with_reducible refine ⟨_, frz_own, ?_⟩
  | refine ⟨_, rfl, ?_⟩
  | refine ⟨_, argD1, ?_⟩
  | refine ⟨_, argD2, ?_⟩
  | refine ⟨_, argD0, ?_⟩
  | refine ⟨_, argD3, ?_⟩
  | refine ⟨_, argD4, ?_⟩
  | refine ⟨_, _, rfl, rfl, rfl, ?_⟩
  | refine ⟨_, _, _, rfl, rfl, rfl, ?_⟩
  | refine ⟨(by simp only [List.length_cons, List.length_nil]; decide), ?_⟩
  | refine ⟨rfl, nd1, ?_⟩
  | refine ⟨rfl, nd0, ?_⟩)
local macro_rules | `(tactic| walk_at "go") => `(tactic| repeat walk_at "g1")
local macro_rules | `(tactic| walk_at "g2") => `(tactic| first
  | (with_reducible show WE _ _ _; with_reducible first | refine we_var (by with_unfolding_all exact rfl) ?_ | (show WE (tOp _ _ _) _ _; first | refine we_notN ?_ | refine we_ixS (by with_unfolding_all exact rfl) ?_ | refine we_ixScr (by with_unfolding_all exact rfl) ?_ | refine we_inS (by with_unfolding_all exact rfl) ?_ | refine we_notInS (by with_unfolding_all exact rfl) ?_ | refine we_eqS (by with_unfolding_all exact rfl) ?_ | refine we_neS (by with_unfolding_all exact rfl) ?_ | refine we_opK ?_) | (show WE (tCB _ _) _ _; first | refine we_isInt ?_ | refine we_isBl ?_ | refine we_isLst ?_ | refine we_isTup ?_ | refine we_lenO (by with_unfolding_all exact rfl) ?_ | refine we_lenS' (by with_unfolding_all exact rfl) ?_ | refine we_lenScr (by with_unfolding_all exact rfl) ?_ | refine we_cbK ?_) | refine we_chain ?_ | refine we_slice ?_ | refine we_int ?_ | refine we_bl ?_ | refine we_non ?_ | refine we_str ?_ | refine we_neg ?_ | refine we_not ?_ | refine we_and ?_ | refine we_or ?_ | refine we_if ?_ | refine we_tup ?_ | refine we_lst ?_ | refine we_call ?_ | refine we_mt (by with_unfolding_all exact rfl) ?_)
  | (with_reducible show WS _ _ _ _; with_reducible first | refine ws_seqA ?_ | refine ws_seqD ?_ | refine ws_asg (by with_unfolding_all exact rfl) ?_ | refine ws_asgG ?_ | refine ws_if ?_ | refine ws_ret ?_ | refine ws_drop ?_ | refine ws_next ?_ | refine ws_retN ?_)
  | (with_reducible show WT _ _ _; with_reducible first | refine wt_test ?_ | refine wt_B ?_ | refine wt_not ?_ | refine wt_and ?_ | refine wt_or ?_ | refine wt_yes ?_)
  | (with_reducible show WA _ _ _; with_reducible first | refine wa_nil ?_ | refine wa_cons (wq_of (we_var (by with_unfolding_all exact rfl) ?_)) | refine wa_slotU (by with_unfolding_all exact rfl) ?_ | refine wa_cons ?_)
  | (with_reducible show OpK _ _ _ _ _; with_reducible first | refine ok_isB ?_ | refine ok_notB ?_ | refine ok_plusI ?_ | refine ok_sub ?_ | refine ok_lt ?_ | refine ok_le ?_ | refine ok_gt ?_ | refine ok_ge ?_ | refine ok_eqI ?_ | refine ok_neI ?_ | refine ok_mod (by first | assumption | decide | omega) ?_ | refine ok_ixL (by with_unfolding_all exact rfl) ?_)
  | (with_reducible show CbK _ _ _ _; with_reducible first | refine ck_lenL ?_ | refine ck_lenT ?_ | refine ck_int ?_ | refine ck_intB ?_ | refine ck_max ?_ | refine ck_min ?_ | refine ck_list ?_)
  | with_reducible refine wq_of ?_
  | (with_reducible show WG _ _ _ _ _; with_reducible first | refine wg_name (by with_unfolding_all exact rfl) ?_ | refine wg_tup (by with_unfolding_all exact rfl) ?_ | refine wg_set (by with_unfolding_all exact rfl) ?_)
  | (with_reducible show WGs _ _ _ _ _; with_reducible first | refine wgs_cons ?_ | refine wgs_nil ?_)
  | (with_reducible show WO _ _ _; with_reducible first | refine wo_some ?_ | refine wo_none ?_)
  | refine ⟨_, argD5, ?_⟩
  | refine ⟨_, argD6, ?_⟩
  | refine ⟨_, argD7, ?_⟩
  | refine ⟨_, argD9, ?_⟩
  | with_reducible refine iteT ?_
  | with_reducible refine iteF ?_
  | with_reducible refine ⟨_, frz_per, ?_⟩
  | with_reducible refine ⟨_, frz_own, ?_⟩
  | refine ⟨_, rfl, ?_⟩
  | refine ⟨_, argD1, ?_⟩
  | refine ⟨_, argD2, ?_⟩
  | refine ⟨_, argD0, ?_⟩
  | refine ⟨_, argD3, ?_⟩
  | refine ⟨_, argD4, ?_⟩
  | refine ⟨_, _, rfl, rfl, rfl, ?_⟩
  | refine ⟨_, _, _, rfl, rfl, rfl, ?_⟩
  | refine ⟨(by simp only [List.length_cons, List.length_nil]; decide), ?_⟩
  | refine ⟨rfl, nd1, ?_⟩
  | refine ⟨rfl, nd0, ?_⟩)
/-! ### web == x -/
theorem near_rows {n : Nat} {ts : List (Int × Int)} (h : Valid n ts) : (nearL n ts).map PyData.list = (nearC n ts).map rowI := by
  rw [nearL_eq ts h]
  unfold rowsD
  rw [List.map_map]
  rfl
theorem webF_nearC {n : Nat} {ts : List (Int × Int)} (h : Valid n ts) : lookD "_near" (webF n ts) = some (.list ((nearC n ts).map rowI)) := by rw [webF_near, near_rows h]
def t_Web_eq_ (K : PySem.W.Frag) (a : Ad) : TS :=
  (tRet (tAndV (tCB (rIsiA K) (tCons (tVar 1) (tCons (tC (.ref a.C_Web)) tNil))) (tOp (rEqD K) (tFld K (tVar 0) "_near") (tFld K (tVar 1) "_near"))))
abbrev N_Web_eq_ : List Str := ["self", "other"]
abbrev F_Web_eq_ (a : Ad) : Fw := fun gs kk _ => ∃ n ts q, gs = [per (objP a.C_Web (webF n ts)), per q] ∧ Valid n ts ∧
  ((∃ m us, q = objP a.C_Web (webF m us) ∧ Valid m us ∧ kk (dat (.bool (decide (nearC n ts = nearC m us)))) [none, none]) ∨ ∃ d, q = dP d ∧ kk (dat (.bool false)) [none, none])
abbrev sp_Web_eq_ (K : PySem.W.Frag) (a : Ad) : Sp := SpG 2 (F_Web_eq_ a)
theorem pure_Web_eq_ {K : PySem.W.Frag} {a : Ad} (c : Clf K a) {vs : List V} {H : Hp} {Q : VK} {E : XK} (h : sp_Web_eq_ K a vs H Q E) : t_Web_eq_ K a { nx := fun _ H' => Q .non H', rt := Q } (L2.start N_Web_eq_ vs) H := by
  refine body_ok (fun _ => false) ?_ h
  rintro gs kk xx ⟨n, ts, q, rfl, hv, hq⟩ -
  unfold t_Web_eq_
  refine ws_ret (we_and (wq_of ?_))
  rcases hq with ⟨m, us, rfl, hu, hk⟩ | ⟨d, rfl, hk⟩
  · refine we_isOwn c.ins (wq_of (we_var rfl ⟨_, frz_per, _, rfl, true, c.oth.yes, _, frz_per, true, rfl, ?_⟩))
    refine iteT (we_opK (wq_of (we_fldP c.cl_Web c.nN rfl (webF_nearC hv) ⟨_, frz_per, _, rfl, wq_of (we_fldP c.cl_Web c.nN rfl (webF_nearC hu) ⟨_, frz_per, _, rfl, ?_⟩)⟩)))
    refine ok_eq lay_rowsI.shaped lay_rowsI.shaped ?_
    rw [eqv_rowsI]
    exact ⟨_, _, Ent.refl, les_none (les_none les_nil), hk⟩
  · refine we_isOwnD (wq_of (we_var rfl ⟨_, frz_per, _, rfl, false, fun n e => c.oth.no d n e, _, frz_per, false, rfl, ?_⟩))
    exact iteF ⟨_, _, Ent.refl, les_none (les_none les_nil), hk⟩
section
variable {K : PySem.W.Frag} {a : Ad} {Γ : Ga} {k : Gp → Ga → Prop} {ne : Bool} {i j : Nat} {n m : Nat} {ts us : List (Int × Int)} {E : XK}
theorem we_eqOO (c : Clf K a) (hi : Γ[i]? = some (some (per (objP a.C_Web (webF n ts))))) (hj : Γ[j]? = some (some (per (objP a.C_Web (webF m us))))) (ht : Valid n ts) (hu : Valid m us) (st : ts.Pairwise LexLt) (su : us.Pairwise LexLt)
    (hk : k (dat (.bool (xor ne (decide (n = m ∧ ts = us))))) Γ) : WE (tOp (rCmpOwn ne K a.C_Web (sp_Web_eq_ K a) E) (tVar i) (tVar j)) Γ k := by
  refine we_cmpOwn (wq_of (we_var hi ⟨_, frz_per, _, rfl, wq_of (we_var hj ⟨_, frz_per, rhs_obj c.oth.own, n, ts, _, rfl, ht, .inl ⟨m, us, rfl, hu, _, rfl, ?_⟩⟩)⟩))
  have e : decide (nearC n ts = nearC m us) = decide (n = m ∧ ts = us) := decide_eq_decide.mpr ⟨fun e => nearC_inj ht hu st su e, fun ⟨e1, e2⟩ => by subst e1 e2; rfl⟩
  rw [e]
  exact hk
end
end G

namespace G
open PySem L2
local macro_rules | `(tactic| walk_at "g1") => `(tactic| first
  | (with_reducible show WE _ _ _; with_reducible first | refine we_var (by with_unfolding_all exact rfl) ?_ | (show WE (tOp _ _ _) _ _; first | refine we_ixS (by with_unfolding_all exact rfl) ?_ | refine we_ixScr (by with_unfolding_all exact rfl) ?_ | refine we_inS (by with_unfolding_all exact rfl) ?_ | refine we_notInS (by with_unfolding_all exact rfl) ?_ | refine we_eqS (by with_unfolding_all exact rfl) ?_ | refine we_neS (by with_unfolding_all exact rfl) ?_ | refine we_opK ?_) | (show WE (tCB _ _) _ _; first | refine we_lenS' (by with_unfolding_all exact rfl) ?_ | refine we_lenScr (by with_unfolding_all exact rfl) ?_ | refine we_cbK ?_) | refine we_int ?_ | refine we_bl ?_ | refine we_non ?_ | refine we_str ?_ | refine we_neg ?_ | refine we_not ?_ | refine we_and ?_ | refine we_or ?_ | refine we_if ?_ | refine we_tup ?_ | refine we_lst ?_ | refine we_call ?_ | refine we_mt (by with_unfolding_all exact rfl) ?_)
  | (with_reducible show WS _ _ _ _; with_reducible first | refine ws_seqA ?_ | refine ws_seqD ?_ | refine ws_asg (by with_unfolding_all exact rfl) ?_ | refine ws_asgG ?_ | refine ws_if ?_ | refine ws_ret ?_ | refine ws_drop ?_ | refine ws_next ?_ | refine ws_retN ?_)
  | (with_reducible show WT _ _ _; with_reducible first | refine wt_test ?_ | refine wt_B ?_ | refine wt_not ?_ | refine wt_and ?_ | refine wt_or ?_ | refine wt_yes ?_)
  | (with_reducible show WA _ _ _; with_reducible first | refine wa_nil ?_ | refine wa_cons (wq_of (we_var (by with_unfolding_all exact rfl) ?_)) | refine wa_slotU (by with_unfolding_all exact rfl) ?_ | refine wa_cons ?_)
  | (with_reducible show OpK _ _ _ _ _; with_reducible first | refine ok_plusI ?_ | refine ok_sub ?_ | refine ok_lt ?_ | refine ok_le ?_ | refine ok_gt ?_ | refine ok_ge ?_ | refine ok_eqI ?_ | refine ok_neI ?_ | refine ok_mod (by first | assumption | decide | omega) ?_ | refine ok_ixL (by with_unfolding_all exact rfl) ?_)
  | (with_reducible show CbK _ _ _ _; with_reducible first | refine ck_lenL ?_ | refine ck_lenT ?_ | refine ck_int ?_ | refine ck_intB ?_ | refine ck_max ?_ | refine ck_min ?_ | refine ck_list ?_)
  | with_reducible refine wq_of ?_
  | (with_reducible show WG _ _ _ _ _; with_reducible first | refine wg_name (by with_unfolding_all exact rfl) ?_ | refine wg_tup (by with_unfolding_all exact rfl) ?_ | refine wg_set (by with_unfolding_all exact rfl) ?_)
  | (with_reducible show WGs _ _ _ _ _; with_reducible first | refine wgs_cons ?_ | refine wgs_nil ?_)
  | with_reducible refine iteT ?_
  | with_reducible refine iteF ?_
  | with_reducible refine ⟨_, frz_per, ?_⟩
  | with_reducible refine ⟨_, frz_own, ?_⟩
  | refine ⟨_, rfl, ?_⟩
  | refine ⟨_, argD1, ?_⟩
  | refine ⟨_, argD2, ?_⟩
  | refine ⟨_, argD0, ?_⟩
  | refine ⟨_, argD3, ?_⟩
  | refine ⟨_, argD4, ?_⟩
  | refine ⟨_, _, rfl, rfl, rfl, ?_⟩
  | refine ⟨_, _, _, rfl, rfl, rfl, ?_⟩
  | refine ⟨(by simp only [List.length_cons, List.length_nil]; decide), ?_⟩
  | refine ⟨rfl, nd1, ?_⟩
  | refine ⟨rfl, nd0, ?_⟩)
local macro_rules | `(tactic| walk_at "go") => `(tactic| repeat walk_at "g1")
local macro_rules | `(tactic| walk_at "g2") => `(tactic| first
  | (with_reducible show WE _ _ _; with_reducible first | refine we_var (by with_unfolding_all exact rfl) ?_ | (show WE (tOp _ _ _) _ _; first | refine we_notN ?_ | refine we_ixS (by with_unfolding_all exact rfl) ?_ | refine we_ixScr (by with_unfolding_all exact rfl) ?_ | refine we_inS (by with_unfolding_all exact rfl) ?_ | refine we_notInS (by with_unfolding_all exact rfl) ?_ | refine we_eqS (by with_unfolding_all exact rfl) ?_ | refine we_neS (by with_unfolding_all exact rfl) ?_ | refine we_opK ?_) | (show WE (tCB _ _) _ _; first | refine we_isInt ?_ | refine we_isBl ?_ | refine we_isLst ?_ | refine we_isTup ?_ | refine we_lenO (by with_unfolding_all exact rfl) ?_ | refine we_lenS' (by with_unfolding_all exact rfl) ?_ | refine we_lenScr (by with_unfolding_all exact rfl) ?_ | refine we_cbK ?_) | refine we_chain ?_ | refine we_slice ?_ | refine we_int ?_ | refine we_bl ?_ | refine we_non ?_ | refine we_str ?_ | refine we_neg ?_ | refine we_not ?_ | refine we_and ?_ | refine we_or ?_ | refine we_if ?_ | refine we_tup ?_ | refine we_lst ?_ | refine we_call ?_ | refine we_mt (by with_unfolding_all exact rfl) ?_)
  | (with_reducible show WS _ _ _ _; with_reducible first | refine ws_seqA ?_ | refine ws_seqD ?_ | refine ws_asg (by with_unfolding_all exact rfl) ?_ | refine ws_asgG ?_ | refine ws_if ?_ | refine ws_ret ?_ | refine ws_drop ?_ | refine ws_next ?_ | refine ws_retN ?_)
  | (with_reducible show WT _ _ _; with_reducible first | refine wt_test ?_ | refine wt_B ?_ | refine wt_not ?_ | refine wt_and ?_ | refine wt_or ?_ | refine wt_yes ?_)
  | (with_reducible show WA _ _ _; with_reducible first | refine wa_nil ?_ | refine wa_cons (wq_of (we_var (by with_unfolding_all exact rfl) ?_)) | refine wa_slotU (by with_unfolding_all exact rfl) ?_ | refine wa_cons ?_)
  | (with_reducible show OpK _ _ _ _ _; with_reducible first | refine ok_isB ?_ | refine ok_notB ?_ | refine ok_plusI ?_ | refine ok_sub ?_ | refine ok_lt ?_ | refine ok_le ?_ | refine ok_gt ?_ | refine ok_ge ?_ | refine ok_eqI ?_ | refine ok_neI ?_ | refine ok_mod (by first | assumption | decide | omega) ?_ | refine ok_ixL (by with_unfolding_all exact rfl) ?_)
  | (with_reducible show CbK _ _ _ _; with_reducible first | refine ck_lenL ?_ | refine ck_lenT ?_ | refine ck_int ?_ | refine ck_intB ?_ | refine ck_max ?_ | refine ck_min ?_ | refine ck_list ?_)
  | with_reducible refine wq_of ?_
  | (with_reducible show WG _ _ _ _ _; with_reducible first | refine wg_name (by with_unfolding_all exact rfl) ?_ | refine wg_tup (by with_unfolding_all exact rfl) ?_ | refine wg_set (by with_unfolding_all exact rfl) ?_)
  | (with_reducible show WGs _ _ _ _ _; with_reducible first | refine wgs_cons ?_ | refine wgs_nil ?_)
  | (with_reducible show WO _ _ _; with_reducible first | refine wo_some ?_ | refine wo_none ?_)
  | refine ⟨_, argD5, ?_⟩
  | refine ⟨_, argD6, ?_⟩
  | refine ⟨_, argD7, ?_⟩
  | refine ⟨_, argD9, ?_⟩
  | with_reducible refine iteT ?_
  | with_reducible refine iteF ?_
  | with_reducible refine ⟨_, frz_per, ?_⟩
  | with_reducible refine ⟨_, frz_own, ?_⟩
  | refine ⟨_, rfl, ?_⟩
  | refine ⟨_, argD1, ?_⟩
  | refine ⟨_, argD2, ?_⟩
  | refine ⟨_, argD0, ?_⟩
  | refine ⟨_, argD3, ?_⟩
  | refine ⟨_, argD4, ?_⟩
  | refine ⟨_, _, rfl, rfl, rfl, ?_⟩
  | refine ⟨_, _, _, rfl, rfl, rfl, ?_⟩
  | refine ⟨(by simp only [List.length_cons, List.length_nil]; decide), ?_⟩
  | refine ⟨rfl, nd1, ?_⟩
  | refine ⟨rfl, nd0, ?_⟩)
local macro_rules | `(tactic| walk_at "w") => `(tactic| first
  | (with_reducible show WE _ _ _; with_reducible first | refine we_var (by with_unfolding_all exact rfl) ?_ | refine we_varF (by with_unfolding_all exact rfl) frz_own ?_ | (show WE (tOp _ _ _) _ _; first | refine we_isNd ?_ | refine we_notNd ?_ | refine we_notN ?_ | refine we_ixS (by with_unfolding_all exact rfl) ?_ | refine we_ixScr (by with_unfolding_all exact rfl) ?_ | refine we_inS (by with_unfolding_all exact rfl) ?_ | refine we_notInS (by with_unfolding_all exact rfl) ?_ | refine we_eqS (by with_unfolding_all exact rfl) ?_ | refine we_neS (by with_unfolding_all exact rfl) ?_ | refine we_opK ?_) | (show WE (tCB _ _) _ _; first | refine we_repr ?_ | refine we_isInt ?_ | refine we_isBl ?_ | refine we_isLst ?_ | refine we_isTup ?_ | refine we_lenO (by with_unfolding_all exact rfl) ?_ | refine we_lenS' (by with_unfolding_all exact rfl) ?_ | refine we_lenScr (by with_unfolding_all exact rfl) ?_ | refine we_cbK ?_) | refine we_dnew ?_ | refine we_lenSetI ?_ | refine we_revL ?_ | refine we_chain ?_ | refine we_slice ?_ | refine we_int ?_ | refine we_bl ?_ | refine we_non ?_ | refine we_str ?_ | refine we_neg ?_ | refine we_not ?_ | refine we_and ?_ | refine we_or ?_ | refine we_if ?_ | refine we_tup ?_ | refine we_lst ?_ | refine we_call ?_ | refine we_mt (by with_unfolding_all exact rfl) ?_)
  | (with_reducible show WS _ _ _ _; with_reducible first | refine ws_seqI ?_ | refine ws_seqA ?_ | refine ws_seqD ?_ | refine ws_asg (by with_unfolding_all exact rfl) ?_ | refine ws_asgG ?_ | refine ws_if ?_ | refine ws_ret ?_ | refine ws_drop ?_ | refine ws_next ?_ | refine ws_retN ?_)
  | (with_reducible show WT _ _ _; with_reducible first | refine wt_truL ?_ | refine wt_test ?_ | refine wt_B ?_ | refine wt_not ?_ | refine wt_and ?_ | refine wt_or ?_ | refine wt_yes ?_)
  | (with_reducible show WA _ _ _; with_reducible first | refine wa_nil ?_ | refine wa_cons (wq_of (we_var (by with_unfolding_all exact rfl) ?_)) | refine wa_slotU (by with_unfolding_all exact rfl) ?_ | refine wa_cons ?_)
  | (with_reducible show OpK _ _ _ _ _; with_reducible first | refine ok_neR ?_ | refine ok_eqR ?_ | refine ok_isB ?_ | refine ok_notB ?_ | refine ok_plusI ?_ | refine ok_sub ?_ | refine ok_lt ?_ | refine ok_le ?_ | refine ok_gt ?_ | refine ok_ge ?_ | refine ok_eqI ?_ | refine ok_neI ?_ | refine ok_mod (by first | assumption | decide | omega) ?_ | refine ok_ixL (by with_unfolding_all exact rfl) ?_)
  | (with_reducible show CbK _ _ _ _; with_reducible first | refine ck_tuple ?_ | refine ck_allF ?_ | refine ck_anyF ?_ | refine ck_abs ?_ | refine ck_sumI ?_ | refine ck_lenL ?_ | refine ck_lenT ?_ | refine ck_int ?_ | refine ck_intB ?_ | refine ck_max ?_ | refine ck_min ?_ | refine ck_list ?_)
  | with_reducible refine wq_of ?_
  | (with_reducible show WG _ _ _ _ _; with_reducible first | refine wg_name (by with_unfolding_all exact rfl) ?_ | refine wg_tup (by with_unfolding_all exact rfl) ?_ | refine wg_set (by with_unfolding_all exact rfl) ?_)
  | (with_reducible show WGs _ _ _ _ _; with_reducible first | refine wgs_cons ?_ | refine wgs_nil ?_)
  | (with_reducible show WO _ _ _; with_reducible first | refine wo_some ?_ | refine wo_none ?_)
  | refine ⟨_, argD5, ?_⟩
  | refine ⟨_, argD6, ?_⟩
  | refine ⟨_, argD7, ?_⟩
  | refine ⟨_, argD9, ?_⟩
  | with_reducible refine iteT ?_
  | with_reducible refine iteF ?_
  | with_reducible refine ⟨_, frz_per, ?_⟩
  | with_reducible refine ⟨_, frz_own, ?_⟩
  | refine ⟨_, rfl, ?_⟩
  | refine ⟨_, argD1, ?_⟩
  | refine ⟨_, argD2, ?_⟩
  | refine ⟨_, argD0, ?_⟩
  | refine ⟨_, argD3, ?_⟩
  | refine ⟨_, argD4, ?_⟩
  | refine ⟨_, _, rfl, rfl, rfl, ?_⟩
  | refine ⟨_, _, _, rfl, rfl, rfl, ?_⟩
  | refine ⟨(by simp only [List.length_cons, List.length_nil]; decide), ?_⟩
  | refine ⟨rfl, nd1, ?_⟩
  | refine ⟨rfl, nd0, ?_⟩
  | refine ⟨_, argD8, ?_⟩
  | refine ⟨_, argD10, ?_⟩)
local macro_rules | `(tactic| walk_at "v") => `(tactic| first
  | (with_reducible show WE _ _ _; with_reducible first | refine we_var (by with_unfolding_all exact rfl) ?_ | refine we_varF (by with_unfolding_all exact rfl) frz_own ?_ | (show WE (tOp _ _ _) _ _; first | refine we_isNd ?_ | refine we_notNd ?_ | refine we_notN ?_ | refine we_ixS (by with_unfolding_all exact rfl) ?_ | refine we_ixScr (by with_unfolding_all exact rfl) ?_ | refine we_inS (by with_unfolding_all exact rfl) ?_ | refine we_notInS (by with_unfolding_all exact rfl) ?_ | refine we_eqS (by with_unfolding_all exact rfl) ?_ | refine we_neS (by with_unfolding_all exact rfl) ?_ | refine we_opK ?_) | (show WE (tCB _ _) _ _; first | refine we_repr ?_ | refine we_lenWeb (by with_unfolding_all exact rfl) (by assumption) ?_ | refine we_isInt ?_ | refine we_isBl ?_ | refine we_isLst ?_ | refine we_isTup ?_ | refine we_lenO (by with_unfolding_all exact rfl) ?_ | refine we_lenS' (by with_unfolding_all exact rfl) ?_ | refine we_lenScr (by with_unfolding_all exact rfl) ?_ | refine we_cbK ?_) | refine we_dnew ?_ | refine we_lenSetI ?_ | refine we_revL ?_ | refine we_nbWeb (by with_unfolding_all exact rfl) (by assumption) (by assumption) ?_ | refine we_tiesWeb (by with_unfolding_all exact rfl) ?_ | refine we_chain ?_ | refine we_slice ?_ | refine we_int ?_ | refine we_bl ?_ | refine we_non ?_ | refine we_str ?_ | refine we_neg ?_ | refine we_not ?_ | refine we_and ?_ | refine we_or ?_ | refine we_if ?_ | refine we_tup ?_ | refine we_lst ?_ | refine we_call ?_ | refine we_mt (by with_unfolding_all exact rfl) ?_)
  | (with_reducible show WS _ _ _ _; with_reducible first | refine ws_seqI ?_ | refine ws_seqA ?_ | refine ws_seqD ?_ | refine ws_asg (by with_unfolding_all exact rfl) ?_ | refine ws_asgG ?_ | refine ws_if ?_ | refine ws_ret ?_ | refine ws_drop ?_ | refine ws_next ?_ | refine ws_retN ?_)
  | (with_reducible show WT _ _ _; with_reducible first | refine wt_truL ?_ | refine wt_test ?_ | refine wt_B ?_ | refine wt_not ?_ | refine wt_and ?_ | refine wt_or ?_ | refine wt_yes ?_)
  | (with_reducible show WA _ _ _; with_reducible first | refine wa_nil ?_ | refine wa_cons (wq_of (we_var (by with_unfolding_all exact rfl) ?_)) | refine wa_slotU (by with_unfolding_all exact rfl) ?_ | refine wa_cons ?_)
  | (with_reducible show OpK _ _ _ _ _; with_reducible first | refine ok_neR ?_ | refine ok_eqR ?_ | refine ok_isB ?_ | refine ok_notB ?_ | refine ok_plusI ?_ | refine ok_sub ?_ | refine ok_lt ?_ | refine ok_le ?_ | refine ok_gt ?_ | refine ok_ge ?_ | refine ok_eqI ?_ | refine ok_neI ?_ | refine ok_mod (by first | assumption | decide | omega) ?_ | refine ok_ixL (by with_unfolding_all exact rfl) ?_)
  | (with_reducible show CbK _ _ _ _; with_reducible first | refine ck_tuple ?_ | refine ck_allF ?_ | refine ck_anyF ?_ | refine ck_abs ?_ | refine ck_sumI ?_ | refine ck_lenL ?_ | refine ck_lenT ?_ | refine ck_int ?_ | refine ck_intB ?_ | refine ck_max ?_ | refine ck_min ?_ | refine ck_list ?_)
  | with_reducible refine wq_of ?_
  | (with_reducible show WG _ _ _ _ _; with_reducible first | refine wg_name (by with_unfolding_all exact rfl) ?_ | refine wg_tup (by with_unfolding_all exact rfl) ?_ | refine wg_set (by with_unfolding_all exact rfl) ?_)
  | (with_reducible show WGs _ _ _ _ _; with_reducible first | refine wgs_cons ?_ | refine wgs_nil ?_)
  | (with_reducible show WO _ _ _; with_reducible first | refine wo_some ?_ | refine wo_none ?_)
  | refine ⟨_, argD5, ?_⟩
  | refine ⟨_, argD6, ?_⟩
  | refine ⟨_, argD7, ?_⟩
  | refine ⟨_, argD9, ?_⟩
  | with_reducible refine iteT ?_
  | with_reducible refine iteF ?_
  | with_reducible refine ⟨_, frz_per, ?_⟩
  | with_reducible refine ⟨_, frz_own, ?_⟩
  | refine ⟨_, rfl, ?_⟩
  | refine ⟨_, argD1, ?_⟩
  | refine ⟨_, argD2, ?_⟩
  | refine ⟨_, argD0, ?_⟩
  | refine ⟨_, argD3, ?_⟩
  | refine ⟨_, argD4, ?_⟩
  | refine ⟨_, _, rfl, rfl, rfl, ?_⟩
  | refine ⟨_, _, _, rfl, rfl, rfl, ?_⟩
  | refine ⟨(by simp only [List.length_cons, List.length_nil]; decide), ?_⟩
  | refine ⟨rfl, nd1, ?_⟩
  | refine ⟨rfl, nd0, ?_⟩
  | refine ⟨_, argD8, ?_⟩
  | refine ⟨_, argD10, ?_⟩)
local macro_rules | `(tactic| walk_at "p") => `(tactic| refine ⟨_, _, rfl, (by omega), (by first | decide | omega), (by first | decide | omega), ?_⟩)
local macro_rules | `(tactic| walk_at "n") => `(tactic| try dsimp only [back, List.set_cons_zero, List.set_cons_succ, List.map_cons, List.map_nil, List.cons_append, List.nil_append])
local macro_rules | `(tactic| walk_at "q") => `(tactic| first | with_reducible refine ws_seqP (ws_par (by with_unfolding_all exact rfl) (by with_unfolding_all exact rfl) ?_) | refine ⟨_, _, rfl, ?_⟩ | walk_at "v")
theorem str_ok {s : Str} (h : ∀ c ∈ s.cps.toList, c < 128) : PyData.strOk s = true := by
  unfold PyData.strOk
  rw [Array.all_eq_true]
  intro i hi
  have := h s.cps[i] (by simp)
  rw [decide_eq_true_eq]
  omega
theorem wd_asc {n : Nat} (w : Wd n) : ∀ c ∈ (tS n).cps.toList, c < 128 := fun c hc => by
  have h := w.w
  unfold intW at h
  have h := (Bool.and_eq_true_iff.mp h).1
  unfold Txt.isascii at h
  rw [Array.all_eq_true] at h
  obtain ⟨i, hi⟩ := List.getElem?_of_mem hc
  rw [Array.getElem?_toList] at hi
  obtain ⟨h1, h2⟩ := Array.getElem?_eq_some_iff.mp hi
  have := h i h1
  rw [h2, decide_eq_true_eq] at this
  exact this
theorem webS_ok {n : Nat} {ts : List (Int × Int)} (hn : n ≤ 60) (h : Small ts) : PyData.strOk (webS n ts) = true := by
  refine str_ok fun c hc => ?_
  unfold webS at hc
  rw [PyProof.Rows.mem_join] at hc
  rcases hc with ⟨x, hx, hc⟩ | ⟨_, hc⟩
  · rcases List.mem_cons.mp hx with rfl | hx
    · exact wd_asc (wd hn) c hc
    · obtain ⟨t, ht, rfl⟩ := List.mem_map.mp hx
      have hst := h t ht
      obtain ⟨w1, e1⟩ := wdI hst.1
      obtain ⟨w2, e2⟩ := wdI hst.2
      rw [tieS_cps] at hc
      rcases List.mem_append.mp hc with hc | hc
      · exact wd_asc w1 c (e1 ▸ hc)
      · rcases List.mem_cons.mp hc with rfl | hc
        · decide
        · exact wd_asc w2 c (e2 ▸ hc)
  · have : c = 32 := List.mem_singleton.mp hc
    subst this
    decide
abbrev t_law_right_0 (K : PySem.W.Frag) (a : Ad) : TS :=
  (tSeq (tIfS (tOr (tNot (tB (tCB (rIsiA K) (tCons (tVar 8) (tCons (tC (.ref a.C_Web)) tNil))))) (tOr (tTest (tOp (rNeD K) (tCB (rLenOwn a.C_Web (sp_Web_len_ K a) E0) (tCons (tVar 8) tNil)) (tVar 2))) (tOr (tTest (tOp (rNeD K) (tProp a.C_Web (sp_Web_ties K a) [] E0 (tVar 8)) (tVar 3))) (tTest (tOp (rNotB) (tOp (rCmpOwn false K a.C_Web (sp_Web_eq_ K a) E0) (tVar 8) (tVar 5)) (tC (.bl true))))))) (tRet (tC (.bl false))) tNext)
    (tIfS (tTest (tOp (rNeD K) (tCall (sp_show_web K a) [] E0 (tCons (tVar 8) tNil)) (tVar 4))) (tRet (tC (.bl false))) tNext))
abbrev t_law_right_1 (K : PySem.W.Frag) (a : Ad) : TS :=
  (tSeq (tIfS (tOr (tNot (tB (tCB (rIsiA K) (tCons (tVar 7) (tCons (tC (.ty "str")) tNil))))) (tOr (tTest (tOp (rNeD K) (tVar 7) (tVar 4))) (tTest (tOp (rNeD K) (tProp a.C_Web (sp_Web_ties K a) [] E0 (tVar 5)) (tVar 3))))) (tRet (tC (.bl false))) tNext)
    (tSeq (tAsg (tCall (sp_read_web K a) [] E0 (tCons (tVar 4) tNil)) (gName 8))
    (t_law_right_0 K a)))
abbrev t_law_right_2 (K : PySem.W.Frag) (a : Ad) : TS :=
  (tSeq (tFor (iRng1 (tCons (tC (.int 2)) tNil)) (gName 6) (tSeq (tAsg (tCall (sp_show_web K a) [] E0 (tCons (tVar 5) tNil)) (gName 7))
    (t_law_right_1 K a)))
    (tRet (tC (.bl true))))
abbrev t_law_right_3 (K : PySem.W.Frag) (a : Ad) : TS :=
  (tSeq (tAsg (tMake a.C_Web (sp_Web_init_ K a) [] E0 (tCons (tVar 2) (tCons (tCall (sp_law_shuffled K) [] E0 (tCons (tVar 0) (tCons (tVar 3) tNil))) tNil))) (gName 5))
    (t_law_right_2 K a))
abbrev t_law_right_4 (K : PySem.W.Frag) (a : Ad) : TS :=
  (tSeq (tAsg (tM1 (rJoinS K) (tC (.str " ")) (tOp (rPlus K) (tLst (tCons (tCB (rStrI) (tCons (tVar 2) tNil)) tNil)) (tLc (iList K (tVar 3)) (gTup K 2 (gCons (gName 9) (gCons (gName 10) gNil))) tYes (tOp (rPlus K) (tOp (rPlus K) (tCB (rStrI) (tCons (tVar 9) tNil)) (tC (.str "-"))) (tCB (rStrI) (tCons (tVar 10) tNil))) [9, 10]))) (gName 4))
    (t_law_right_3 K a))
abbrev t_law_right_5 (K : PySem.W.Frag) (a : Ad) : TS :=
  (tSeq (tIfS (tTest (tOp (rEqD K) (tVar 1) (tC (.int 6)))) (tAsg (tCall (sp_law_dense K) [] E0 (tCons (tVar 0) tNil)) (gTup K 2 (gCons (gName 2) (gCons (gName 3) gNil)))) tNext)
    (t_law_right_4 K a))
abbrev t_law_right_6 (K : PySem.W.Frag) (a : Ad) : TS :=
  (tSeq (tAsg (tCall (sp_law_web K) [] E0 (tCons (tVar 0) (tCons (tOp (rIx K) (tLst (tCons (tC (.int 8)) (tCons (tC (.int 40)) tNil))) (tCB (rInt1) (tCons (tOp (rEqD K) (tVar 1) (tC (.int 7))) tNil))) tNil))) (gTup K 2 (gCons (gName 2) (gCons (gName 3) gNil))))
    (t_law_right_5 K a))
def t_law_right (K : PySem.W.Frag) (a : Ad) : TS :=
  (tSeq (tAsg (tCall (sp_law_pick K) [] E0 (tCons (tVar 0) (tCons (tC (.int 8)) tNil))) (gName 1))
    (t_law_right_6 K a))
abbrev N_law_right : List Str := ["urn", "size", "places", "ties", "due", "built", "turn", "found", "again", "u", "v"]
abbrev F_law_right (a : Ad) : Fw := fun gs kk xx => ∃ (m : Nat), gs = [urn m] ∧ 5000 ≤ m ∧ kk (dat (.bool true)) [none]
abbrev sp_law_right (K : PySem.W.Frag) (a : Ad) : Sp := SpG 1 (F_law_right a)
theorem pure_law_right {K : PySem.W.Frag} {a : Ad} (c : Clf K a) {vs : List V} {H : Hp} {Q : VK} {E : XK} (h : sp_law_right K a vs H Q E) :
    t_law_right K a { nx := fun _ H' => Q .non H', rt := Q } (L2.start N_law_right vs) H := by
  refine body_ok (fun i => i == 0) ?_ h
  rintro gs kk xx ⟨m, rfl, hm, hk⟩ -
  unfold t_law_right
  show WS _ _ [some (urn m), none, none, none, none, none, none, none, none, none, none] _
  repeat walk_at "v"
  walk_at "p"
  intro r r0 r1
  repeat walk_at "v"
  obtain ⟨b, hb, b0, b1⟩ : ∃ b : Int, atI [PyData.int 8, PyData.int 40] (if decide (r = 7) = true then 1 else 0) = some (.int b) ∧ 0 ≤ b ∧ b ≤ 40 := by
    split
    · exact ⟨40, rfl, by decide, by decide⟩
    · exact ⟨8, rfl, by decide, by decide⟩
  refine ok_ixL hb ?_
  repeat walk_at "v"
  refine ⟨_, _, rfl, by omega, b0, by omega, fun p ts p0 p1 hT hl => ?_⟩
  walk_at "n"
  iterate 6 walk_at "v"
  refine wgs_nil ?_
  walk_at "n"
  refine ws_cut (fun Γ => ∃ (m1 n : Nat) (ts : List (Int × Int)), Γ = [some (urn m1), some (dat (.int r)), some (dat (.int n)), some (dat (.list (ts.map tieD))), none, none, none, none, none, none, none] ∧ m ≤ m1 + 1100 ∧ n ≤ 40 ∧ Ties n ts) ?_ ?_
  · refine ws_if ?_
    repeat walk_at "v"
    refine ite_dec (fun _ => ?_) fun _ => ?_
    · repeat walk_at "v"
      refine ⟨by omega, fun p2 ts2 p20 p21 hT2 => ?_⟩
      walk_at "n"
      iterate 6 walk_at "v"
      refine wgs_nil ?_
      walk_at "n"
      refine ⟨m - 1 - 1000 - 10, p2.toNat, ts2, ?_, by omega, by omega, ?_⟩
      · rw [Int.toNat_of_nonneg (by omega)]
      · rw [Int.toNat_of_nonneg (by omega)]; exact hT2
    · refine ws_next ⟨m - 1 - 1000, p.toNat, ts, ?_, by omega, by omega, ?_⟩
      · rw [Int.toNat_of_nonneg (by omega)]
      · rw [Int.toNat_of_nonneg (by omega)]; exact hT
  clear hT hl ts
  rintro _ ⟨m1, n, ts, rfl, hm1, hn, hT⟩
  have hv : Valid n ts := hT.ok
  have hnd := ties_nd hT
  have hlen := GW.narrow_len (fun t ht => by have := hv t ht; omega) hnd
  have hsm : Small ts := fun t ht => by have := hv t ht; omega
  have hwl := webS_len (by omega : n ≤ 60) hsm
  have hws := web_sum (by omega : n ≤ 60) hsm
  have hsh : SeqAt.shaped (.str (webS n ts)) = true := (lay_str (webS_ok (by omega) hsm)).shaped
  walk_at "n"
  refine ws_seq (ws_asg rfl (we_join (wq_of (we_str ⟨_, frz_per, " ", rfl, wq_of (we_opK (wq_of (we_lst (wa_cons (wq_of (we_cbK (wa_cons (wq_of (we_var rfl ⟨_, frz_per, wa_nil ⟨_, argD1, ck_strI (log60 (by omega)) ?_⟩⟩))))))))) ⟩))))
  refine ⟨_, frz_per, wa_nil ⟨[_], argD1, by simp, _, frz_own, _, rfl, wq_of ?_⟩⟩
  refine we_lcM tieD .str tieS (wil_list (wq_of (we_var rfl ⟨_, frz_per, _, rfl, ts, rfl, rfl, by omega, fun t ht => ?_, ?_⟩)))
  · have ht := hsm t ht
    have h5 := tieS_len ht
    rw [str_len, tieS_cps, List.length_append, List.length_cons] at h5
    have e1 : (toString t.1 : Str).length = (tS t.1).cps.toList.length := str_len
    have e2 : (toString t.2 : Str).length = (tS t.2).cps.toList.length := str_len
    refine wg_tup rfl (wgs_cons (wg_name rfl (wgs_cons (wg_name rfl (wgs_nil ?_)))))
    walk_at "n"
    refine wq_of (we_opK (wq_of (we_opK (wq_of (we_cbK (wa_cons (wq_of (we_var rfl ⟨_, frz_per, wa_nil ⟨_, argD1, ck_strI (log60 ht.1) ⟨_, frz_per, _, rfl, wq_of (we_str ⟨_, frz_per, _, rfl, ok_plusS ?_ ?_⟩)⟩⟩⟩))))))))
    · rw [e1]
      show _ + 1 ≤ _
      omega
    refine ⟨_, frz_per, _, rfl, wq_of (we_cbK (wa_cons (wq_of (we_var rfl ⟨_, frz_per, wa_nil ⟨_, argD1, ck_strI (log60 ht.2) ⟨_, frz_per, _, rfl, ok_plusS ?_ ?_⟩⟩⟩))))⟩
    · rw [str_len, app_cps, List.length_append, ← str_len, e1, e2]
      show _ + 1 + _ ≤ _
      omega
    exact ⟨_, frz_per, rfl, rfl⟩
  refine ⟨_, frz_own, _, rfl, ok_plusL (by simp; omega) ?_⟩
  have e : [PyData.str (toString (n : Int) : Str)] ++ (ts.map tieS).map PyData.str = (tS n :: ts.map tieS).map .str := rfl
  rw [e]
  refine ⟨_, frz_own, _, rfl, ?_, ?_⟩
  · show _ + _ * 1 ≤ _
    rw [List.length_cons, List.length_map]
    omega
  rw [txt_join, show Str.join " " (tS n :: ts.map tieS) = webS n ts from rfl]
  walk_at "n"
  refine ws_seq (ws_asg rfl (we_makeWebW ?_))
  repeat walk_at "v"
  refine ⟨_, _, rfl, by rw [List.length_map]; omega, by rw [List.length_map]; omega, fun es he => ?_⟩
  obtain ⟨us, rfl, hus⟩ := perm_ties he
  rw [List.length_map]
  repeat walk_at "v"
  refine ⟨n, us, rfl, hn, fun t ht => hv t (hus.mem_iff.mp ht), hus.nodup_iff.mpr hnd, fun ts' hp hs => ?_⟩
  rw [lex_uniq hs (lt_le hT.srt) (hp.trans hus)]
  walk_at "n"
  refine ws_frz (i := 5) rfl frz_ins ?_
  walk_at "n"
  show WS _ _ [_, some (dat (.int r)), some (dat (.int n)), some (dat (.list (ts.map tieD))), some (dat (.str (webS n ts))), some (per (objP a.C_Web (webF n ts))), none, none, none, none, none] _
  generalize hm2 : m1 - ts.length = m2
  refine ws_seq (ws_forF (fun i : Nat => .int (i : Int)) (fun pre Γ => ∃ (o6 o7 o8 : Option Gp), Γ = [some (urn m2), some (dat (.int r)), some (dat (.int n)), some (dat (.list (ts.map tieD))), some (dat (.str (webS n ts))), some (per (objP a.C_Web (webF n ts))), o6, o7, o8, none, none]) (wil_range1 ?_))
  repeat walk_at "v"
  refine ⟨by omega, by omega, List.range 2, rfl, ⟨_, _, _, rfl⟩, ?_, ?_⟩
  · rintro _ ⟨o6, o7, o8, rfl⟩
    exact ws_ret (we_bl ⟨_, _, Ent.refl, les_none les_nil, hk⟩)
  · rintro pre i post _ hsp ⟨o6, o7, o8, rfl⟩
    refine wg_name rfl ?_
    walk_at "n"
    have hshow : ∀ {Γ : Ga} {k : Gp → Ga → Prop} {i : Nat}, Γ[i]? = some (some (per (objP a.C_Web (webF n ts)))) → k (dat (.str (webS n ts))) Γ → WE (tCall (sp_show_web K a) [] E0 (tCons (tVar i) tNil)) Γ k := fun {Γ k i} hi hk => we_call (wa_cons (wq_of (we_var hi ⟨_, frz_per, wa_nil ⟨rfl, nd0, n, ts, rfl, by omega, hsm, by omega, hk⟩⟩)))
    refine ws_seq (ws_asg rfl (hshow rfl ?_))
    walk_at "n"
    show WS _ _ [some (urn m2), some (dat (.int r)), some (dat (.int n)), some (dat (.list (ts.map tieD))), some (dat (.str (webS n ts))), some (per (objP a.C_Web (webF n ts))), some (dat (.int (i : Int))), some (dat (.str (webS n ts))), o8, none, none] _
    refine ws_seqI (ws_if (wt_or (wt_not (wt_B (wq_of (we_isi (wq_of (we_var rfl ⟨_, frz_per, .str (webS n ts), rfl, "str", true, rfl, by decide +kernel, _, frz_per, _, rfl, iteF ?_⟩))))))))
    refine wt_or (wt_test (wq_of (we_opK (wq_of (we_var rfl ⟨_, frz_per, _, rfl, wq_of (we_var rfl ⟨_, frz_per, _, rfl, ok_ne hsh hsh ?_⟩)⟩)))))
    rw [eqv_str, decide_eq_true rfl]
    refine ⟨_, frz_per, _, rfl, iteF ?_⟩
    refine wt_test (wq_of (we_opK (wq_of (we_tiesWeb (n := n) (ts := ts) rfl ⟨_, frz_own, _, rfl, wq_of (we_var rfl ⟨_, frz_per, _, rfl, ?_⟩)⟩))))
    refine ok_neE enc_tie.lst (x := ts) (y := ts) ⟨_, frz_per, _, rfl, ?_⟩
    refine ite_ndec (fun h => absurd rfl h) fun _ => ws_next ?_
    refine ws_seq (ws_asg rfl (we_call (wa_cons (wq_of (we_var rfl ⟨_, frz_per, wa_nil ⟨rfl, nd0, n, ts, rfl, hn, hv, hT.srt, by omega, ?_⟩⟩)))))
    walk_at "n"
    refine ws_frz (i := 8) rfl frz_ins ?_
    walk_at "n"
    show WS _ _ [some (urn m2), some (dat (.int r)), some (dat (.int n)), some (dat (.list (ts.map tieD))), some (dat (.str (webS n ts))), some (per (objP a.C_Web (webF n ts))), some (dat (.int (i : Int))), some (dat (.str (webS n ts))), some (per (objP a.C_Web (webF n ts))), none, none] _
    refine ws_seqI (ws_if (wt_or (wt_not (wt_B (wq_of (we_isOwn c.ins (wq_of (we_var rfl ⟨_, frz_per, _, rfl, true, c.oth.yes, _, frz_per, _, rfl, iteF ?_⟩))))))))
    refine wt_or (wt_test (wq_of (we_opK (wq_of (we_lenWeb (n := n) (ts := ts) rfl (by omega) ⟨_, frz_per, _, rfl, wq_of (we_var rfl ⟨_, frz_per, _, rfl, ?_⟩)⟩)))))
    refine ok_neI ⟨_, frz_per, _, rfl, ?_⟩
    refine ite_ndec (fun h => absurd rfl h) fun _ => ?_
    refine wt_or (wt_test (wq_of (we_opK (wq_of (we_tiesWeb (n := n) (ts := ts) rfl ⟨_, frz_own, _, rfl, wq_of (we_var rfl ⟨_, frz_per, _, rfl, ?_⟩)⟩)))))
    refine ok_neE enc_tie.lst (x := ts) (y := ts) ⟨_, frz_per, _, rfl, ?_⟩
    refine ite_ndec (fun h => absurd rfl h) fun _ => ?_
    refine wt_test (wq_of (we_opK (wq_of (we_eqOO c rfl rfl hv hv hT.srt hT.srt ?_))))
    rw [decide_eq_true (⟨rfl, rfl⟩ : n = n ∧ ts = ts)]
    refine ⟨_, frz_per, _, rfl, wq_of (we_bl ⟨_, frz_per, _, rfl, ok_notB ⟨_, frz_per, _, rfl, ?_⟩⟩)⟩
    refine iteF (ws_next ?_)
    refine ws_if (wt_test (wq_of (we_opK (wq_of (hshow rfl ⟨_, frz_per, _, rfl, wq_of (we_var rfl ⟨_, frz_per, _, rfl, ok_ne hsh hsh ?_⟩)⟩)))))
    rw [eqv_str, decide_eq_true rfl]
    exact ⟨_, frz_per, _, rfl, iteF (ws_next ⟨_, _, _, rfl⟩)⟩
abbrev t_law_0 (K : PySem.W.Frag) (a : Ad) : TS :=
  (tIfS (tNot (tB (tCall (sp_law_right K a) [] E0 (tCons (tCall (sp_law_urn K) [] E0 (tCons (tVar 0) (tCons (tVar 1) tNil))) tNil)))) (tRet (tC (.bl false))) tNext)
abbrev t_law_1 (K : PySem.W.Frag) (a : Ad) : TS :=
  (tSeq (tFor (iRng1 (tCons (tCB (rMax2) (tCons (tC (.int 1)) (tCons (tCB (rMin2) (tCons (tC (.int 4)) (tCons (tCB (rLenA K) (tCons (tVar 0) tNil)) tNil))) tNil))) tNil)) (gName 1) (t_law_0 K a))
    (tRet (tC (.bl true))))
def t_law (K : PySem.W.Frag) (a : Ad) : TS :=
  (t_law_1 K a)
abbrev N_law : List Str := ["script", "k"]
abbrev F_law (K : PySem.W.Frag) (a : Ad) : Fw := fun gs kk xx => ∃ (ns : List Int), gs = [per (scrP K ns)] ∧ ns.length ≤ 63 ∧ kk (dat (.bool true)) [none]
abbrev sp_law (K : PySem.W.Frag) (a : Ad) : Sp := SpG 1 (F_law K a)
theorem pure_law {K : PySem.W.Frag} {a : Ad} (c : Clf K a) {vs : List V} {H : Hp} {Q : VK} {E : XK} (h : sp_law K a vs H Q E) :
    t_law K a { nx := fun _ H' => Q .non H', rt := Q } (L2.start N_law vs) H := by
  refine body_ok (fun i => false) ?_ h
  rintro gs kk xx ⟨ns, rfl, hn, hk⟩ -
  unfold t_law
  refine ws_seq ?_
  refine ws_for (fun i Γ => ∃ (o1 : Option Gp), Γ = [some (per (scrP K ns)), o1]) ?_
  refine wi_range1 ?_
  walk_at "go"
  refine ⟨?_, ?_, ⟨_, rfl⟩, ?_, ?_⟩
  · split <;> split <;> omega
  · split <;> split <;> omega
  · rintro Γ2 ⟨o1, rfl⟩
    walk_at "go"
    exact ⟨_, _, Ent.refl, les_none les_nil, hk⟩
  · rintro i Γ2 hi ⟨o1, rfl⟩
    refine wg_name rfl ?_
    refine ws_if (wt_not (wt_B (wq_of (we_call1 ?_))))
    walk_at "go"
    exact ⟨ns, 0 + (i : Int), rfl, by omega, hn, big, rfl, by unfold big; omega, _, frz_per, true, rfl, iteF (ws_next ⟨_, rfl⟩)⟩
end G

namespace G
open PySem PySem.Spec L2
theorem un64 {k : Nat} {A : Around} (hr : Room k A) : A.units + 64 < cLine := by have := un65 hr; omega
abbrev FnP (K : PySem.W.Frag) (x qual : Str) (st : Stmt) (f : Addr) (fd : FuncData) : Prop := FunD K x qual (defArgs st) (defBody st) (defScope st) [] [] f fd
theorem sc_is_count : FnScope ["value"] ["value"] (defScope s_is_count) := ⟨rfl, rfl, rfl, by decide +kernel, rfl, by decide +kernel, by decide +kernel⟩
theorem sc_is_tie : FnScope ["places", "value", "u", "v"] ["places", "value"] (defScope s_is_tie) := ⟨rfl, rfl, rfl, by decide +kernel, rfl, by decide +kernel, by decide +kernel⟩
theorem sc_check_web : FnScope ["places", "ties", "tie"] ["places", "ties"] (defScope s_check_web) := ⟨rfl, rfl, rfl, by decide +kernel, rfl, by decide +kernel, by decide +kernel⟩
theorem sc_neighbour_lists : FnScope ["places", "ties", "near", "u", "v", "place"] ["places", "ties"] (defScope s_neighbour_lists) := ⟨rfl, rfl, rfl, by decide +kernel, rfl, by decide +kernel, by decide +kernel⟩
theorem sc_Web_init_ : FnScope ["self", "places", "ties", "u", "v"] ["self", "places", "ties"] (defScope s_Web_init_) := ⟨rfl, rfl, rfl, by decide +kernel, rfl, by decide +kernel, by decide +kernel⟩
theorem sc_Web_ties : FnScope ["self"] ["self"] (defScope s_Web_ties) := ⟨rfl, rfl, rfl, by decide +kernel, rfl, by decide +kernel, by decide +kernel⟩
theorem sc_Web_len_ : FnScope ["self"] ["self"] (defScope s_Web_len_) := ⟨rfl, rfl, rfl, by decide +kernel, rfl, by decide +kernel, by decide +kernel⟩
theorem sc_Web_eq_ : FnScope ["self", "other"] ["self", "other"] (defScope s_Web_eq_) := ⟨rfl, rfl, rfl, by decide +kernel, rfl, by decide +kernel, by decide +kernel⟩
theorem sc_is_integer_word : FnScope ["word"] ["word"] (defScope s_is_integer_word) := ⟨rfl, rfl, rfl, by decide +kernel, rfl, by decide +kernel, by decide +kernel⟩
theorem sc_integers_of : FnScope ["words", "word"] ["words"] (defScope s_integers_of) := ⟨rfl, rfl, rfl, by decide +kernel, rfl, by decide +kernel, by decide +kernel⟩
theorem sc_show_web : FnScope ["web", "u", "v"] ["web"] (defScope s_show_web) := ⟨rfl, rfl, rfl, by decide +kernel, rfl, by decide +kernel, by decide +kernel⟩
theorem sc_read_web : FnScope ["text", "first", "others", "places", "ties", "error", "word"] ["text"] (defScope s_read_web) := ⟨rfl, rfl, rfl, by decide +kernel, rfl, by decide +kernel, by decide +kernel⟩
theorem sc_tie_of_word : FnScope ["word", "ends"] ["word"] (defScope s_tie_of_word) := ⟨rfl, rfl, rfl, by decide +kernel, rfl, by decide +kernel, by decide +kernel⟩
theorem sc_law_urn : FnScope ["script", "k", "cell"] ["script", "k"] (defScope s_law_urn) := ⟨rfl, rfl, rfl, by decide +kernel, rfl, by decide +kernel, by decide +kernel⟩
theorem sc_law_pick : FnScope ["urn", "many", "found", "turn", "mixed"] ["urn", "many"] (defScope s_law_pick) := ⟨rfl, rfl, rfl, by decide +kernel, rfl, by decide +kernel, by decide +kernel⟩
theorem sc_law_shuffled : FnScope ["urn", "things", "left", "found", "k"] ["urn", "things"] (defScope s_law_shuffled) := ⟨rfl, rfl, rfl, by decide +kernel, rfl, by decide +kernel, by decide +kernel⟩
theorem sc_law_web : FnScope ["urn", "most", "places", "order", "kind", "share", "pairs", "v", "k", "ties", "u", "tie"] ["urn", "most"] (defScope s_law_web) := ⟨rfl, rfl, rfl, by decide +kernel, rfl, by decide +kernel, by decide +kernel⟩
theorem sc_law_dense : FnScope ["urn", "places", "gone", "ties", "u", "k", "v"] ["urn"] (defScope s_law_dense) := ⟨rfl, rfl, rfl, by decide +kernel, rfl, by decide +kernel, by decide +kernel⟩
theorem sc_law_right : FnScope ["urn", "size", "places", "ties", "due", "built", "turn", "found", "again", "u", "v"] ["urn"] (defScope s_law_right) := ⟨rfl, rfl, rfl, by decide +kernel, rfl, by decide +kernel, by decide +kernel⟩
theorem sc_law : FnScope ["script", "k"] ["script"] (defScope s_law) := ⟨rfl, rfl, rfl, by decide +kernel, rfl, by decide +kernel, by decide +kernel⟩
structure Txt (K : PySem.W.Frag) (mg : Str → Option Value) (a : Ad) where
  cf : Clf K a
  g_InvalidWeb : mg "InvalidWeb" = some (.ref a.C_InvalidWeb)
  g_InvalidText : mg "InvalidText" = some (.ref (He.ga K "InvalidText"))
  g_Web : mg "Web" = some (.ref a.C_Web)
  xF_InvalidWeb : PySem.W.excIn K a.C_InvalidWeb [.type "ValueError", .type "Exception", .type "BaseException", .type "object"] "ValueError.__new__" = true
  kF_InvalidWeb : PySem.W.keepIn K (.ref a.C_InvalidWeb) = true
  bF_InvalidWeb : PySem.W.subIn K (.ref a.C_InvalidWeb) (.type "BaseException") = some true
  tF_InvalidWeb : PySem.W.typeIn K (.ref a.C_InvalidWeb) = some (.type "type")
  xF_InvalidText : PySem.W.excIn K (He.ga K "InvalidText") [.type "ValueError", .type "Exception", .type "BaseException", .type "object"] "ValueError.__new__" = true
  kF_InvalidText : PySem.W.keepIn K (.ref (He.ga K "InvalidText")) = true
  bF_InvalidText : PySem.W.subIn K (.ref (He.ga K "InvalidText")) (.type "BaseException") = some true
  tF_InvalidText : PySem.W.typeIn K (.ref (He.ga K "InvalidText")) = some (.type "type")
  f_is_count : Addr
  fd_is_count : FuncData
  F_is_count : FnP K "is_count" "is_count" s_is_count f_is_count fd_is_count
  g_is_count : mg "is_count" = some (.ref f_is_count)
  f_is_tie : Addr
  fd_is_tie : FuncData
  F_is_tie : FnP K "_is_tie" "_is_tie" s_is_tie f_is_tie fd_is_tie
  g_is_tie : mg "_is_tie" = some (.ref f_is_tie)
  f_check_web : Addr
  fd_check_web : FuncData
  F_check_web : FnP K "_check_web" "_check_web" s_check_web f_check_web fd_check_web
  g_check_web : mg "_check_web" = some (.ref f_check_web)
  f_neighbour_lists : Addr
  fd_neighbour_lists : FuncData
  F_neighbour_lists : FnP K "_neighbour_lists" "_neighbour_lists" s_neighbour_lists f_neighbour_lists fd_neighbour_lists
  g_neighbour_lists : mg "_neighbour_lists" = some (.ref f_neighbour_lists)
  f_Web_init_ : Addr
  fd_Web_init_ : FuncData
  F_Web_init_ : FnP K "__init__" "Web.__init__" s_Web_init_ f_Web_init_ fd_Web_init_
  M_Web : Mk K a.C_Web f_Web_init_
  f_Web_ties : Addr
  fd_Web_ties : FuncData
  F_Web_ties : FnP K "ties" "Web.ties" s_Web_ties f_Web_ties fd_Web_ties
  p_Web_ties : Addr
  pr_Web_ties : PropOf K a.C_Web "ties" p_Web_ties f_Web_ties
  f_Web_len_ : Addr
  fd_Web_len_ : FuncData
  F_Web_len_ : FnP K "__len__" "Web.__len__" s_Web_len_ f_Web_len_ fd_Web_len_
  l_Web : PySem.W.findIn K (.ref a.C_Web) "__len__" = some (some (.ref f_Web_len_))
  lf_Web : PySem.W.isFn K (.ref f_Web_len_) = true
  f_Web_eq_ : Addr
  fd_Web_eq_ : FuncData
  F_Web_eq_ : FnP K "__eq__" "Web.__eq__" s_Web_eq_ f_Web_eq_ fd_Web_eq_
  q_Web : EqC K a.C_Web f_Web_eq_
  f_is_integer_word : Addr
  fd_is_integer_word : FuncData
  F_is_integer_word : FnP K "is_integer_word" "is_integer_word" s_is_integer_word f_is_integer_word fd_is_integer_word
  g_is_integer_word : mg "is_integer_word" = some (.ref f_is_integer_word)
  f_integers_of : Addr
  fd_integers_of : FuncData
  F_integers_of : FnP K "integers_of" "integers_of" s_integers_of f_integers_of fd_integers_of
  g_integers_of : mg "integers_of" = some (.ref f_integers_of)
  f_show_web : Addr
  fd_show_web : FuncData
  F_show_web : FnP K "show_web" "show_web" s_show_web f_show_web fd_show_web
  g_show_web : mg "show_web" = some (.ref f_show_web)
  f_read_web : Addr
  fd_read_web : FuncData
  F_read_web : FnP K "read_web" "read_web" s_read_web f_read_web fd_read_web
  g_read_web : mg "read_web" = some (.ref f_read_web)
  f_tie_of_word : Addr
  fd_tie_of_word : FuncData
  F_tie_of_word : FnP K "_tie_of_word" "_tie_of_word" s_tie_of_word f_tie_of_word fd_tie_of_word
  g_tie_of_word : mg "_tie_of_word" = some (.ref f_tie_of_word)
  f_law_urn : Addr
  fd_law_urn : FuncData
  F_law_urn : FnP K "_law_urn" "_law_urn" s_law_urn f_law_urn fd_law_urn
  g_law_urn : mg "_law_urn" = some (.ref f_law_urn)
  f_law_pick : Addr
  fd_law_pick : FuncData
  F_law_pick : FnP K "_law_pick" "_law_pick" s_law_pick f_law_pick fd_law_pick
  g_law_pick : mg "_law_pick" = some (.ref f_law_pick)
  f_law_shuffled : Addr
  fd_law_shuffled : FuncData
  F_law_shuffled : FnP K "_law_shuffled" "_law_shuffled" s_law_shuffled f_law_shuffled fd_law_shuffled
  g_law_shuffled : mg "_law_shuffled" = some (.ref f_law_shuffled)
  f_law_web : Addr
  fd_law_web : FuncData
  F_law_web : FnP K "_law_web" "_law_web" s_law_web f_law_web fd_law_web
  g_law_web : mg "_law_web" = some (.ref f_law_web)
  f_law_dense : Addr
  fd_law_dense : FuncData
  F_law_dense : FnP K "_law_dense" "_law_dense" s_law_dense f_law_dense fd_law_dense
  g_law_dense : mg "_law_dense" = some (.ref f_law_dense)
  f_law_right : Addr
  fd_law_right : FuncData
  F_law_right : FnP K "_law_right" "_law_right" s_law_right f_law_right fd_law_right
  g_law_right : mg "_law_right" = some (.ref f_law_right)
  f_law : Addr
  fd_law : FuncData
  F_law : FnP K "law" "law" s_law f_law fd_law
  g_law : mg "law" = some (.ref f_law)
  g_MOST_DIGITS : ∃ t, mg "MOST_DIGITS" = some (.int 30 t)
  z_all : mg "all" = none
  z_bool : mg "bool" = none
  z_int : mg "int" = none
  z_isinstance : mg "isinstance" = none
  z_len : mg "len" = none
  z_list : mg "list" = none
  z_max : mg "max" = none
  z_min : mg "min" = none
  z_range : mg "range" = none
  z_set : mg "set" = none
  z_sorted : mg "sorted" = none
  z_str : mg "str" = none
  z_tuple : mg "tuple" = none
section
variable {P : Program} {w : World} {K : PySem.W.Frag} {mg : Str → Option Value} {base : Heap} {a : Ad}
theorem b_is_count (T : Txt K mg a) : Binds K T.fd_is_count ["value"] [] := T.F_is_count.bindsN fun _ _ _ _ _ _ us hl => match us, hl with | [_], _ => rfl
theorem ok_is_count (T : Txt K mg a) : FnOk P w K mg base CX0 1 T.f_is_count T.fd_is_count ["value"] (sp_is_count K) := by
  refine T.F_is_count.ok sc_is_count (fun vs H Q E h => SpG.len vs H Q E h) (fun cdv A outer s H vs Q E hr h => ⟨t_is_count K, PSs.nox ?_, pure_is_count h⟩)
  show PSs _ _ (t_is_count_0 K)
  exact (pss_one (ps_ret (pe_and (pe_callB c_isi (by rfl) T.z_isinstance bt_isinstance (pa_cons (pv 0) (pa_cons (pe_bltn (v := .ty "int") (by rfl) T.z_int bt_int rfl) pa_nil))) (pe_and (pe_not (pe_callB c_isi (by rfl) T.z_isinstance bt_isinstance (pa_cons (pv 0) (pa_cons (pe_bltn (v := .ty "bool") (by rfl) T.z_bool bt_bool rfl) pa_nil)))) (pe_one (pe_cmpR op_ge (pv 0) pe_int (nomark _)))))))
theorem b_neighbour_lists (T : Txt K mg a) : Binds K T.fd_neighbour_lists ["places", "ties"] [] := T.F_neighbour_lists.bindsN fun _ _ _ _ _ _ us hl => match us, hl with | [_, _], _ => rfl
theorem ok_neighbour_lists (T : Txt K mg a) : FnOk P w K mg base CX0 1 T.f_neighbour_lists T.fd_neighbour_lists ["places", "ties"] (sp_neighbour_lists K) := by
  refine T.F_neighbour_lists.ok sc_neighbour_lists (fun vs H Q E h => SpG.len vs H Q E h) (fun cdv A outer s H vs Q E hr h => ⟨t_neighbour_lists K, PSs.nox ?_, pure_neighbour_lists h⟩)
  show PSs _ _ (t_neighbour_lists_1 K)
  exact (pss_cons (ps_setLc (i := 2) (own := [("place", 5)]) (g := (gName 5)) (tt := tYes) rfl sc_neighbour_lists.nd rfl rfl (sw_true rfl rfl rfl (by decide +kernel)) (pi_range1 (by rfl) T.z_range (pa_cons (pv 0) pa_nil)) (blkOk_by (own := [("place", 5)]) (N := ["places", "ties", "near", "u", "v", "place"]) (sc := defScope s_neighbour_lists) (by decide +kernel)) (fun _ _ _ _ _ => (pg_name (i := 5) sc_neighbour_lists.nd rfl (Or.inl rfl))) (fun _ _ _ _ _ => pts_nil) (fun _ _ _ _ _ => (pe_lst pa_nil))) (pss_cons (ps_for PassesOwn.never rfl (pi_list (pv 1)) (pg_tup rfl (pgs_cons (pg_name (i := 3) sc_neighbour_lists.nd rfl (Or.inl rfl)) (pgs_cons (pg_name (i := 4) sc_neighbour_lists.nd rfl (Or.inl rfl)) pgs_nil))) (pss_cons (ps_expr (pe_bm PySem.F.plainAttrs_list PySem.F.slot_list_append PySem.F.type_list_append mt_append (pe_ix ix_seq (pv 2) (pv 3) (fun _ _ => rfl)) (pa_cons (pv 4) pa_nil))) (pss_one (ps_expr (pe_bm PySem.F.plainAttrs_list PySem.F.slot_list_append PySem.F.type_list_append mt_append (pe_ix ix_seq (pv 2) (pv 4) (fun _ _ => rfl)) (pa_cons (pv 3) pa_nil)))))) (pss_one (ps_ret (pv 2)))))
theorem b_Web_ties (T : Txt K mg a) : Binds K T.fd_Web_ties ["self"] [] := T.F_Web_ties.bindsN fun _ _ _ _ _ _ us hl => match us, hl with | [_], _ => rfl
theorem ok_Web_ties (T : Txt K mg a) : FnOk P w K mg base CX0 1 T.f_Web_ties T.fd_Web_ties ["self"] (sp_Web_ties K a) := by
  refine T.F_Web_ties.ok sc_Web_ties (fun vs H Q E h => SpG.len vs H Q E h) (fun cdv A outer s H vs Q E hr h => ⟨t_Web_ties K a, PSs.nox ?_, pure_Web_ties T.cf h⟩)
  exact (pss_one (ps_ret (pe_callTy c_list (by rfl) T.z_list bt_list (pa_cons (pe_fld (pv 0) rfl) pa_nil))))
theorem b_Web_len_ (T : Txt K mg a) : Binds K T.fd_Web_len_ ["self"] [] := T.F_Web_len_.bindsN fun _ _ _ _ _ _ us hl => match us, hl with | [_], _ => rfl
theorem ok_Web_len_ (T : Txt K mg a) : FnOk P w K mg base CX0 1 T.f_Web_len_ T.fd_Web_len_ ["self"] (sp_Web_len_ K a) := by
  refine T.F_Web_len_.ok sc_Web_len_ (fun vs H Q E h => SpG.len vs H Q E h) (fun cdv A outer s H vs Q E hr h => ⟨t_Web_len_ K a, PSs.nox ?_, pure_Web_len_ T.cf h⟩)
  exact (pss_one (ps_ret (pe_callB c_len (by rfl) T.z_len bt_len (pa_cons (pe_fld (pv 0) rfl) pa_nil))))
theorem b_Web_eq_ (T : Txt K mg a) : Binds K T.fd_Web_eq_ ["self", "other"] [] := T.F_Web_eq_.bindsN fun _ _ _ _ _ _ us hl => match us, hl with | [_, _], _ => rfl
theorem ok_Web_eq_ (T : Txt K mg a) : FnOk P w K mg base CX0 1 T.f_Web_eq_ T.fd_Web_eq_ ["self", "other"] (sp_Web_eq_ K a) := by
  refine T.F_Web_eq_.ok sc_Web_eq_ (fun vs H Q E h => SpG.len vs H Q E h) (fun cdv A outer s H vs Q E hr h => ⟨t_Web_eq_ K a, PSs.nox ?_, pure_Web_eq_ T.cf h⟩)
  exact (pss_one (ps_ret (pe_and (pe_callB c_isi (by rfl) T.z_isinstance bt_isinstance (pa_cons (pv 1) (pa_cons (pe_glob (v := .ref a.C_Web) (by rfl) T.g_Web rfl) pa_nil))) (pe_one (pe_cmpR (op_eqD hr.units) (pe_fld (pv 0) rfl) (pe_fld (pv 1) rfl) (nomark _))))))
theorem b_is_integer_word (T : Txt K mg a) : Binds K T.fd_is_integer_word ["word"] [] := T.F_is_integer_word.bindsN fun _ _ _ _ _ _ us hl => match us, hl with | [_], _ => rfl
theorem ok_is_integer_word (T : Txt K mg a) : FnOk P w K mg base CX0 1 T.f_is_integer_word T.fd_is_integer_word ["word"] (sp_is_integer_word K) := by
  refine T.F_is_integer_word.ok sc_is_integer_word (fun vs H Q E h => SpG.len vs H Q E h) (fun cdv A outer s H vs Q E hr h => ⟨t_is_integer_word K, PSs.nox ?_, pure_is_integer_word h⟩)
  show PSs _ _ (t_is_integer_word_0 K)
  exact (pss_cons (ps_if (PW.pt (pw_or (pt_not (pt_val (pe_m0 PySem.F.slot_str_isascii PySem.F.type_str_isascii mt_isascii (pv 0)))) (pw_or (pt_not (pt_val (pe_m0 PySem.F.slot_str_isdigit PySem.F.type_str_isdigit mt_isdigit (pv 0)))) (pw_or1 (pt_cmpR op_gt (pe_callB c_len (by rfl) T.z_len bt_len (pa_cons (pv 0) pa_nil)) (pe_globI (by rfl) T.g_MOST_DIGITS) (nomark _)))))) (pss_one (ps_ret pe_bl)) pss_nil) (pss_one (ps_ret (pe_or (pe_cmpR (op_eqD hr.units) (pv 0) pe_str (nomark _)) (pe_one (pe_not (pe_m1 PySem.F.slot_str_startswith PySem.F.type_str_startswith mt_startswith (pv 0) pe_str)))))))
theorem b_law_urn (T : Txt K mg a) : Binds K T.fd_law_urn ["script", "k"] [] := T.F_law_urn.bindsN fun _ _ _ _ _ _ us hl => match us, hl with | [_, _], _ => rfl
theorem ok_law_urn (T : Txt K mg a) : FnOk P w K mg base CX0 1 T.f_law_urn T.fd_law_urn ["script", "k"] (sp_law_urn K) := by
  refine T.F_law_urn.ok sc_law_urn (fun vs H Q E h => SpG.len vs H Q E h) (fun cdv A outer s H vs Q E hr h => ⟨t_law_urn K, PSs.nox ?_, pure_law_urn h⟩)
  exact (pss_cons (ps_set (i := 2) sc_law_urn.nd rfl (Or.inl rfl) (pe_op op_plus (pe_op op_mul pe_int (pv 1)) pe_int)) (pss_cons (ps_if (pt_cmpR op_lt (pv 1) (pe_callB c_len (by rfl) T.z_len bt_len (pa_cons (pv 0) pa_nil)) (nomark _)) (pss_one (ps_set (i := 2) sc_law_urn.nd rfl (Or.inl rfl) (pe_ix ix_seq (pv 0) (pv 1) (fun _ _ => rfl)))) pss_nil) (pss_one (ps_ret (pe_lst (pa_cons (pe_callB (c_max rfl) (by rfl) T.z_max bt_max (pa_cons pe_int (pa_cons (pe_op op_sub (pv 2) (pe_op op_pow pe_int pe_int)) pa_nil))) (pa_cons (pe_op op_plus (pe_op op_mod (pe_callTy c_int (by rfl) T.z_int bt_int (pa_cons (pv 2) pa_nil)) (pe_op op_plus (pe_op op_pow pe_int pe_int) pe_int)) (pv 1)) (pa_cons pe_int pa_nil))))))))
theorem b_law_pick (T : Txt K mg a) : Binds K T.fd_law_pick ["urn", "many"] [] := T.F_law_pick.bindsN fun _ _ _ _ _ _ us hl => match us, hl with | [_, _], _ => rfl
theorem ok_law_pick (T : Txt K mg a) : FnOk P w K mg base CX0 1 T.f_law_pick T.fd_law_pick ["urn", "many"] (sp_law_pick K) := by
  refine T.F_law_pick.ok sc_law_pick (fun vs H Q E h => SpG.len vs H Q E h) (fun cdv A outer s H vs Q E hr h => ⟨t_law_pick K, PSs.nox ?_, pure_law_pick h⟩)
  exact (pss_cons (ps_if (pt_cmpR op_gt (pe_ix ix_seq (pv 0) pe_int (fun _ _ => rfl)) pe_int (nomark _)) (pss_cons (ps_set (i := 2) sc_law_pick.nd rfl (Or.inl rfl) (pe_op op_mod (pe_callTy c_int (by rfl) T.z_int bt_int (pa_cons (pe_ix ix_seq (pv 0) pe_int (fun _ _ => rfl)) pa_nil)) (pv 1))) (pss_cons (ps_asg (pe_op op_fdivW (pe_ix ix_seq (pv 0) pe_int (fun _ _ => rfl)) (pv 1)) (pg_sub (pv 0) pe_int set_list)) (pss_one (ps_ret (pv 2))))) pss_nil) (pss_cons (ps_asg (pe_op op_plus (pe_ix ix_seq (pv 0) pe_int (fun _ _ => rfl)) pe_int) (pg_sub (pv 0) pe_int set_list)) (pss_cons (ps_set (i := 3) sc_law_pick.nd rfl (Or.inl rfl) (pe_ix ix_seq (pv 0) pe_int (fun _ _ => rfl))) (pss_cons (ps_set (i := 4) sc_law_pick.nd rfl (Or.inl rfl) (pe_op op_mod (pe_callTy c_int (by rfl) T.z_int bt_int (pa_cons (pe_op op_plus (pe_op op_plus (pe_ix ix_seq (pv 0) pe_int (fun _ _ => rfl)) (pe_op op_mul (pv 3) pe_int)) (pe_op op_mul (pe_op op_mul (pv 3) (pv 3)) pe_int)) pa_nil)) pe_int)) (pss_cons (ps_set (i := 4) sc_law_pick.nd rfl (Or.inl rfl) (pe_op op_mod (pe_callTy c_int (by rfl) T.z_int bt_int (pa_cons (pe_op op_plus (pe_op op_plus (pe_op op_mul (pv 4) (pv 4)) (pe_op op_fdivW (pe_ix ix_seq (pv 0) pe_int (fun _ _ => rfl)) pe_int)) (pe_op op_mul pe_int (pv 3))) pa_nil)) pe_int)) (pss_cons (ps_set (i := 4) sc_law_pick.nd rfl (Or.inl rfl) (pe_op op_mod (pe_callTy c_int (by rfl) T.z_int bt_int (pa_cons (pe_op op_plus (pe_op op_mul (pe_op op_mul (pv 4) (pv 4)) pe_int) (pv 4)) pa_nil)) (pe_ix ix_seq (pe_lst (pa_cons pe_int (pa_cons pe_int (pa_cons pe_int (pa_cons pe_int pa_nil))))) (pe_op op_mod (pe_callTy c_int (by rfl) T.z_int bt_int (pa_cons (pv 3) pa_nil)) pe_int) (fun _ _ => rfl)))) (pss_one (ps_ret (pe_op op_mod (pe_callTy c_int (by rfl) T.z_int bt_int (pa_cons (pe_op op_fdivW (pv 4) pe_int) pa_nil)) (pv 1))))))))))
theorem b_is_tie (T : Txt K mg a) : Binds K T.fd_is_tie ["places", "value"] [] := T.F_is_tie.bindsN fun _ _ _ _ _ _ us hl => match us, hl with | [_, _], _ => rfl
theorem ok_is_tie (T : Txt K mg a) : FnOk P w K mg base CX0 2 T.f_is_tie T.fd_is_tie ["places", "value"] (sp_is_tie K) := by
  refine T.F_is_tie.ok sc_is_tie (fun vs H Q E h => SpG.len vs H Q E h) (fun cdv A outer s H vs Q E hr h => ⟨t_is_tie K, PSs.nox ?_, pure_is_tie h⟩)
  show PSs _ _ (t_is_tie_1 K)
  exact (pss_cons (ps_if (PW.pt (pw_or (pt_not (pt_val (pe_callB c_isi (by rfl) T.z_isinstance bt_isinstance (pa_cons (pv 1) (pa_cons (pe_bltn (v := .ty "tuple") (by rfl) T.z_tuple bt_tuple rfl) pa_nil))))) (pw_or1 (pt_cmpR (op_neD hr.units) (pe_callB c_len (by rfl) T.z_len bt_len (pa_cons (pv 1) pa_nil)) pe_int (nomark _))))) (pss_one (ps_ret pe_bl)) pss_nil) (pss_cons (ps_asg (pv 1) (pg_tup rfl (pgs_cons (pg_name (i := 2) sc_is_tie.nd rfl (Or.inl rfl)) (pgs_cons (pg_name (i := 3) sc_is_tie.nd rfl (Or.inl rfl)) pgs_nil)))) (pss_one (ps_ret (pe_and (pe_call (ok_is_count T) (hr.mono (by decide)) (by rfl) T.g_is_count T.F_is_count.kp (b_is_count T) .nil pass0 (pa_cons (pv 2) pa_nil)) (pe_and (pe_call (ok_is_count T) (hr.mono (by decide)) (by rfl) T.g_is_count T.F_is_count.kp (b_is_count T) .nil pass0 (pa_cons (pv 3) pa_nil)) (pe_one (pe_chain op_lt op_lt (pv 2) (pv 3) (pv 0)))))))))
theorem b_integers_of (T : Txt K mg a) : Binds K T.fd_integers_of ["words"] [] := T.F_integers_of.bindsN fun _ _ _ _ _ _ us hl => match us, hl with | [_], _ => rfl
theorem ok_integers_of (T : Txt K mg a) : FnOk P w K mg base CX0 2 T.f_integers_of T.fd_integers_of ["words"] (sp_integers_of K) := by
  refine T.F_integers_of.ok sc_integers_of (fun vs H Q E h => SpG.len vs H Q E h) (fun cdv A outer s H vs Q E hr h => ⟨t_integers_of K, PSs.nox ?_, pure_integers_of h⟩)
  show PSs _ _ (t_integers_of_0 K)
  exact (pss_cons (ps_if (pt_not (pt_val (pe_callB (c_all rfl) (by rfl) T.z_all bt_all (pa_cons (pe_lc (own := [("word", 1)]) (g := (gName 1)) (tt := tYes) rfl sc_integers_of.nd (pi_list (pv 0)) (blkOk_by (own := [("word", 1)]) (N := ["words", "word"]) (sc := defScope s_integers_of) (by decide +kernel)) (fun _ _ _ _ _ => (pg_name (i := 1) sc_integers_of.nd rfl (Or.inl rfl))) (fun _ _ _ _ _ => pts_nil) (fun _ _ _ _ _ => (pe_call (ok_is_integer_word T) (hr.mono (by decide)) (by rfl) T.g_is_integer_word T.F_is_integer_word.kp (b_is_integer_word T) .nil pass0 (pa_cons (pv 1) pa_nil)))) pa_nil)))) (pss_one (ps_ret pe_non)) pss_nil) (pss_one (ps_ret (pe_lc (own := [("word", 1)]) (g := (gName 1)) (tt := tYes) rfl sc_integers_of.nd (pi_list (pv 0)) (blkOk_by (own := [("word", 1)]) (N := ["words", "word"]) (sc := defScope s_integers_of) (by decide +kernel)) (fun _ _ _ _ _ => (pg_name (i := 1) sc_integers_of.nd rfl (Or.inl rfl))) (fun _ _ _ _ _ => pts_nil) (fun _ _ _ _ _ => (pe_callTy c_intT (by rfl) T.z_int bt_int (pa_cons (pv 1) pa_nil)))))))
theorem b_law_shuffled (T : Txt K mg a) : Binds K T.fd_law_shuffled ["urn", "things"] [] := T.F_law_shuffled.bindsN fun _ _ _ _ _ _ us hl => match us, hl with | [_, _], _ => rfl
theorem ok_law_shuffled (T : Txt K mg a) : FnOk P w K mg base CX0 2 T.f_law_shuffled T.fd_law_shuffled ["urn", "things"] (sp_law_shuffled K) := by
  refine T.F_law_shuffled.ok sc_law_shuffled (fun vs H Q E h => SpG.len vs H Q E h) (fun cdv A outer s H vs Q E hr h => ⟨t_law_shuffled K, PSs.nox ?_, pure_law_shuffled h⟩)
  exact (pss_cons (ps_set (i := 2) sc_law_shuffled.nd rfl (Or.inl rfl) (pe_callTy c_list (by rfl) T.z_list bt_list (pa_cons (pv 1) pa_nil))) (pss_cons (ps_set (i := 3) sc_law_shuffled.nd rfl (Or.inl rfl) (pe_lst pa_nil)) (pss_cons (ps_for PassesOwn.never rfl (pi_range1 (by rfl) T.z_range (pa_cons (pe_callB c_len (by rfl) T.z_len bt_len (pa_cons (pv 1) pa_nil)) pa_nil)) (pg_name (i := 4) sc_law_shuffled.nd rfl (Or.inl rfl)) (pss_one (ps_expr (pe_bm PySem.F.plainAttrs_list PySem.F.slot_list_append PySem.F.type_list_append mt_append (pv 3) (pa_cons (pe_bm PySem.F.plainAttrs_list PySem.F.slot_list_pop PySem.F.type_list_pop mt_popAt (pv 2) (pa_cons (pe_call (ok_law_pick T) (hr.mono (by decide)) (by rfl) T.g_law_pick T.F_law_pick.kp (b_law_pick T) .nil pass0 (pa_cons (pv 0) (pa_cons (pe_callB c_len (by rfl) T.z_len bt_len (pa_cons (pv 2) pa_nil)) pa_nil))) pa_nil)) pa_nil))))) (pss_one (ps_ret (pv 3))))))
theorem b_law_dense (T : Txt K mg a) : Binds K T.fd_law_dense ["urn"] [] := T.F_law_dense.bindsN fun _ _ _ _ _ _ us hl => match us, hl with | [_], _ => rfl
theorem ok_law_dense (T : Txt K mg a) : FnOk P w K mg base CX0 2 T.f_law_dense T.fd_law_dense ["urn"] (sp_law_dense K) := by
  refine T.F_law_dense.ok sc_law_dense (fun vs H Q E h => SpG.len vs H Q E h) (fun cdv A outer s H vs Q E hr h => ⟨t_law_dense K, PSs.nox ?_, pure_law_dense h⟩)
  show PSs _ _ (t_law_dense_3 K)
  exact (pss_cons (ps_set (i := 1) sc_law_dense.nd rfl (Or.inr rfl) (pe_op op_plus pe_int (pe_call (ok_law_pick T) (hr.mono (by decide)) (by rfl) T.g_law_pick T.F_law_pick.kp (b_law_pick T) .nil pass0 (pa_cons (pv 0) (pa_cons pe_int pa_nil))))) (pss_cons (ps_set (i := 2) sc_law_dense.nd rfl (Or.inr rfl) (pe_lc (own := [("k", 5)]) (g := (gName 5)) (tt := tYes) rfl sc_law_dense.nd (pi_range1 (by rfl) T.z_range (pa_cons pe_int pa_nil)) (blkOk_by (own := [("k", 5)]) (N := ["urn", "places", "gone", "ties", "u", "k", "v"]) (sc := defScope s_law_dense) (by decide +kernel)) (fun _ _ _ _ _ => (pg_name (i := 5) sc_law_dense.nd rfl (Or.inl rfl))) (fun _ _ _ _ _ => pts_nil) (fun _ _ _ _ _ => (pe_call (ok_law_pick T) (hr.mono (by decide)) (by rfl) T.g_law_pick T.F_law_pick.kp (b_law_pick T) .nil pass0 (pa_cons (pv 0) (pa_cons (pv 1) pa_nil)))))) (pss_cons (ps_set (i := 3) sc_law_dense.nd rfl (Or.inl rfl) (pe_lst pa_nil)) (pss_cons (ps_for PassesOwn.never rfl (pi_range1 (by rfl) T.z_range (pa_cons (pv 1) pa_nil)) (pg_name (i := 4) sc_law_dense.nd rfl (Or.inr rfl)) (pss_one (ps_expr (pe_bm PySem.F.plainAttrs_list PySem.F.slot_list_extend PySem.F.type_list_extend mt_extend (pv 3) (pa_cons (pe_lc (own := [("v", 6)]) (g := (gName 6)) (tt := (tOr (tTest (tOp (rNotInD K) (tVar 4) (tVar 2))) (tTest (tOp (rNotInD K) (tVar 6) (tVar 2))))) rfl sc_law_dense.nd (pi_range2 (by rfl) T.z_range (pa_cons (pe_op op_plus (pv 4) pe_int) (pa_cons (pv 1) pa_nil))) (blkOk_by (own := [("v", 6)]) (N := ["urn", "places", "gone", "ties", "u", "k", "v"]) (sc := defScope s_law_dense) (by decide +kernel)) (fun _ _ _ _ _ => (pg_name (i := 6) sc_law_dense.nd rfl (Or.inl rfl))) (fun _ _ _ _ _ => (pts_one (PW.pt (pw_or (pt_cmpR (op_notInD (un65 hr)) (pv 4) (pv 2) (by rfl)) (pw_or1 (pt_cmpR (op_notInD (un65 hr)) (pv 6) (pv 2) (by rfl))))))) (fun _ _ _ _ _ => (pe_tup (pa_cons (pv 4) (pa_cons (pv 6) pa_nil))))) pa_nil))))) (pss_one (ps_ret (pe_tup (pa_cons (pv 1) (pa_cons (pv 3) pa_nil)))))))))
theorem b_check_web (T : Txt K mg a) : Binds K T.fd_check_web ["places", "ties"] [] := T.F_check_web.bindsN fun _ _ _ _ _ _ us hl => match us, hl with | [_, _], _ => rfl
theorem ok_check_web (T : Txt K mg a) : FnOk P w K mg base (L2.CX P w) 3 T.f_check_web T.fd_check_web ["places", "ties"] (sp_check_web K a) := by
  refine T.F_check_web.ok sc_check_web (fun vs H Q E h => SpG.len vs H Q E h) (fun cdv A outer s H vs Q E hr h => ⟨t_check_web K a E, ?_, pure_check_web T.cf h⟩)
  exact (pss_cons (ps_if (pt_not (pt_val (pe_call (ok_is_count T) (hr.mono (by decide)) (by rfl) T.g_is_count T.F_is_count.kp (b_is_count T) .nil pass0 (pa_cons (pv 0) pa_nil)))) (pss_one (ps_raise rfl (takes_of rfl rfl rfl rfl) (pmk_own PySem.F.excBase_ValueError T.xF_InvalidWeb T.g_InvalidWeb T.kF_InvalidWeb (raises_own T.bF_InvalidWeb T.tF_InvalidWeb) (by exact rfl)))) pss_nil) (pss_cons (ps_if (pt_not (pt_val (pe_callB c_isi (by rfl) T.z_isinstance bt_isinstance (pa_cons (pv 1) (pa_cons (pe_bltn (v := .ty "list") (by rfl) T.z_list bt_list rfl) pa_nil))))) (pss_one (ps_raise rfl (takes_of rfl rfl rfl rfl) (pmk_own PySem.F.excBase_ValueError T.xF_InvalidWeb T.g_InvalidWeb T.kF_InvalidWeb (raises_own T.bF_InvalidWeb T.tF_InvalidWeb) (by exact rfl)))) pss_nil) (pss_cons (ps_if (pt_not (pt_val (pe_callB (c_all rfl) (by rfl) T.z_all bt_all (pa_cons (pe_lc (own := [("tie", 2)]) (g := (gName 2)) (tt := tYes) rfl sc_check_web.nd (pi_list (pv 1)) (blkOk_by (own := [("tie", 2)]) (N := ["places", "ties", "tie"]) (sc := defScope s_check_web) (by decide +kernel)) (fun _ _ _ _ _ => (pg_name (i := 2) sc_check_web.nd rfl (Or.inl rfl))) (fun _ _ _ _ _ => pts_nil) (fun _ _ _ _ _ => (pe_call (ok_is_tie T) (hr.mono (by decide)) (by rfl) T.g_is_tie T.F_is_tie.kp (b_is_tie T) .nil pass0 (pa_cons (pv 0) (pa_cons (pv 2) pa_nil))))) pa_nil)))) (pss_one (ps_raise rfl (takes_of rfl rfl rfl rfl) (pmk_own PySem.F.excBase_ValueError T.xF_InvalidWeb T.g_InvalidWeb T.kF_InvalidWeb (raises_own T.bF_InvalidWeb T.tF_InvalidWeb) (by exact rfl)))) pss_nil) (pss_one (ps_if (pt_cmpR op_lt (GW.pe_lenSetW rfl (by rfl) T.z_len (by rfl) T.z_set (un64 hr) (pv 1)) (pe_callB c_len (by rfl) T.z_len bt_len (pa_cons (pv 1) pa_nil)) (nomark _)) (pss_one (ps_raise rfl (takes_of rfl rfl rfl rfl) (pmk_own PySem.F.excBase_ValueError T.xF_InvalidWeb T.g_InvalidWeb T.kF_InvalidWeb (raises_own T.bF_InvalidWeb T.tF_InvalidWeb) (by exact rfl)))) pss_nil)))))
theorem b_show_web (T : Txt K mg a) : Binds K T.fd_show_web ["web"] [] := T.F_show_web.bindsN fun _ _ _ _ _ _ us hl => match us, hl with | [_], _ => rfl
theorem ok_show_web (T : Txt K mg a) : FnOk P w K mg base CX0 3 T.f_show_web T.fd_show_web ["web"] (sp_show_web K a) := by
  refine T.F_show_web.ok sc_show_web (fun vs H Q E h => SpG.len vs H Q E h) (fun cdv A outer s H vs Q E hr h => ⟨t_show_web K a, PSs.nox ?_, pure_show_web T.cf h⟩)
  show PSs _ _ (t_show_web_0 K a)
  exact (pss_one (ps_ret (pe_join pe_str (pe_op op_plus (pe_lst (pa_cons (pe_callTy c_strI (by rfl) T.z_str bt_str (pa_cons (pe_callB (c_lenOwn T.l_Web T.lf_Web (ok_Web_len_ T) (hr.mono (by decide)) (b_Web_len_ T) pass0) (by rfl) T.z_len bt_len (pa_cons (pv 0) pa_nil)) pa_nil)) pa_nil)) (pe_lc (own := [("u", 1), ("v", 2)]) (g := (gTup K 2 (gCons (gName 1) (gCons (gName 2) gNil)))) (tt := tYes) rfl sc_show_web.nd (pi_list (pe_prop (pv 0) T.cf.cl_Web T.pr_Web_ties (ok_Web_ties T) (hr.mono (by decide)) (b_Web_ties T) .nil pass0 rfl)) (blkOk_by (own := [("u", 1), ("v", 2)]) (N := ["web", "u", "v"]) (sc := defScope s_show_web) (by decide +kernel)) (fun _ _ _ _ _ => (pg_tup rfl (pgs_cons (pg_name (i := 1) sc_show_web.nd rfl (Or.inl rfl)) (pgs_cons (pg_name (i := 2) sc_show_web.nd rfl (Or.inl rfl)) pgs_nil)))) (fun _ _ _ _ _ => pts_nil) (fun _ _ _ _ _ => (pe_joined (.cons (pe_fmt (pv 1)) (.cons pe_str (.cons (pe_fmt (pv 2)) .nil))))))))))
theorem b_tie_of_word (T : Txt K mg a) : Binds K T.fd_tie_of_word ["word"] [] := T.F_tie_of_word.bindsN fun _ _ _ _ _ _ us hl => match us, hl with | [_], _ => rfl
theorem ok_tie_of_word (T : Txt K mg a) : FnOk P w K mg base CX0 3 T.f_tie_of_word T.fd_tie_of_word ["word"] (sp_tie_of_word K) := by
  refine T.F_tie_of_word.ok sc_tie_of_word (fun vs H Q E h => SpG.len vs H Q E h) (fun cdv A outer s H vs Q E hr h => ⟨t_tie_of_word K, PSs.nox ?_, pure_tie_of_word h⟩)
  show PSs _ _ (t_tie_of_word_0 K)
  exact (pss_cons (ps_set (i := 1) sc_tie_of_word.nd rfl (Or.inl rfl) (pe_call (ok_integers_of T) (hr.mono (by decide)) (by rfl) T.g_integers_of T.F_integers_of.kp (b_integers_of T) .nil pass0 (pa_cons (pe_split (pv 0) pe_str) pa_nil))) (pss_one (ps_ret (pe_ifExp (pt_cmpR op_isN0 (pv 1) pe_non (nomark _)) pe_non (pe_callTy c_tuple (by rfl) T.z_tuple bt_tuple (pa_cons (pv 1) pa_nil))))))
theorem b_law_web (T : Txt K mg a) : Binds K T.fd_law_web ["urn", "most"] [] := T.F_law_web.bindsN fun _ _ _ _ _ _ us hl => match us, hl with | [_, _], _ => rfl
theorem ok_law_web (T : Txt K mg a) : FnOk P w K mg base CX0 3 T.f_law_web T.fd_law_web ["urn", "most"] (sp_law_web K) := by
  refine T.F_law_web.ok sc_law_web (fun vs H Q E h => SpG.len vs H Q E h) (fun cdv A outer s H vs Q E hr h => ⟨t_law_web K, PSs.nox ?_, pure_law_web h⟩)
  show PSs _ _ (t_law_web_12 K)
  exact (pss_cons (ps_set (i := 2) sc_law_web.nd rfl (Or.inl rfl) (pe_call (ok_law_pick T) (hr.mono (by decide)) (by rfl) T.g_law_pick T.F_law_pick.kp (b_law_pick T) .nil pass0 (pa_cons (pv 0) (pa_cons (pe_op op_plus (pv 1) pe_int) pa_nil)))) (pss_cons (ps_set (i := 3) sc_law_web.nd rfl (Or.inl rfl) (pe_listRg rfl (by rfl) T.z_list (prg_1 (by rfl) T.z_range (pv 2)))) (pss_cons (ps_if (pt_cmpR (op_eqD hr.units) (pe_call (ok_law_pick T) (hr.mono (by decide)) (by rfl) T.g_law_pick T.F_law_pick.kp (b_law_pick T) .nil pass0 (pa_cons (pv 0) (pa_cons pe_int pa_nil))) pe_int (nomark _)) (pss_one (ps_set (i := 3) sc_law_web.nd rfl (Or.inl rfl) (pe_call (ok_law_shuffled T) (hr.mono (by decide)) (by rfl) T.g_law_shuffled T.F_law_shuffled.kp (b_law_shuffled T) .nil pass0 (pa_cons (pv 0) (pa_cons (pv 3) pa_nil))))) pss_nil) (pss_cons (ps_set (i := 4) sc_law_web.nd rfl (Or.inl rfl) (pe_call (ok_law_pick T) (hr.mono (by decide)) (by rfl) T.g_law_pick T.F_law_pick.kp (b_law_pick T) .nil pass0 (pa_cons (pv 0) (pa_cons pe_int pa_nil)))) (pss_cons (ps_set (i := 5) sc_law_web.nd rfl (Or.inr rfl) (pe_op op_plus pe_int (pe_call (ok_law_pick T) (hr.mono (by decide)) (by rfl) T.g_law_pick T.F_law_pick.kp (b_law_pick T) .nil pass0 (pa_cons (pv 0) (pa_cons pe_int pa_nil))))) (pss_cons (ps_set (i := 6) sc_law_web.nd rfl (Or.inl rfl) (pe_lst pa_nil)) (pss_cons (ps_if (PW.pt (pw_and (pt_cmpR (op_eqD hr.units) (pv 4) pe_int (nomark _)) (pw_and1 (pt_cmpR op_le (pv 2) pe_int (nomark _))))) (pss_one (ps_for PassesOwn.never rfl (pi_range1 (by rfl) T.z_range (pa_cons (pv 2) pa_nil)) (pg_name (i := 7) sc_law_web.nd rfl (Or.inr rfl)) (pss_one (ps_expr (pe_bm PySem.F.plainAttrs_list PySem.F.slot_list_extend PySem.F.type_list_extend mt_extend (pv 6) (pa_cons (pe_lc (own := [("u", 10)]) (g := (gName 10)) (tt := (tTest (tOp (rEqD K) (tCall (sp_law_pick K) [] E0 (tCons (tVar 0) (tCons (tVar 5) tNil))) (tC (.int 0))))) rfl sc_law_web.nd (pi_range1 (by rfl) T.z_range (pa_cons (pv 7) pa_nil)) (blkOk_by (own := [("u", 10)]) (N := ["urn", "most", "places", "order", "kind", "share", "pairs", "v", "k", "ties", "u", "tie"]) (sc := defScope s_law_web) (by decide +kernel)) (fun _ _ _ _ _ => (pg_name (i := 10) sc_law_web.nd rfl (Or.inl rfl))) (fun _ _ _ _ _ => (pts_one (pt_cmpR (op_eqD hr.units) (pe_call (ok_law_pick T) (hr.mono (by decide)) (by rfl) T.g_law_pick T.F_law_pick.kp (b_law_pick T) .nil pass0 (pa_cons (pv 0) (pa_cons (pv 5) pa_nil))) pe_int (nomark _)))) (fun _ _ _ _ _ => (pe_tup (pa_cons (pv 10) (pa_cons (pv 7) pa_nil))))) pa_nil)))))) (pss_cons (ps_for PassesOwn.never rfl (pi_range2 (by rfl) T.z_range (pa_cons pe_int (pa_cons (pv 2) pa_nil))) (pg_name (i := 7) sc_law_web.nd rfl (Or.inr rfl)) (pss_one (ps_if (pt_cmpR op_lt (pe_call (ok_law_pick T) (hr.mono (by decide)) (by rfl) T.g_law_pick T.F_law_pick.kp (b_law_pick T) .nil pass0 (pa_cons (pv 0) (pa_cons pe_int pa_nil))) pe_int (nomark _)) (pss_one (ps_expr (pe_bm PySem.F.plainAttrs_list PySem.F.slot_list_append PySem.F.type_list_append mt_append (pv 6) (pa_cons (pe_tup (pa_cons (pe_ix ix_seq (pe_lst (pa_cons (pe_op op_sub (pv 7) pe_int) (pa_cons (pe_call (ok_law_pick T) (hr.mono (by decide)) (by rfl) T.g_law_pick T.F_law_pick.kp (b_law_pick T) .nil pass0 (pa_cons (pv 0) (pa_cons (pv 7) pa_nil))) pa_nil))) (pe_callTy c_int (by rfl) T.z_int bt_int (pa_cons (pe_cmpR op_gt (pv 4) pe_int (nomark _)) pa_nil)) (fun _ _ => rfl)) (pa_cons (pv 7) pa_nil))) pa_nil)))) pss_nil))) (pss_cons (ps_if (PW.pt (pw_and (pt_cmpR op_gt (pv 2) pe_int (nomark _)) (pw_and1 (pt_cmpR (op_eqD hr.units) (pe_op op_mod (pe_callTy c_int (by rfl) T.z_int bt_int (pa_cons (pv 4) pa_nil)) pe_int) pe_int (nomark _))))) (pss_one (ps_expr (pe_bm PySem.F.plainAttrs_list PySem.F.slot_list_append PySem.F.type_list_append mt_append (pv 6) (pa_cons (pe_tup (pa_cons pe_int (pa_cons (pe_op op_sub (pv 2) pe_int) pa_nil))) pa_nil)))) pss_nil) (pss_one (ps_for PassesOwn.never rfl (pi_range1 (by rfl) T.z_range (pa_cons (pe_call (ok_law_pick T) (hr.mono (by decide)) (by rfl) T.g_law_pick T.F_law_pick.kp (b_law_pick T) .nil pass0 (pa_cons (pv 0) (pa_cons pe_int pa_nil))) pa_nil)) (pg_name (i := 8) sc_law_web.nd rfl (Or.inl rfl)) (pss_one (ps_if (pt_cmpR op_gt (pv 2) pe_int (nomark _)) (pss_cons (ps_set (i := 7) sc_law_web.nd rfl (Or.inr rfl) (pe_op op_plus pe_int (pe_call (ok_law_pick T) (hr.mono (by decide)) (by rfl) T.g_law_pick T.F_law_pick.kp (b_law_pick T) .nil pass0 (pa_cons (pv 0) (pa_cons (pe_op op_sub (pv 2) pe_int) pa_nil))))) (pss_one (ps_expr (pe_bm PySem.F.plainAttrs_list PySem.F.slot_list_append PySem.F.type_list_append mt_append (pv 6) (pa_cons (pe_tup (pa_cons (pe_call (ok_law_pick T) (hr.mono (by decide)) (by rfl) T.g_law_pick T.F_law_pick.kp (b_law_pick T) .nil pass0 (pa_cons (pv 0) (pa_cons (pv 7) pa_nil))) (pa_cons (pv 7) pa_nil))) pa_nil))))) pss_nil))))))) (pss_cons (ps_set (i := 9) sc_law_web.nd rfl (Or.inl rfl) (pe_lst pa_nil)) (pss_cons (ps_for PassesOwn.never rfl (pi_list (pv 6)) (pg_tup rfl (pgs_cons (pg_name (i := 10) sc_law_web.nd rfl (Or.inl rfl)) (pgs_cons (pg_name (i := 7) sc_law_web.nd rfl (Or.inr rfl)) pgs_nil))) (pss_cons (ps_set (i := 11) sc_law_web.nd rfl (Or.inl rfl) (pe_tup (pa_cons (pe_callB (c_min rfl) (by rfl) T.z_min bt_min (pa_cons (pe_ix ix_seq (pv 3) (pv 10) (fun _ _ => rfl)) (pa_cons (pe_ix ix_seq (pv 3) (pv 7) (fun _ _ => rfl)) pa_nil))) (pa_cons (pe_callB (c_max rfl) (by rfl) T.z_max bt_max (pa_cons (pe_ix ix_seq (pv 3) (pv 10) (fun _ _ => rfl)) (pa_cons (pe_ix ix_seq (pv 3) (pv 7) (fun _ _ => rfl)) pa_nil))) pa_nil)))) (pss_one (ps_if (pt_cmpR (op_notInD (un65 hr)) (pv 11) (pv 9) (by rfl)) (pss_one (ps_expr (pe_bm PySem.F.plainAttrs_list PySem.F.slot_list_append PySem.F.type_list_append mt_append (pv 9) (pa_cons (pv 11) pa_nil)))) pss_nil)))) (pss_one (ps_ret (pe_tup (pa_cons (pv 2) (pa_cons (pe_callB c_sorted (by rfl) T.z_sorted bt_sorted (pa_cons (pv 9) pa_nil)) pa_nil))))))))))))))
theorem b_Web_init_ (T : Txt K mg a) : Binds K T.fd_Web_init_ ["self", "places", "ties"] [] := T.F_Web_init_.bindsN fun _ _ _ _ _ _ us hl => match us, hl with | [_, _, _], _ => rfl
theorem ok_Web_init_ (T : Txt K mg a) : FnOk P w K mg base (L2.CX P w) 4 T.f_Web_init_ T.fd_Web_init_ ["self", "places", "ties"] (sp_Web_init_ K a) := by
  refine T.F_Web_init_.ok sc_Web_init_ (fun vs H Q E h => SpG.len vs H Q E h) (fun cdv A outer s H vs Q E hr h => ⟨t_Web_init_ K a E, ?_, pure_Web_init_ T.cf h⟩)
  exact (pss_cons (ps_expr (pe_call (ok_check_web T) (hr.mono (by decide)) (by rfl) T.g_check_web T.F_check_web.kp (b_check_web T) .nil (passes_call (takes_of rfl rfl rfl rfl) (fun _ _ _ _ h => h)) (pa_cons (pv 1) (pa_cons (pv 2) pa_nil)))) (pss_cons (ps_fld (pv 0) (pe_callB c_sorted (by rfl) T.z_sorted bt_sorted (pa_cons (pe_lc (own := [("u", 3), ("v", 4)]) (g := (gTup K 2 (gCons (gName 3) (gCons (gName 4) gNil)))) (tt := tYes) rfl sc_Web_init_.nd (pi_list (pv 2)) (blkOk_by (own := [("u", 3), ("v", 4)]) (N := ["self", "places", "ties", "u", "v"]) (sc := defScope s_Web_init_) (by decide +kernel)) (fun _ _ _ _ _ => (pg_tup rfl (pgs_cons (pg_name (i := 3) sc_Web_init_.nd rfl (Or.inl rfl)) (pgs_cons (pg_name (i := 4) sc_Web_init_.nd rfl (Or.inl rfl)) pgs_nil)))) (fun _ _ _ _ _ => pts_nil) (fun _ _ _ _ _ => (pe_tup (pa_cons (pv 3) (pa_cons (pv 4) pa_nil))))) pa_nil)) rfl) (pss_one (ps_fld (pv 0) (pe_call (ok_neighbour_lists T) (hr.mono (by decide)) (by rfl) T.g_neighbour_lists T.F_neighbour_lists.kp (b_neighbour_lists T) .nil pass0 (pa_cons (pv 1) (pa_cons (pe_fld (pv 0) rfl) pa_nil))) rfl))))
theorem b_read_web (T : Txt K mg a) : Binds K T.fd_read_web ["text"] [] := T.F_read_web.bindsN fun _ _ _ _ _ _ us hl => match us, hl with | [_], _ => rfl
theorem ok_read_web (T : Txt K mg a) : FnOk P w K mg base (L2.CX P w) 6 T.f_read_web T.fd_read_web ["text"] (sp_read_web K a) := by
  refine T.F_read_web.ok sc_read_web (fun vs H Q E h => SpG.len vs H Q E h) (fun cdv A outer s H vs Q E hr h => ⟨t_read_web K a E, ?_, pure_read_web T.cf h⟩)
  show PSs _ _ (t_read_web_3 K a E)
  exact (pss_cons (ps_if (pt_not (pt_val (pe_callB c_isi (by rfl) T.z_isinstance bt_isinstance (pa_cons (pv 0) (pa_cons (pe_bltn (v := .ty "str") (by rfl) T.z_str bt_str rfl) pa_nil))))) (pss_one (ps_raise rfl (takes_of rfl rfl rfl rfl) (pmk_own PySem.F.excBase_ValueError T.xF_InvalidText T.g_InvalidText T.kF_InvalidText (raises_own T.bF_InvalidText T.tF_InvalidText) (by exact rfl)))) pss_nil) (pss_cons (ps_asg (pe_split (pv 0) pe_str) (GST.pg_star rfl (pgs_cons (pg_name (i := 1) sc_read_web.nd rfl (Or.inl rfl)) (pgs_cons (pg_name (i := 2) sc_read_web.nd rfl (Or.inl rfl)) pgs_nil)))) (pss_cons (ps_set (i := 3) sc_read_web.nd rfl (Or.inl rfl) (pe_call (ok_integers_of T) (hr.mono (by decide)) (by rfl) T.g_integers_of T.F_integers_of.kp (b_integers_of T) .nil pass0 (pa_cons (pe_lst (pa_cons (pv 1) pa_nil)) pa_nil))) (pss_cons (ps_setLc (i := 4) (own := [("word", 6)]) (g := (gName 6)) (tt := tYes) rfl sc_read_web.nd rfl rfl (sw_true rfl rfl rfl (by decide +kernel)) (pi_list (pv 2)) (blkOk_by (own := [("word", 6)]) (N := ["text", "first", "others", "places", "ties", "error", "word"]) (sc := defScope s_read_web) (by decide +kernel)) (fun _ _ _ _ _ => (pg_name (i := 6) sc_read_web.nd rfl (Or.inl rfl))) (fun _ _ _ _ _ => pts_nil) (fun _ _ _ _ _ => (pe_call (ok_tie_of_word T) (hr.mono (by decide)) (by rfl) T.g_tie_of_word T.F_tie_of_word.kp (b_tie_of_word T) .nil pass0 (pa_cons (pv 6) pa_nil)))) (pss_cons (ps_if (PW.pt (pw_or (pt_cmpR op_isN0 (pv 3) pe_non (nomark _)) (pw_or1 (pt_cmpR (op_inD (un65 hr)) pe_non (pv 4) (by rfl))))) (pss_one (ps_raise rfl (takes_of rfl rfl rfl rfl) (pmk_own PySem.F.excBase_ValueError T.xF_InvalidText T.g_InvalidText T.kF_InvalidText (raises_own T.bF_InvalidText T.tF_InvalidText) (by exact rfl)))) pss_nil) (pss_cons (ps_if (pt_cmpR (op_neD hr.units) (pv 4) (pe_callB c_sorted (by rfl) T.z_sorted bt_sorted (pa_cons (pv 4) pa_nil)) (nomark _)) (pss_one (ps_raise rfl (takes_of rfl rfl rfl rfl) (pmk_own PySem.F.excBase_ValueError T.xF_InvalidText T.g_InvalidText T.kF_InvalidText (raises_own T.bF_InvalidText T.tF_InvalidText) (by exact rfl)))) pss_nil) (pss_one (GST.ps_try_void rfl rfl (fun pn xe tk _ => (pss_one (ps_ret (pe_make T.M_Web (ok_Web_init_ T) (hr.mono (by decide)) (by rfl) T.g_Web (b_Web_init_ T) .nil (passes_call takes0 (fun _ _ _ _ h => h)) (pa_cons (pe_ix ix_seq (pv 3) pe_int (fun _ _ => rfl)) (pa_cons (pv 4) pa_nil))))))))))))))
theorem b_law_right (T : Txt K mg a) : Binds K T.fd_law_right ["urn"] [] := T.F_law_right.bindsN fun _ _ _ _ _ _ us hl => match us, hl with | [_], _ => rfl
theorem ok_law_right (T : Txt K mg a) : FnOk P w K mg base CX0 7 T.f_law_right T.fd_law_right ["urn"] (sp_law_right K a) := by
  refine T.F_law_right.ok sc_law_right (fun vs H Q E h => SpG.len vs H Q E h) (fun cdv A outer s H vs Q E hr h => ⟨t_law_right K a, PSs.nox ?_, pure_law_right T.cf h⟩)
  exact (pss_cons (ps_set (i := 1) sc_law_right.nd rfl (Or.inl rfl) (pe_call (ok_law_pick T) (hr.mono (by decide)) (by rfl) T.g_law_pick T.F_law_pick.kp (b_law_pick T) .nil pass0 (pa_cons (pv 0) (pa_cons pe_int pa_nil)))) (pss_cons (ps_asg (pe_call (ok_law_web T) (hr.mono (by decide)) (by rfl) T.g_law_web T.F_law_web.kp (b_law_web T) .nil pass0 (pa_cons (pv 0) (pa_cons (pe_ix ix_seq (pe_lst (pa_cons pe_int (pa_cons pe_int pa_nil))) (pe_callTy c_int (by rfl) T.z_int bt_int (pa_cons (pe_cmpR (op_eqD hr.units) (pv 1) pe_int (nomark _)) pa_nil)) (fun _ _ => rfl)) pa_nil))) (pg_tup rfl (pgs_cons (pg_name (i := 2) sc_law_right.nd rfl (Or.inl rfl)) (pgs_cons (pg_name (i := 3) sc_law_right.nd rfl (Or.inl rfl)) pgs_nil)))) (pss_cons (ps_if (pt_cmpR (op_eqD hr.units) (pv 1) pe_int (nomark _)) (pss_one (ps_asg (pe_call (ok_law_dense T) (hr.mono (by decide)) (by rfl) T.g_law_dense T.F_law_dense.kp (b_law_dense T) .nil pass0 (pa_cons (pv 0) pa_nil)) (pg_tup rfl (pgs_cons (pg_name (i := 2) sc_law_right.nd rfl (Or.inl rfl)) (pgs_cons (pg_name (i := 3) sc_law_right.nd rfl (Or.inl rfl)) pgs_nil))))) pss_nil) (pss_cons (ps_set (i := 4) sc_law_right.nd rfl (Or.inl rfl) (pe_join pe_str (pe_op op_plus (pe_lst (pa_cons (pe_callTy c_strI (by rfl) T.z_str bt_str (pa_cons (pv 2) pa_nil)) pa_nil)) (pe_lc (own := [("u", 9), ("v", 10)]) (g := (gTup K 2 (gCons (gName 9) (gCons (gName 10) gNil)))) (tt := tYes) rfl sc_law_right.nd (pi_list (pv 3)) (blkOk_by (own := [("u", 9), ("v", 10)]) (N := ["urn", "size", "places", "ties", "due", "built", "turn", "found", "again", "u", "v"]) (sc := defScope s_law_right) (by decide +kernel)) (fun _ _ _ _ _ => (pg_tup rfl (pgs_cons (pg_name (i := 9) sc_law_right.nd rfl (Or.inl rfl)) (pgs_cons (pg_name (i := 10) sc_law_right.nd rfl (Or.inl rfl)) pgs_nil)))) (fun _ _ _ _ _ => pts_nil) (fun _ _ _ _ _ => (pe_op op_plus (pe_op op_plus (pe_callTy c_strI (by rfl) T.z_str bt_str (pa_cons (pv 9) pa_nil)) pe_str) (pe_callTy c_strI (by rfl) T.z_str bt_str (pa_cons (pv 10) pa_nil)))))))) (pss_cons (ps_set (i := 5) sc_law_right.nd rfl (Or.inl rfl) (pe_make T.M_Web (ok_Web_init_ T) (hr.mono (by decide)) (by rfl) T.g_Web (b_Web_init_ T) .nil (passes_call takes0 (fun _ _ _ _ h => h)) (pa_cons (pv 2) (pa_cons (pe_call (ok_law_shuffled T) (hr.mono (by decide)) (by rfl) T.g_law_shuffled T.F_law_shuffled.kp (b_law_shuffled T) .nil pass0 (pa_cons (pv 0) (pa_cons (pv 3) pa_nil))) pa_nil)))) (pss_cons (ps_for PassesOwn.never rfl (pi_range1 (by rfl) T.z_range (pa_cons pe_int pa_nil)) (pg_name (i := 6) sc_law_right.nd rfl (Or.inl rfl)) (pss_cons (ps_set (i := 7) sc_law_right.nd rfl (Or.inl rfl) (pe_call (ok_show_web T) (hr.mono (by decide)) (by rfl) T.g_show_web T.F_show_web.kp (b_show_web T) .nil pass0 (pa_cons (pv 5) pa_nil))) (pss_cons (ps_if (PW.pt (pw_or (pt_not (pt_val (pe_callB c_isi (by rfl) T.z_isinstance bt_isinstance (pa_cons (pv 7) (pa_cons (pe_bltn (v := .ty "str") (by rfl) T.z_str bt_str rfl) pa_nil))))) (pw_or (pt_cmpR (op_neD hr.units) (pv 7) (pv 4) (nomark _)) (pw_or1 (pt_cmpR (op_neD hr.units) (pe_prop (pv 5) T.cf.cl_Web T.pr_Web_ties (ok_Web_ties T) (hr.mono (by decide)) (b_Web_ties T) .nil pass0 rfl) (pv 3) (nomark _)))))) (pss_one (ps_ret pe_bl)) pss_nil) (pss_cons (ps_set (i := 8) sc_law_right.nd rfl (Or.inl rfl) (pe_call (ok_read_web T) (hr.mono (by decide)) (by rfl) T.g_read_web T.F_read_web.kp (b_read_web T) .nil (passes_call takes0 (fun _ _ _ _ h => h)) (pa_cons (pv 4) pa_nil))) (pss_cons (ps_if (PW.pt (pw_or (pt_not (pt_val (pe_callB c_isi (by rfl) T.z_isinstance bt_isinstance (pa_cons (pv 8) (pa_cons (pe_glob (v := .ref a.C_Web) (by rfl) T.g_Web rfl) pa_nil))))) (pw_or (pt_cmpR (op_neD hr.units) (pe_callB (c_lenOwn T.l_Web T.lf_Web (ok_Web_len_ T) (hr.mono (by decide)) (b_Web_len_ T) pass0) (by rfl) T.z_len bt_len (pa_cons (pv 8) pa_nil)) (pv 2) (nomark _)) (pw_or (pt_cmpR (op_neD hr.units) (pe_prop (pv 8) T.cf.cl_Web T.pr_Web_ties (ok_Web_ties T) (hr.mono (by decide)) (b_Web_ties T) .nil pass0 rfl) (pv 3) (nomark _)) (pw_or1 (pt_cmpR op_notBl (pe_cmpR (op_eqOwn T.q_Web (ok_Web_eq_ T) (hr.mono (by decide)) (b_Web_eq_ T) pass0) (pv 8) (pv 5) (nomark _)) pe_bl (nomark _))))))) (pss_one (ps_ret pe_bl)) pss_nil) (pss_one (ps_if (pt_cmpR (op_neD hr.units) (pe_call (ok_show_web T) (hr.mono (by decide)) (by rfl) T.g_show_web T.F_show_web.kp (b_show_web T) .nil pass0 (pa_cons (pv 8) pa_nil)) (pv 4) (nomark _)) (pss_one (ps_ret pe_bl)) pss_nil))))))) (pss_one (ps_ret pe_bl))))))))
theorem ok_law (T : Txt K mg a) : FnOk P w K mg base CX0 8 T.f_law T.fd_law ["script"] (sp_law K a) := by
  refine T.F_law.ok sc_law (fun vs H Q E h => SpG.len vs H Q E h) (fun cdv A outer s H vs Q E hr h => ⟨t_law K a, PSs.nox ?_, pure_law T.cf h⟩)
  show PSs _ _ (t_law_1 K a)
  exact (pss_cons (ps_for PassesOwn.never rfl (pi_range1 (by rfl) T.z_range (pa_cons (pe_callB (c_max rfl) (by rfl) T.z_max bt_max (pa_cons pe_int (pa_cons (pe_callB (c_min rfl) (by rfl) T.z_min bt_min (pa_cons pe_int (pa_cons (pe_callB c_len (by rfl) T.z_len bt_len (pa_cons (pv 0) pa_nil)) pa_nil))) pa_nil))) pa_nil)) (pg_name (i := 1) sc_law.nd rfl (Or.inl rfl)) (pss_one (ps_if (pt_not (pt_val (pe_call (ok_law_right T) (hr.mono (by decide)) (by rfl) T.g_law_right T.F_law_right.kp (b_law_right T) .nil pass0 (pa_cons (pe_call (ok_law_urn T) (hr.mono (by decide)) (by rfl) T.g_law_urn T.F_law_urn.kp (b_law_urn T) .nil pass0 (pa_cons (pv 0) (pa_cons (pv 1) pa_nil))) pa_nil)))) (pss_one (ps_ret pe_bl)) pss_nil))) (pss_one (ps_ret pe_bl)))
end
end G

namespace G
open PySem PySem.Spec PyProof.Rows L2
theorem law_ask {K : PySem.W.Frag} {a : Ad} {H : Hp} {x : Addr} {ns : List Int} {Q : VK} {E : XK} (hl : ns.length ≤ 63) (hS : SqL K H x (ns.map V.int)) (hq : ∀ H', Q (.bl true) H') : sp_law K a [.ref x] H Q E := by
  refine ⟨[per (scrP K ns)], fun g _ => g = dat (.bool true), fun _ _ => False, fun _ => 0, rfl, ⟨ns, rfl, hl, rfl⟩, ⟨rfl, fun i g v h1 h2 => ?_⟩, fun v g Γp ω' H' e _ p _ => ?_, fun _ _ _ _ h => h.elim⟩
  · match i, h1, h2 with
    | 0, h1, h2 =>
      cases h1
      cases h2
      exact ⟨x, rfl, Same.seq (fun b o e => vw_mk rfl e) hS⟩
    | i + 1, h1, _ => simp at h1
  · subst e
    cases DR.bl_inv p
    exact hq H'
def adOf (K : PySem.W.Frag) : Ad := ⟨He.ga K "Web", He.ga K "HueError", He.ga K "InvalidWeb", He.ga K "InvalidLists", He.ga K "InvalidPlace"⟩
theorem txt {K : PySem.W.Frag} {h : Heap} {mg : Str → Option Value} (X : K.In h) (G : h.Ns mainGlobals mg) (c : SaysP xf fa fn pr K) : ∃ T : Txt K mg (adOf K), T.f_law = He.ga K "law" := by
  obtain ⟨fd_is_count, F_is_count⟩ := c.d.def_ 0 (d := d_is_count) rfl
  obtain ⟨fd_is_tie, F_is_tie⟩ := c.d.def_ 1 (d := d_is_tie) rfl
  obtain ⟨fd_check_web, F_check_web⟩ := c.d.def_ 2 (d := d_check_web) rfl
  obtain ⟨fd_neighbour_lists, F_neighbour_lists⟩ := c.d.def_ 3 (d := d_neighbour_lists) rfl
  obtain ⟨fd_Web_init_, F_Web_init_⟩ := c.d.def_ 4 (d := d_Web_init_) rfl
  obtain ⟨fd_Web_len_, F_Web_len_⟩ := c.d.def_ 5 (d := d_Web_len_) rfl
  obtain ⟨fd_Web_eq_, F_Web_eq_⟩ := c.d.def_ 6 (d := d_Web_eq_) rfl
  obtain ⟨fd_is_integer_word, F_is_integer_word⟩ := c.d.def_ 7 (d := d_is_integer_word) rfl
  obtain ⟨fd_integers_of, F_integers_of⟩ := c.d.def_ 8 (d := d_integers_of) rfl
  obtain ⟨fd_show_web, F_show_web⟩ := c.d.def_ 9 (d := d_show_web) rfl
  obtain ⟨fd_read_web, F_read_web⟩ := c.d.def_ 10 (d := d_read_web) rfl
  obtain ⟨fd_tie_of_word, F_tie_of_word⟩ := c.d.def_ 11 (d := d_tie_of_word) rfl
  obtain ⟨fd_law_urn, F_law_urn⟩ := c.d.def_ 12 (d := d_law_urn) rfl
  obtain ⟨fd_law_pick, F_law_pick⟩ := c.d.def_ 13 (d := d_law_pick) rfl
  obtain ⟨fd_law_shuffled, F_law_shuffled⟩ := c.d.def_ 14 (d := d_law_shuffled) rfl
  obtain ⟨fd_law_web, F_law_web⟩ := c.d.def_ 15 (d := d_law_web) rfl
  obtain ⟨fd_law_dense, F_law_dense⟩ := c.d.def_ 16 (d := d_law_dense) rfl
  obtain ⟨fd_law_right, F_law_right⟩ := c.d.def_ 17 (d := d_law_right) rfl
  obtain ⟨fd_law, F_law⟩ := c.d.def_ 18 (d := d_law) rfl
  obtain ⟨pr_Web_ties, fd_Web_ties, F_Web_ties⟩ := c.p 0 (q := q_Web_ties) rfl
  exact ⟨{
    cf := ⟨He.cls_ok (c.d.fact 19 (f := .cls "Web") rfl), He.noat_ok (c.d.fact 20 (f := .noat "Web" "_ties") rfl), He.noat_ok (c.d.fact 21 (f := .noat "Web" "_near") rfl), ins_ok (He.cls_ok (c.d.fact 19 (f := .cls "Web") rfl)) ((He.ba c.x).1), oth_ok ((He.ba c.x).2)⟩,
    g_InvalidWeb := He.glo_ok X G (c.d.fact 16 (f := .glo "InvalidWeb") rfl),
    g_InvalidText := He.glo_ok X G (c.d.fact 17 (f := .glo "InvalidText") rfl),
    g_Web := He.glo_ok X G (c.d.fact 18 (f := .glo "Web") rfl),
    xF_InvalidWeb := (He.exc_ok (c.d.fact 25 (f := .exc "InvalidWeb") rfl)).1,
    kF_InvalidWeb := (He.exc_ok (c.d.fact 25 (f := .exc "InvalidWeb") rfl)).2.1,
    bF_InvalidWeb := (He.exc_ok (c.d.fact 25 (f := .exc "InvalidWeb") rfl)).2.2.1,
    tF_InvalidWeb := (He.exc_ok (c.d.fact 25 (f := .exc "InvalidWeb") rfl)).2.2.2,
    xF_InvalidText := (He.exc_ok (c.d.fact 26 (f := .exc "InvalidText") rfl)).1,
    kF_InvalidText := (He.exc_ok (c.d.fact 26 (f := .exc "InvalidText") rfl)).2.1,
    bF_InvalidText := (He.exc_ok (c.d.fact 26 (f := .exc "InvalidText") rfl)).2.2.1,
    tF_InvalidText := (He.exc_ok (c.d.fact 26 (f := .exc "InvalidText") rfl)).2.2.2,
    f_is_count := He.ga K "is_count",
    fd_is_count := fd_is_count,
    F_is_count := F_is_count,
    g_is_count := He.glo_ok X G (c.d.fact 0 (f := .glo "is_count") rfl),
    f_is_tie := He.ga K "_is_tie",
    fd_is_tie := fd_is_tie,
    F_is_tie := F_is_tie,
    g_is_tie := He.glo_ok X G (c.d.fact 1 (f := .glo "_is_tie") rfl),
    f_check_web := He.ga K "_check_web",
    fd_check_web := fd_check_web,
    F_check_web := F_check_web,
    g_check_web := He.glo_ok X G (c.d.fact 2 (f := .glo "_check_web") rfl),
    f_neighbour_lists := He.ga K "_neighbour_lists",
    fd_neighbour_lists := fd_neighbour_lists,
    F_neighbour_lists := F_neighbour_lists,
    g_neighbour_lists := He.glo_ok X G (c.d.fact 3 (f := .glo "_neighbour_lists") rfl),
    f_Web_init_ := He.ma K (He.ga K "Web") "__init__",
    fd_Web_init_ := fd_Web_init_,
    F_Web_init_ := F_Web_init_,
    M_Web := He.mkr_ok (c.d.fact 22 (f := .mkr "Web") rfl),
    f_Web_ties := pG K q_Web_ties,
    fd_Web_ties := fd_Web_ties,
    F_Web_ties := F_Web_ties,
    p_Web_ties := pA K q_Web_ties,
    pr_Web_ties := pr_Web_ties,
    f_Web_len_ := He.ma K (He.ga K "Web") "__len__",
    fd_Web_len_ := fd_Web_len_,
    F_Web_len_ := F_Web_len_,
    l_Web := (He.meth_ok (c.d.fact 23 (f := .meth "Web" "__len__") rfl)).1,
    lf_Web := (He.meth_ok (c.d.fact 23 (f := .meth "Web" "__len__") rfl)).2,
    f_Web_eq_ := He.ma K (He.ga K "Web") "__eq__",
    fd_Web_eq_ := fd_Web_eq_,
    F_Web_eq_ := F_Web_eq_,
    q_Web := ⟨(He.meth_ok (c.d.fact 24 (f := .meth "Web" "__eq__") rfl)).1, (He.meth_ok (c.d.fact 24 (f := .meth "Web" "__eq__") rfl)).2, (oth_ok ((He.ba c.x).2)).ne, (oth_ok ((He.ba c.x).2)).ob⟩,
    f_is_integer_word := He.ga K "is_integer_word",
    fd_is_integer_word := fd_is_integer_word,
    F_is_integer_word := F_is_integer_word,
    g_is_integer_word := He.glo_ok X G (c.d.fact 4 (f := .glo "is_integer_word") rfl),
    f_integers_of := He.ga K "integers_of",
    fd_integers_of := fd_integers_of,
    F_integers_of := F_integers_of,
    g_integers_of := He.glo_ok X G (c.d.fact 5 (f := .glo "integers_of") rfl),
    f_show_web := He.ga K "show_web",
    fd_show_web := fd_show_web,
    F_show_web := F_show_web,
    g_show_web := He.glo_ok X G (c.d.fact 6 (f := .glo "show_web") rfl),
    f_read_web := He.ga K "read_web",
    fd_read_web := fd_read_web,
    F_read_web := F_read_web,
    g_read_web := He.glo_ok X G (c.d.fact 7 (f := .glo "read_web") rfl),
    f_tie_of_word := He.ga K "_tie_of_word",
    fd_tie_of_word := fd_tie_of_word,
    F_tie_of_word := F_tie_of_word,
    g_tie_of_word := He.glo_ok X G (c.d.fact 8 (f := .glo "_tie_of_word") rfl),
    f_law_urn := He.ga K "_law_urn",
    fd_law_urn := fd_law_urn,
    F_law_urn := F_law_urn,
    g_law_urn := He.glo_ok X G (c.d.fact 9 (f := .glo "_law_urn") rfl),
    f_law_pick := He.ga K "_law_pick",
    fd_law_pick := fd_law_pick,
    F_law_pick := F_law_pick,
    g_law_pick := He.glo_ok X G (c.d.fact 10 (f := .glo "_law_pick") rfl),
    f_law_shuffled := He.ga K "_law_shuffled",
    fd_law_shuffled := fd_law_shuffled,
    F_law_shuffled := F_law_shuffled,
    g_law_shuffled := He.glo_ok X G (c.d.fact 11 (f := .glo "_law_shuffled") rfl),
    f_law_web := He.ga K "_law_web",
    fd_law_web := fd_law_web,
    F_law_web := F_law_web,
    g_law_web := He.glo_ok X G (c.d.fact 12 (f := .glo "_law_web") rfl),
    f_law_dense := He.ga K "_law_dense",
    fd_law_dense := fd_law_dense,
    F_law_dense := F_law_dense,
    g_law_dense := He.glo_ok X G (c.d.fact 13 (f := .glo "_law_dense") rfl),
    f_law_right := He.ga K "_law_right",
    fd_law_right := fd_law_right,
    F_law_right := F_law_right,
    g_law_right := He.glo_ok X G (c.d.fact 14 (f := .glo "_law_right") rfl),
    f_law := He.ga K "law",
    fd_law := fd_law,
    F_law := F_law,
    g_law := He.glo_ok X G (c.d.fact 15 (f := .glo "law") rfl),
    g_MOST_DIGITS := He.int_ok X G (c.d.fact 27 (f := .int "MOST_DIGITS" 30) rfl),
    z_all := He.free_ok X G (c.d.fact 28 (f := .free "all") rfl),
    z_bool := He.free_ok X G (c.d.fact 29 (f := .free "bool") rfl),
    z_int := He.free_ok X G (c.d.fact 30 (f := .free "int") rfl),
    z_isinstance := He.free_ok X G (c.d.fact 31 (f := .free "isinstance") rfl),
    z_len := He.free_ok X G (c.d.fact 32 (f := .free "len") rfl),
    z_list := He.free_ok X G (c.d.fact 33 (f := .free "list") rfl),
    z_max := He.free_ok X G (c.d.fact 34 (f := .free "max") rfl),
    z_min := He.free_ok X G (c.d.fact 35 (f := .free "min") rfl),
    z_range := He.free_ok X G (c.d.fact 36 (f := .free "range") rfl),
    z_set := He.free_ok X G (c.d.fact 37 (f := .free "set") rfl),
    z_sorted := He.free_ok X G (c.d.fact 38 (f := .free "sorted") rfl),
    z_str := He.free_ok X G (c.d.fact 39 (f := .free "str") rfl),
    z_tuple := He.free_ok X G (c.d.fact 40 (f := .free "tuple") rfl) }, rfl⟩
end G
open PySem PySem.W PySem.Calls PyProof.Rows
theorem PySem.Challenge.cw_ownhues_k73_webs_written_and_read_holds : PySem.Challenge.rw_ownhues_k73_webs_written_and_read.Holds := by
  w_on; o_law
  refine HandSHeadRun.head_any (r := OpenLaw.row PySem.Challenge.rw_ownhues_k73_webs_written_and_read) (q := view (OpenLaw.row PySem.Challenge.rw_ownhues_k73_webs_written_and_read).prog [27]) (H := G.hk) (ob := G.ob) (M := 9000) (loose := G.loose) (d := HandSHeadRun.topDef (OpenLaw.row PySem.Challenge.rw_ownhues_k73_webs_written_and_read).prog 27) (kwd := []) G.ob_eq
    (by kernel_rfl) (fun s => by kernel_rfl) G.run (by kernel_rfl) (by kernel_rfl) (by kernel_rfl) (by rfl) (by first | assumption | decide +kernel) (by decide +kernel) ⟨rfl, rfl, rfl, rfl, rfl, by decide +kernel⟩ ?hw ?hc
  case hw => w_witness2
  case hc =>
    refine L2.walk_ofE (l := PySem.Challenge.rw_ownhues_k73_webs_written_and_read) (n := 63) (k := 8) (x := "script") (CX := L2.CX0) rfl (by decide) (by kernel_rfl) ⟨rfl, by decide, by decide⟩ ?F (fun _ _ _ _ z => z)
    intro w mg fa h Y N hmg0
    obtain ⟨K, KX, c⟩ := Y
    have hmg : mg ("law" : PySem.Str) = some (.ref fa) := by
      have e : (HandSHeadRun.topDef (OpenLaw.row PySem.Challenge.rw_ownhues_k73_webs_written_and_read).prog 27).name = ("law" : PySem.Str) := by kernel_rfl
      rw [← e]
      exact hmg0
    obtain ⟨T, hT⟩ := G.txt KX N c
    have e := hmg.symm.trans T.g_law
    injection e with e
    injection e with e
    subst e
    exact ⟨K, T.fd_law, G.sp_law K (G.adOf K), KX, fun s v => L2.FunD.bindsA (ps := ["script"]) T.F_law (fun _ _ _ _ _ _ us hl => match us, hl with | [_], _ => rfl) s [v] rfl, fun H x ns hl _ hS => G.law_ask hl hS (fun _ => rfl), fun base _ _ => G.ok_law T⟩

