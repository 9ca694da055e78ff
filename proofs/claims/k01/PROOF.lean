import PyProof.Rows.All
import Wide.All
import OpenK.AllK
import Wide.FinOn
import HandS.Text
import HandS.Iter
import HandS.Comp
import HandS.Set
import HandS.SetFor
import HandS.Strs
import PyProof.Rows.SortShellAny
import HandS.Style
import HandS.StrMore
import HandS.Wide
import HandS.WideBits
import HandS.RevRange
import HandS.IsInst
import HandS.Replace
import HandS.Conv
import HandS.Evl
import HandS.ForMost
import PyProof.ListStr
import KE.KRevSl
import HandS.Walk
import PySem.Challenge.RW_skipcounts_k01_whole_readings_numbered
import HandS.Rev
import HandS.Zip
import KE.GoesZip
import KE.GoesEnum
import KE.GoesMore
import PyProof.StrLawsIn
import PyProof.Rows.StrCase
import KE.SortData
import HandS.TupAny
import PyProof.ReprRoads
import PyProof.EqKinds
import PyProof.FactsAll.dict_1
import PyProof.Rows.ReprOcc
set_option Elab.async false
set_option linter.all false
set_option maxRecDepth 100000
set_option maxHeartbeats 4000000
/-! Sx: sets of texts: set(text), set(list of texts), sorted of such a set, its len -/
namespace Sx
open PySem PySem.Spec PyProof.Rows L2
section
variable {P : Program} {w : World} {κ : Type} [DecidableEq κ] {knd : PySem.KeyKind P w κ}
/-- what is known of the payload of a set: kn tells which keys are in, c how many -/
structure Pay (knd : PySem.KeyKind P w κ) (es : Array (Int × Value)) (t : SetTable) (kn : κ → Prop) (c : Nat) : Prop where
  el : ElemsOf knd es.toList
  mm : ∀ k, kn k ↔ ∃ e ∈ es.toList, knd.is k e.2 = true
  lt : es.size < scanBound
  ft : t.fits es.size = true
  sz : es.size = c
  ri : Ris t.place.toList
  ld : w.params.followText "set-order" = true ∨ t.led = true
def Has (knd : PySem.KeyKind P w κ) (h : Heap) (a : Addr) (kn : κ → Prop) (c : Nat) : Prop :=
  ∃ o es ep t, h.get? a = some o ∧ o.ExactSet ∧ o.data = .set es ep t ∧ Pay knd es t kn c
theorem Has.on {h h' : Heap} {a : Addr} {kn : κ → Prop} {c : Nat} (R : Has knd h a kn c) (k : ∀ o, h.get? a = some o → h'.get? a = some o) : Has knd h' a kn c :=
  let ⟨o, es, ep, t, ho, r⟩ := R
  ⟨o, es, ep, t, k o ho, r⟩
theorem Has.say {h : Heap} {a : Addr} {kn kn' : κ → Prop} {c c' : Nat} (R : Has knd h a kn c) (e : ∀ k, kn' k ↔ kn k) (ec : c' = c) : Has knd h a kn' c' := by
  obtain ⟨o, es, ep, t, ho, h1, h2, p⟩ := R
  exact ⟨o, es, ep, t, ho, h1, h2, ⟨p.el, fun k => (e k).trans (p.mm k), p.lt, p.ft, p.sz.trans ec.symm, p.ri, p.ld⟩⟩
end
section
variable {P : Program} {w : World} {κ : Type} [DecidableEq κ] {knd : PySem.KeyKind P w κ} {A : Around} {E : Value → Shared → Prop} {s : Shared} {a : Addr} {kn : κ → Prop} {c : Nat}
theorem store_put {h : Heap} {o : Obj} {es es' : Array (Int × Value)} {ep : Nat} {t t' : SetTable} (ho : h.get? a = some o) (hd : o.data = .set es ep t) :
    (h.update a (Obj.putSet es' t')).get? a = some { o with data := .set es' (ep + 1) t' } := L2.store_at ho hd
/-- the end of an add of something new -/
theorem tail_new {g : Bool → Sem Unit} (hg : ∀ (b : Bool) (s₁ : Shared) (Q' : Unit → Shared → Prop), Q' () s₁ → wpAny (model P w) A (g b) Q' E s₁)
    {o : Obj} {es : Array (Int × Value)} {ep : Nat} {t : SetTable} (ho : s.heap.get? a = some o) (hex : o.ExactSet) (hd : o.data = .set es ep t)
    {es1 : Array (Int × Value)} {t2 : SetTable} (p : Pay knd es1 t2 kn c) {dm : Bool} {R : Option Bool → Shared → Prop}
    (hR : ∀ h', Heap.SameBut a s.heap h' → Has knd h' a kn c → R (some true) { s with heap := h' }) :
    wpAny (model P w) A (do
        storeSet a es1 t2
        if (!dm && t2.tooFull) = true then do
            g (relayAll t2 es1 (SetTable.grown es1.size)).2.2
            storeSet a (relayAll t2 es1 (SetTable.grown es1.size)).1 (relayAll t2 es1 (SetTable.grown es1.size)).2.1
            pure (some true)
          else pure (some true)) R E s := by
  have sb := Heap.SameBut.update s.heap a (Obj.putSet es1 t2)
  refine wpAny_bind (wpAny_storeSet_of ho hd ?_ (fits_of_scanBound p.lt))
  have here := store_put (es' := es1) (t' := t2) ho hd
  split
  · have q1 := relayAll_perm t2 es1 (SetTable.grown es1.size)
    have q2 := relayAll_fits t2 es1 (SetTable.grown es1.size)
    have q3 := relayAll_ris t2 es1 (SetTable.grown es1.size)
    have q4 := relayAll_led t2 es1 (SetTable.grown es1.size)
    generalize relayAll t2 es1 (SetTable.grown es1.size) = Z at q1 q2 q3 q4 ⊢
    obtain ⟨es2, t3, gv⟩ := Z
    dsimp only at q1 q2 q3 q4 ⊢
    have zz : es2.size = es1.size := by rw [← Array.length_toList, q1.length_eq, Array.length_toList]
    have lt2 : es2.size < scanBound := by rw [zz]; exact p.lt
    refine wpAny_bind (hg _ _ _ ?_)
    refine wpAny_bind (wpAny_storeSet_of here rfl ?_ (fits_of_scanBound lt2))
    have there := store_put (es' := es2) (t' := t3) here rfl
    refine wpAny_pure (hR _ (sb.trans (Heap.SameBut.update _ a _)) ⟨_, es2, _, t3, there, hex, rfl, p.el.perm q1, fun k => (p.mm k).trans ?_, lt2, q2, zz.trans p.sz, q3, p.ld.imp id fun z => by rw [q4]; exact z⟩)
    exact ⟨fun ⟨e, he, x⟩ => ⟨e, q1.mem_iff.mpr he, x⟩, fun ⟨e, he, x⟩ => ⟨e, q1.mem_iff.mp he, x⟩⟩
  · exact wpAny_pure (hR _ sb ⟨_, es1, _, t2, here, hex, rfl, p⟩)
/-- one more key: the count goes up if it was not in -/
theorem add_one {k : κ} {x : Value} {Q : Bool → Shared → Prop} (hk : knd.is k x = true) (hx : x.scannable = true) (R : Has knd s.heap a kn c) (room : c + 1 < scanBound)
    (hin : kn k → ∀ h', Heap.SameBut a s.heap h' → Has knd h' a kn c → Q false { s with heap := h' })
    (hnew : ¬ kn k → ∀ h', Heap.SameBut a s.heap h' → Has knd h' a (fun j => kn j ∨ j = k) (c + 1) → Q true { s with heap := h' }) :
    wpAny (model P w) A (setAddHashed a x (knd.hash k)) Q E s := by
  obtain ⟨o, es, ep, t, ho, hex, hd, p⟩ := R
  unfold setAddHashed setAddHashedIn
  refine wpAny_holding (wpAny_bind (wpAny_setState_of ho hd p.ft ?_))
  dsimp only
  rw [byScan_of hx p.lt p.el]
  simp only [↓reduceIte]
  unfold setAddByScan
  refine wpAny_bind (wpAny_bind (wpAny_rule ?_))
  refine wpAny_bind (wpAny_setScan_of hk ho hd p.ft p.el ?_)
  cases hf : List.findIdx? (fun e => knd.is k e.2) es.toList with
  | some j =>
    dsimp only
    obtain ⟨lj, pj, _⟩ := List.findIdx?_eq_some_iff_getElem.mp hf
    refine wpAny_pure (wpAny_pure ?_)
    exact hin ((p.mm k).mpr ⟨es.toList[j], List.getElem_mem lj, pj⟩) s.heap (Heap.SameBut.refl a s.heap) ⟨o, es, ep, t, ho, hex, hd, p⟩
  | none =>
    dsimp only
    have out : ¬ kn k := fun z => by
      obtain ⟨e, he, hp⟩ := (p.mm k).mp z
      have := List.findIdx?_eq_none_iff.mp hf e he
      rw [hp] at this
      exact Bool.noConfusion this
    have gw : ∀ (b : Bool) {s₁ : Shared} {Q' : Unit → Shared → Prop}, Q' () s₁ → wpAny (model P w) A (match b with | true => rule "set.scan.the-table-gave-way" | false => pure ()) Q' E s₁ := by
      intro b s₁ Q' q
      cases b
      · exact wpAny_pure q
      · exact wpAny_rule q
    have q1 := layNew_perm t es (knd.hash k) x
    have q2 := layNew_fits t es (knd.hash k) x
    have q3 := layNew_ris t es (knd.hash k) x p.ri
    have q4 := layNew_led t es (knd.hash k) x
    generalize layNew t es (knd.hash k) x = L at q1 q2 q3 q4 ⊢
    obtain ⟨es1, t1, dm, gv⟩ := L
    dsimp only at q1 q2 q3 q4 ⊢
    rw [Array.toList_push] at q1
    have z1 : es1.size = c + 1 := by
      rw [← Array.length_toList, q1.length_eq, List.length_append, Array.length_toList, p.sz]
      rfl
    have mm1 : ∀ j, (kn j ∨ j = k) ↔ ∃ e ∈ es1.toList, knd.is j e.2 = true := by
      intro j
      constructor
      · rintro (z | rfl)
        · obtain ⟨e, he, q⟩ := (p.mm j).mp z
          exact ⟨e, q1.mem_iff.mpr (List.mem_append_left _ he), q⟩
        · exact ⟨_, q1.mem_iff.mpr (List.mem_append_right _ (List.mem_singleton.mpr rfl)), hk⟩
      · rintro ⟨e, he, q⟩
        rcases List.mem_append.mp (q1.mem_iff.mp he) with z | z
        · exact Or.inl ((p.mm j).mpr ⟨e, z, q⟩)
        · rw [List.mem_singleton] at z
          rw [z] at q
          exact Or.inr (knd.inj x j k q hk)
    have py : ∀ t' : SetTable, t'.fits es1.size = true → Ris t'.place.toList → t'.led = t1.led → Pay knd es1 t' (fun j => kn j ∨ j = k) (c + 1) := fun t' f r l =>
      ⟨(p.el.push hk hx).perm q1, mm1, by rw [z1]; exact room, f, z1, r, p.ld.imp id fun z => by rw [l, q4]; exact z⟩
    refine wpAny_bind (gw _ ?_)
    split
    · refine wpAny_bind ?_
      rw [hashByValue_scannable 8 hx]
      refine wpAny_pure ?_
      refine tail_new (knd := knd) (kn := fun j => kn j ∨ j = k) (c := c + 1) ?_ ho hex hd (py _ ?_ ?_ ?_) ?_
      · intro b s₁ Q' q
        cases b
        · exact wpAny_pure q
        · exact wpAny_rule q
      · split
        · exact q2
        · exact SetTable.fits_plain_off q2
      · split <;> exact q3
      · split <;> rfl
      · intro h' sb r
        dsimp only
        exact wpAny_pure (hnew out h' sb r)
    · refine wpAny_bind (wpAny_pure ?_)
      simp only [↓reduceIte]
      refine tail_new (knd := knd) (kn := fun j => kn j ∨ j = k) (c := c + 1) ?_ ho hex hd (py _ q2 q3 rfl) ?_
      · intro b s₁ Q' q
        cases b
        · exact wpAny_pure q
        · exact wpAny_rule q
      · intro h' sb r
        dsimp only
        exact wpAny_pure (hnew out h' sb r)
theorem has_fresh {h : Heap} : Has knd (h.push { cls := .type "set", dict := none, data := .set #[] 0 (.fresh 0 0 (!w.params.followText "set-order")) }) h.objs.size (fun _ => False) 0 :=
  ⟨_, #[], 0, _, Heap.get?_push_size _ rfl, ⟨rfl, rfl, rfl⟩, rfl, (fun e he => by simp at he), (fun k => by simp), (by decide), (by rfl), rfl, List.Pairwise.nil, by
    show _ ∨ (!w.params.followText "set-order") = true
    cases w.params.followText "set-order"
    · exact Or.inr rfl
    · exact Or.inl rfl⟩
end
end Sx
set_option Elab.async false
set_option linter.all false
set_option maxRecDepth 100000
set_option maxHeartbeats 4000000
namespace Sx
open PySem PySem.Spec PyProof.Rows L2
/-- the unlike ones of a list, each where it comes first -/
def uniq {κ : Type} [DecidableEq κ] : List κ → List κ → List κ
  | acc, [] => acc
  | acc, k :: r => uniq (if k ∈ acc then acc else acc ++ [k]) r
theorem uniq_mem {κ : Type} [DecidableEq κ] : ∀ (ks acc : List κ) (k : κ), k ∈ uniq acc ks ↔ k ∈ acc ∨ k ∈ ks
  | [], acc, k => by simp [uniq]
  | x :: r, acc, k => by
    rw [uniq, uniq_mem r]
    by_cases h : x ∈ acc
    · rw [if_pos h]
      constructor
      · rintro (z | z)
        · exact Or.inl z
        · exact Or.inr (List.mem_cons_of_mem _ z)
      · rintro (z | z)
        · exact Or.inl z
        · rcases List.mem_cons.mp z with e | e
          · subst e; exact Or.inl h
          · exact Or.inr e
    · rw [if_neg h, List.mem_append, List.mem_singleton, List.mem_cons, or_assoc]
theorem uniq_nodup {κ : Type} [DecidableEq κ] : ∀ (ks acc : List κ), acc.Nodup → (uniq acc ks).Nodup
  | [], acc, h => h
  | x :: r, acc, h => by
    rw [uniq]
    apply uniq_nodup r
    by_cases g : x ∈ acc
    · rw [if_pos g]; exact h
    · rw [if_neg g]
      rw [List.nodup_append]
      refine ⟨h, by simp, fun a ha b hb => ?_⟩
      rw [List.mem_singleton] at hb
      subst hb
      exact fun e => g (e ▸ ha)
theorem uniq_len {κ : Type} [DecidableEq κ] : ∀ (ks acc : List κ), (uniq acc ks).length ≤ acc.length + ks.length
  | [], acc => by simp [uniq]
  | x :: r, acc => by
    rw [uniq]
    have q := uniq_len r (if x ∈ acc then acc else acc ++ [x])
    have z : (if x ∈ acc then acc else acc ++ [x]).length ≤ acc.length + 1 := by
      split
      · omega
      · simp
    simp only [List.length_cons]
    omega
theorem uniq_snoc {κ : Type} [DecidableEq κ] : ∀ (ks acc : List κ) (k : κ), uniq acc (ks ++ [k]) = if k ∈ uniq acc ks then uniq acc ks else uniq acc ks ++ [k]
  | [], acc, k => rfl
  | x :: r, acc, k => by
    rw [List.cons_append, uniq, uniq_snoc r, uniq]
/-- all unlike exactly if none goes -/
theorem uniq_all {κ : Type} [DecidableEq κ] : ∀ (ks acc : List κ), acc.Nodup → ((uniq acc ks).length = acc.length + ks.length ↔ (acc ++ ks).Nodup)
  | [], acc, h => by simp [uniq, h]
  | x :: r, acc, h => by
    rw [uniq]
    by_cases g : x ∈ acc
    · rw [if_pos g]
      have q := uniq_len r acc
      constructor
      · intro z
        simp only [List.length_cons] at z
        omega
      · intro z
        rw [List.nodup_append] at z
        exact absurd rfl (z.2.2 x g x List.mem_cons_self)
    · rw [if_neg g]
      have hn : (acc ++ [x]).Nodup := by
        rw [List.nodup_append]
        refine ⟨h, by simp, fun a ha b hb => ?_⟩
        rw [List.mem_singleton] at hb
        subst hb
        exact fun e => g (e ▸ ha)
      have q := uniq_all r (acc ++ [x]) hn
      rw [List.append_assoc] at q
      simp only [List.length_append, List.length_cons, List.length_nil] at q ⊢
      rw [← show acc ++ x :: r = acc ++ ([x] ++ r) from rfl] at q
      rw [← q]
      omega
section
variable {P : Program} {w : World} {κ : Type} [DecidableEq κ] {knd : PySem.KeyKind P w κ} {A : Around} {E : Value → Shared → Prop} {s : Shared}
/-- the keys l, all unlike, are what the set at a has -/
def Lst (knd : PySem.KeyKind P w κ) (h : Heap) (a : Addr) (l : List κ) : Prop := Has knd h a (fun k => k ∈ l) l.length
theorem add_lst {a : Addr} {l : List κ} {k : κ} {x : Value} {Q : Bool → Shared → Prop} (hk : knd.is k x = true) (hx : x.scannable = true) (R : Lst knd s.heap a l) (room : l.length + 1 < scanBound)
    (hQ : ∀ (b : Bool) h', Heap.SameBut a s.heap h' → Lst knd h' a (if k ∈ l then l else l ++ [k]) → Q b { s with heap := h' }) :
    wpAny (model P w) A (setAddHashed a x (knd.hash k)) Q E s := by
  refine add_one (knd := knd) hk hx R room (fun hin h' sb hS2 => hQ _ h' sb ?_) (fun hnew h' sb hS2 => hQ _ h' sb ?_)
  · rw [if_pos hin]
    exact hS2
  · rw [if_neg hnew]
    refine Has.say hS2 (fun j => ?_) (by rw [List.length_append]; rfl)
    rw [List.mem_append, List.mem_singleton]
theorem upd_loop {I : Addr} {fp wr : List Addr} {G : Array GenState → Array GenState → Prop} {n : Nat} {Pv : Nat → Value → Prop} {St : Nat → Shared → Prop} {R : Result → Shared → Prop}
    (W : WalksS P w A.in1 I fp wr G n Pv St) (S : Addr) (out : S ∉ fp) (ks : List κ) (hn : n = ks.length) (hb : ks.length + 1 < scanBound) (hval : ∀ i v, Pv i v → ∃ k, ks[i]? = some k ∧ knd.is k v = true ∧ v.scannable = true) :
    ∀ (k i : Nat) (s : Shared), n - i = k → i ≤ n → St i s → Lst knd s.heap S (uniq [] (ks.take i)) →
      (∀ s', Moved (S :: wr) G s s' → Lst knd s'.heap S (uniq [] ks) → R (.ok (.ret .none)) s') →
      codeAny (model P w) A (.builtin "set.update.loop" ⟨[.ref S, .ref I], []⟩) R s := by
  have hw : S ∉ wr := fun h => out (W.sub _ h)
  have sub : ∀ b ∈ wr, b ∈ S :: wr := fun b hb => List.mem_cons_of_mem _ hb
  intro k
  induction k with
  | zero =>
    intro i s hk hi hst hS hR
    have e0 : i = n := by omega
    subst e0
    refine codeAny_builtin F.entry_set_update_loop ?_
    rw [Around.under_plainId F.plain_set_update_loop _]
    show wpAny _ A.in1 (pyNext (.ref I) >>= _) _ _ s
    refine wpAny_bind (W.done s _ _ hst fun s' hm => ?_)
    show wpAny _ A.in1 (ret Value.none) _ _ s'
    rw [List.take_of_length_le (by omega)] at hS
    exact wpAny_pure (hR s' (hm.mono sub) (Has.on hS fun o e => hm.heap S o hw e))
  | succ k ih =>
    intro i s hk hi hst hS hR
    have lt : i < n := by omega
    refine codeAny_builtin F.entry_set_update_loop ?_
    rw [Around.under_plainId F.plain_set_update_loop _]
    show wpAny _ A.in1 (pyNext (.ref I) >>= _) _ _ s
    refine wpAny_bind (W.item i s _ _ lt hst fun v s' hP hst' hm => ?_)
    obtain ⟨z, hz, iz, sv⟩ := hval i v hP
    have hS' : Lst knd s'.heap S (uniq [] (ks.take i)) := Has.on hS fun o e => hm.heap S o hw e
    show wpAny _ A.in1 (holding [v] (setAdd S v) >>= _) _ _ s'
    refine wpAny_bind (wpAny_holding ?_)
    unfold setAdd
    refine wpAny_holding ?_
    refine wpAny_bind (knd.pyHash (k := z) iz ?_)
    have ln := uniq_len (ks.take i) []
    rw [List.length_take, List.length_nil] at ln
    have tk : ks.take (i + 1) = ks.take i ++ [z] := by
      rw [List.take_add_one, hz]
      rfl
    refine add_lst (s := { s' with toks := s'.toks + 1 }) iz sv hS' (by omega) fun bb h' sb hS2 => ?_
    have hS3 : Lst knd h' S (uniq [] (ks.take (i + 1))) := by
      rw [tk, uniq_snoc]
      exact hS2
    refine wpAny_pure ⟨plainId_quiet F.plain_set_update_loop _, ih (i + 1) _ (by omega) lt (W.frame _ s' _ _ hst' (Nat.le_succ _) fun b hb o e => ?_) hS3 fun s'' hm2 hS4 => ?_⟩
    · rw [sb.2 b (fun h : b = S => out (by rw [← h]; exact hb))]; exact e
    · refine hR s'' (Moved.trans W.gtrans ((hm.mono sub).then_heap (Nat.le_succ _) fun b o hb e => ?_) hm2) hS4
      rw [sb.2 b (fun h : b = S => hb (by rw [h]; exact List.mem_cons_self))]; exact e
end
end Sx
set_option Elab.async false
set_option linter.all false
set_option maxRecDepth 100000
set_option maxHeartbeats 4000000
namespace Sx
open PySem PySem.Spec PyProof.Rows L2
section
variable {P : Program} {w : World} {A : Around} {E : Value → Shared → Prop} {s : Shared}
abbrev kT (P : Program) (w : World) : PySem.KeyKind P w Str := PySem.strKind P w
abbrev nset (w : World) : Obj := { cls := .type "set", dict := none, data := .set #[] 0 (.fresh 0 0 (!w.params.followText "set-order")) }
theorem lst_new {h : Heap} {a : Addr} (ho : h.get? a = some (nset w)) : Lst (kT P w) h a [] :=
  ⟨_, #[], 0, _, ho, ⟨rfl, rfl, rfl⟩, rfl, (fun e he => by simp at he), (fun k => by simp), (by decide), (by rfl), rfl, List.Pairwise.nil, by
    show _ ∨ (!w.params.followText "set-order") = true
    cases w.params.followText "set-order"
    · exact Or.inr rfl
    · exact Or.inl rfl⟩
theorem is_txt (k : Str) (u : Tok) : (kT P w).is k (.str k u) = true := by
  show Value.isStrOf k (.str k u) = true
  simp [Value.isStrOf]
/-- the signs of a text, each as a text -/
def sgs (x : Str) : List Str := x.cps.toList.map fun c => ⟨#[c]⟩
set_option maxRecDepth 100000 in
set_option maxHeartbeats 8000000 in
theorem set_of_text {x : Str} {t : Tok} {Q : Value → Shared → Prop} (hh : A.handled = none) (ha : x.cps.all (· < 128) = true) (hb : x.cps.size + 1 < scanBound)
    (h : ∀ (h' : Heap) (tk : Nat), Lst (kT P w) h' s.heap.objs.size (uniq [] (sgs x)) → (∀ b o, s.heap.get? b = some o → h'.get? b = some o) → Q (.ref s.heap.objs.size) { s with heap := h', toks := tk }) :
    wpAny (model P w) A (call (.type "set") [.str x t]) Q E s := by
  obtain ⟨c, tl, hmro⟩ := F.called_set.mro
  have hmade := F.called_set.made
  have hsub := F.called_set.sub
  refine wpAny_call (codeAny_of_tree ?_)
  show wpAny _ _ (callAny (.type "set") _) _ _ _
  refine wpAny_pure ⟨Code.quiet_builtin _ (by decide +kernel), codeAny_builtin F.entry_type_call ?_⟩
  rw [Around.under_plain (weight_type_call_type "set" [.str x t] []) rfl]
  have h1 := F.called_set.notType
  have h2 := F.called_set.canCreate
  have hct := F.typeCall_set_1 (.str x t)
  repeat (any_goals (first | assumption | wp_step))
  refine codeAny_mono (code_set_led1 (.str x t) (E := E) (Q₁ := fun obj s₁ => obj = .ref s.heap.objs.size ∧ s₁ = { s with heap := s.heap.push (nset w) }) ⟨rfl, rfl⟩) fun r s₁ hr => ?_
  cases r with
  | error e => exact hr
  | ok fl =>
    cases fl with
    | ret obj =>
      obtain ⟨rfl, rfl⟩ := hr
      have hS : (s.heap.push (nset w)).get? s.heap.objs.size = some (nset w) := Heap.get?_push_size _ rfl
      have hT : Shared.TypeIs { s with heap := s.heap.push (nset w) } (.ref s.heap.objs.size) "set" := ⟨_, hS, rfl⟩
      have hli := F.called_set.init.lookup
      have hbi := F.called_set.init.bind (.ref s.heap.objs.size)
      repeat (any_goals (first | assumption | wp_step))
      refine codeAny_mono (codeAny_call_builtin (R := wants (fun r s₂ => r = .none ∧ ∃ h' tk, s₂ = { s with heap := h', toks := tk } ∧ Lst (kT P w) h' s.heap.objs.size (uniq [] (sgs x)) ∧
          (∀ b o, s.heap.get? b = some o → h'.get? b = some o)) E) F.called_set.init.plain F.entry_set_init (check_set_init_1 hT ?_)) fun r₂ s₂ hr₂ => ?_
      · have hs1 := F.sub_str_set
        have hs2 := F.sub_str_frozenset
        have hne : (Value.type "str" == Value.type "dict") = false := by decide
        unfold Builtin.«set.__init__» noKeywords Builtin.Frozenset.updateFrom
        generalize hPI : pyIter = PI
        wp_walk
        subst hPI
        refine wpAny_pyIter_ascii ha ?_
        refine wpAny_bind (wpAny_runValue ?_)
        have hh3 : A.in1.in1.in1.handled = none := by simp [hh]
        have neI : s.heap.objs.size ∉ [(s.heap.push (nset w)).objs.size] := by
          rw [Heap.size_push, List.mem_singleton]
          exact Nat.ne_of_lt (Nat.lt_succ_self _)
        have hl : x.cps.size = (sgs x).length := by
          unfold sgs
          rw [List.length_map, Array.length_toList]
        refine upd_loop (knd := kT P w) ((Walks.strAscii hh3 _ x t).toS) s.heap.objs.size neI (sgs x) hl (by rw [← hl]; exact hb) (fun i v hv => ?_) (x.cps.size - 0) 0 _ (by omega) (Nat.zero_le _)
          ⟨_, Heap.get?_push_size _ rfl, rfl, rfl⟩ (lst_new (Heap.get?_push_of_some _ hS)) fun s' hm hS' => ?_
        · obtain ⟨c, u, hc, rfl⟩ := hv
          refine ⟨⟨#[c]⟩, ?_, is_txt _ _, rfl⟩
          unfold sgs
          rw [List.getElem?_map, Array.getElem?_toList, hc]
          rfl
        · obtain ⟨h', g2, d', tk', os'⟩ := s'
          have eg : g2 = s.gens := hm.gens
          have ed : d' = s.drawn := hm.drawn
          have eo : os' = s.os := hm.os
          subst eg; subst ed; subst eo
          show wpAny _ _ _ _ _ _
          refine wpAny_pure ?_
          show wpAny _ _ (ret Value.none) _ _ _
          refine wpAny_pure ⟨rfl, h', tk', rfl, hS', fun b o e => ?_⟩
          have b0 : b < s.heap.objs.size := Heap.lt_size e
          refine hm.heap b o (fun z => ?_) (Heap.get?_push_of_some _ (Heap.get?_push_of_some _ e))
          rcases List.mem_cons.mp z with z | z
          · rw [z] at b0
            exact Nat.lt_irrefl _ b0
          · rw [List.mem_singleton, Heap.size_push] at z
            rw [z] at b0
            exact Nat.lt_irrefl _ (Nat.lt_trans (Nat.lt_succ_self _) b0)
      · cases r₂ with
        | error e => exact hr₂
        | ok fl₂ =>
          cases fl₂ with
          | ret r =>
            obtain ⟨rfl, h', tk, rfl, hS', hk'⟩ := hr₂
            repeat (any_goals (first | assumption | wp_step))
            exact h _ _ hS' hk'
          | _ => exact hr₂.elim
    | _ => exact hr.elim
set_option maxRecDepth 100000 in
set_option maxHeartbeats 8000000 in
theorem set_of_list {l : Addr} {items : Array Value} {xs : List Str} {Q : Value → Shared → Prop} (hh : A.handled = none) (hl : s.heap.IsList l items) (hit : StrsAre items.toList xs) (hb : xs.length + 1 < scanBound)
    (h : ∀ (h' : Heap) (tk : Nat), Lst (kT P w) h' s.heap.objs.size (uniq [] xs) → (∀ b o, s.heap.get? b = some o → h'.get? b = some o) → Q (.ref s.heap.objs.size) { s with heap := h', toks := tk }) :
    wpAny (model P w) A (call (.type "set") [.ref l]) Q E s := by
  obtain ⟨c, tl, hmro⟩ := F.called_set.mro
  have hmade := F.called_set.made
  have hsub := F.called_set.sub
  refine wpAny_call (codeAny_of_tree ?_)
  show wpAny _ _ (callAny (.type "set") _) _ _ _
  refine wpAny_pure ⟨Code.quiet_builtin _ (by decide +kernel), codeAny_builtin F.entry_type_call ?_⟩
  rw [Around.under_plain (weight_type_call_type "set" [.ref l] []) rfl]
  have h1 := F.called_set.notType
  have h2 := F.called_set.canCreate
  have hct := F.typeCall_set_1 (Value.ref l)
  repeat (any_goals (first | assumption | wp_step))
  refine codeAny_mono (code_set_led1 (Value.ref l) (E := E) (Q₁ := fun obj s₁ => obj = .ref s.heap.objs.size ∧ s₁ = { s with heap := s.heap.push (nset w) }) ⟨rfl, rfl⟩) fun r s₁ hr => ?_
  cases r with
  | error e => exact hr
  | ok fl =>
    cases fl with
    | ret obj =>
      obtain ⟨rfl, rfl⟩ := hr
      have hS : (s.heap.push (nset w)).get? s.heap.objs.size = some (nset w) := Heap.get?_push_size _ rfl
      have hT : Shared.TypeIs { s with heap := s.heap.push (nset w) } (.ref s.heap.objs.size) "set" := ⟨_, hS, rfl⟩
      have hli := F.called_set.init.lookup
      have hbi := F.called_set.init.bind (.ref s.heap.objs.size)
      repeat (any_goals (first | assumption | wp_step))
      refine codeAny_mono (codeAny_call_builtin (R := wants (fun r s₂ => r = .none ∧ ∃ h' tk, s₂ = { s with heap := h', toks := tk } ∧ Lst (kT P w) h' s.heap.objs.size (uniq [] xs) ∧
          (∀ b o, s.heap.get? b = some o → h'.get? b = some o)) E) F.called_set.init.plain F.entry_set_init (check_set_init_1 hT ?_)) fun r₂ s₂ hr₂ => ?_
      · obtain ⟨ol, hol, hcl, nl, hdl⟩ := hl
        obtain ⟨ocls, odict, odata, oslots⟩ := ol
        simp only at hcl hdl
        subst hcl; subst hdl
        have hol' : (s.heap.push (nset w)).get? l = some { cls := .type "list", dict := odict, data := .seq items nl, slots := oslots } := Heap.get?_push_of_some _ hol
        have hl1 : (s.heap.push (nset w)).IsList l items := ⟨_, hol', rfl, nl, rfl⟩
        have hs1 := F.sub_list_set
        have hs2 := F.sub_list_frozenset
        have hne : (Value.type "list" == Value.type "dict") = false := by decide
        unfold Builtin.«set.__init__» noKeywords Builtin.Frozenset.updateFrom
        generalize hPI : pyIter = PI
        wp_walk
        subst hPI
        refine wpAny_pyIter_list hl1 ?_
        refine wpAny_bind (wpAny_runValue ?_)
        have hh3 : A.in1.in1.in1.handled = none := by simp [hh]
        have lS : l < s.heap.objs.size := Heap.lt_size hol
        have hneI : l ≠ (s.heap.push (nset w)).objs.size := by
          rw [Heap.size_push]
          exact Nat.ne_of_lt (Nat.lt_succ_of_lt lS)
        have neI : s.heap.objs.size ∉ [(s.heap.push (nset w)).objs.size, l] := by
          rw [Heap.size_push]
          simp only [List.mem_cons, List.mem_singleton, List.not_mem_nil, or_false, not_or]
          exact ⟨Nat.ne_of_lt (Nat.lt_succ_self _), Nat.ne_of_gt lS⟩
        have hl : items.size = xs.length := by
          have q := StrsAre.len_eq hit
          rw [Array.length_toList] at q
          exact q
        refine upd_loop (knd := kT P w) ((Walks.list hh3 _ l hneI items).toS) s.heap.objs.size neI xs hl hb (fun i v hv => ?_) (items.size - 0) 0 _ (by omega) (Nat.zero_le _)
          ⟨⟨_, Heap.get?_push_size _ rfl, rfl, rfl⟩, (hl1.push _)⟩ (lst_new (Heap.get?_push_of_some _ hS)) fun s' hm hS' => ?_
        · have hi : i < xs.length := by rw [← hl]; exact (Array.getElem?_eq_some_iff.mp hv).1
          obtain ⟨u, e⟩ := SS.strs_at hit i v (by rw [Array.getElem?_toList]; exact hv)
          refine ⟨xs[i], List.getElem?_eq_getElem hi, ?_, by rw [e]; rfl⟩
          rw [e, List.getD_eq_getElem?_getD, List.getElem?_eq_getElem hi]
          exact is_txt _ _
        · obtain ⟨h', g2, d', tk', os'⟩ := s'
          have eg : g2 = s.gens := hm.gens
          have ed : d' = s.drawn := hm.drawn
          have eo : os' = s.os := hm.os
          subst eg; subst ed; subst eo
          show wpAny _ _ _ _ _ _
          refine wpAny_pure ?_
          show wpAny _ _ (ret Value.none) _ _ _
          refine wpAny_pure ⟨rfl, h', tk', rfl, hS', fun b o e => ?_⟩
          have b0 : b < s.heap.objs.size := Heap.lt_size e
          refine hm.heap b o (fun z => ?_) (Heap.get?_push_of_some _ (Heap.get?_push_of_some _ e))
          rcases List.mem_cons.mp z with z | z
          · rw [z] at b0
            exact Nat.lt_irrefl _ b0
          · rw [List.mem_singleton, Heap.size_push] at z
            rw [z] at b0
            exact Nat.lt_irrefl _ (Nat.lt_trans (Nat.lt_succ_self _) b0)
      · cases r₂ with
        | error e => exact hr₂
        | ok fl₂ =>
          cases fl₂ with
          | ret r =>
            obtain ⟨rfl, h', tk, rfl, hS', hk'⟩ := hr₂
            repeat (any_goals (first | assumption | wp_step))
            exact h _ _ hS' hk'
          | _ => exact hr₂.elim
    | _ => exact hr.elim
end
end Sx
set_option Elab.async false
set_option linter.all false
set_option maxRecDepth 100000
set_option maxHeartbeats 4000000
namespace Sx
open PySem PySem.Spec PyProof.Rows L2
section
variable {P : Program} {w : World} {A : Around} {E : Value → Shared → Prop} {s : Shared}
theorem perm_of {κ : Type} [DecidableEq κ] : ∀ (l ks : List κ), l.Nodup → (∀ k ∈ l, k ∈ ks) → ks.length ≤ l.length → ks.Perm l
  | [], ks, _, _, h => by
    have e : ks = [] := List.eq_nil_of_length_eq_zero (Nat.le_zero.mp h)
    rw [e]
  | x :: l, ks, nd, hm, h => by
    obtain ⟨nx, nl⟩ := List.nodup_cons.mp nd
    have hx := hm x List.mem_cons_self
    refine (List.perm_cons_erase hx).trans (List.Perm.cons x (perm_of l (ks.erase x) nl (fun k hk => ?_) ?_))
    · exact (List.mem_erase_of_ne (fun e : k = x => nx (by rw [← e]; exact hk))).mpr (hm k (List.mem_cons_of_mem _ hk))
    · rw [List.length_erase_of_mem hx]
      rw [List.length_cons] at h
      omega
theorem strs_list : ∀ (l : List Value), (∀ v ∈ l, ∃ (k : Str) (u : Tok), v = Value.str k u) → ∃ ks : List Str, StrsAre l ks
  | [], _ => ⟨[], .nil⟩
  | v :: l, h => by
    obtain ⟨k, u, rfl⟩ := h v List.mem_cons_self
    obtain ⟨ks, r⟩ := strs_list l fun z hz => h z (List.mem_cons_of_mem _ hz)
    exact ⟨k :: ks, .cons k u r⟩
theorem strs_mem : ∀ {l : List Value} {ks : List Str}, StrsAre l ks → ∀ k, k ∈ ks ↔ ∃ u, Value.str k u ∈ l
  | _, _, .nil, k => by simp
  | _, _, .cons n t r, k => by
    rw [List.mem_cons, strs_mem r k]
    constructor
    · rintro (rfl | ⟨u, h⟩)
      · exact ⟨t, List.mem_cons_self⟩
      · exact ⟨u, List.mem_cons_of_mem _ h⟩
    · rintro ⟨u, h⟩
      rcases List.mem_cons.mp h with e | e
      · injection e with e1 _
        exact Or.inl e1
      · exact Or.inr ⟨u, e⟩
theorem txt_val {k : Str} {v : Value} (h : (kT P w).is k v = true) : ∃ u, v = .str k u := Value.isStrOf_shape (x := k) (v := v) h
theorem len_set {a : Addr} {l : List Str} {Q : Value → Shared → Prop} (R : Lst (kT P w) s.heap a l) (hl : l.length < 2 ^ 60) (h : Q (.int l.length (s.toks + 1)) { s with toks := s.toks + 1 + 1 }) : wpAny (model P w) A (call (.builtin "len") [.ref a]) Q E s := by
  obtain ⟨o, es, ep, t, ho, hex, hd, p⟩ := R
  have e : es.size = l.length := p.sz
  refine call_len_set ho hex hd p.ft (by rw [e]; omega) ?_
  rw [e]
  exact h
theorem sorted_set {a : Addr} {l : List Str} (nd : l.Nodup) {Q : Value → Shared → Prop} (R : Lst (kT P w) s.heap a l) (hh : A.handled = none)
    (hQ : ∀ s' p (out : Array Value) (c : Nat) (ns : List Str), (∀ b o, s.heap.get? b = some o → s'.heap.get? b = some o) → s'.gens = s.gens → s'.os = s.os → s.heap.objs.size ≤ p →
      s'.heap.get? p = some (seqObj "list" out c) → StrsAre out.toList ns → ns.Perm l → sortedS ns = true → Q (.ref p) s') :
    wpAny (model P w) A (call (.builtin "sorted") [.ref a]) Q E s := by
  obtain ⟨o, es, ep, t, ho, hex, hd, p⟩ := R
  refine Calls.call_function_entry kind_sorted plain_sorted entry_sorted (args_sorted1 _) ?_
  unfold Builtin.«sorted»
  refine wpAny_bind (m := checkCount "sorted" 1 1 _) (wpAny_pure ?_)
  refine wpAny_bind (L2.collect_set (A := A.in1) hh ⟨o, ho, hex.1, hd⟩ p.ft p.lt p.ri p.ld fun s1 vs k1 hz g1 o1 pm => ?_)
  have hvl : vs.length = l.length := by rw [pm.length_eq, List.length_map, Array.length_toList]; exact p.sz
  obtain ⟨ks, hS⟩ := strs_list vs fun v hv => by
    obtain ⟨e, he, q⟩ := List.mem_map.mp (pm.mem_iff.mp hv)
    obtain ⟨⟨k, hk, _⟩, _⟩ := p.el e he
    obtain ⟨u, eu⟩ := txt_val hk
    exact ⟨k, u, by rw [← q]; exact eu⟩
  have hkl : ks.length = l.length := by rw [← StrsAre.length hS, hvl]
  have mem : ∀ k, k ∈ ks ↔ k ∈ l := fun k => by
    rw [strs_mem hS k, p.mm k]
    constructor
    · rintro ⟨u, hu⟩
      obtain ⟨e, he, q⟩ := List.mem_map.mp (pm.mem_iff.mp hu)
      exact ⟨e, he, by rw [show e.2 = Value.str k u from q]; exact is_txt k u⟩
    · rintro ⟨e, he, q⟩
      obtain ⟨u, eu⟩ := txt_val q
      exact ⟨u, pm.mem_iff.mpr (List.mem_map.mpr ⟨e, he, eu⟩)⟩
  have hkp : ks.Perm l := perm_of l ks nd (fun k hk => (mem k).mpr hk) (by omega)
  have hL : vs.length ≤ sizeLine := by rw [hvl, ← p.sz]; exact fits_of_scanBound p.lt
  refine wpAny_bind (wpAny_newList ?_ hL)
  have hoL : (s1.heap.push (seqObj "list" vs.toArray 0)).get? s1.heap.objs.size = some (seqObj "list" vs.toArray 0) := Heap.get?_push_size _ rfl
  refine wpAny_bind (wpAny_holding (wpAny_call_entry slot_list_sort ⟨_, hoL, rfl⟩ entry_list_sort (list_sort_treeKAny strKind_oneLt hoL hS.keysOf (fun v₁ v₂ rest e => keyKind_strs (by rw [← e]; exact hS)) hL fun st' hp hs => ?_) (args_list_sort _)))
  obtain ⟨ns', a1, a2, a3⟩ := sorted_out_str hS hp hs
  obtain ⟨c, hc⟩ := sortedHeap_at (vs := vs) (out := (arrOf st').map (·.2)) hoL
  refine ⟨_, rfl, wpAny_pure ⟨_, rfl, hQ _ s1.heap.objs.size _ c ns' (fun b u e => ?_) g1 o1 hz hc a1 (a2.trans hkp) a3⟩⟩
  have q := k1 b u e
  have lt := Heap.lt_size q
  show (sortedHeap (s1.heap.push (seqObj "list" vs.toArray 0)) s1.heap.objs.size vs _).get? b = some u
  rw [sortedHeap_old (Nat.ne_of_lt lt) (by rw [size_push']; exact Nat.lt_succ_of_lt lt)]
  exact Heap.get?_push_of_some _ q
end
/-! ### over the layer -/
/-- a set of texts at an address -/
def SetT (P : Program) (w : World) (a : Addr) (l : List Str) : HO := .ext fun h => Lst (kT P w) h a l
section
variable {X : Cx}
theorem setT_new {w : World} {P : Program} {H : Hp} {h : Heap} {a : Addr} {l : List Str} (R : Lst (kT P w) h a l) : ObjOk P w H h a (SetT P w a l) := by
  have ⟨o, _, _, _, ho, _⟩ := R
  exact ⟨R, ⟨o, ho⟩, fun h1 h2 p k => Has.on p k⟩
theorem setT_get {pins : List (Addr × Obj)} {σ : L2.St} {H : Hp} {s : Shared} {a : Addr} {l : List Str} (I : Inv X pins σ H s) (ha : H a = some (SetT X.prog X.w a l)) : Lst (kT X.prog X.w) s.heap a l := (I.hok a _ ha).1
/-- set(x), x a text of ASCII signs -/
def rSetS (P : Program) (w : World) : List V → Hp → VK → Prop := fun vs H Q => ∃ x : Str, vs = [.str x] ∧ x.cps.all (· < 128) = true ∧ x.cps.size ≤ 4000 ∧ ∀ p, H p = none → Q (.ref p) (upd H p (SetT P w p (uniq [] (sgs x))))
theorem cr_setS (hc : X.calm = true) : CallR X (.type "set") (rSetS X.prog X.w) := by
  intro pins s σ H vs us Q I r h
  obtain ⟨x, rfl, ha, hb, q⟩ := h
  cases r with
  | cons r rr =>
    cases rr
    obtain ⟨t, rfl⟩ := r
    refine set_of_text (I.ok.hd hc) ha (by unfold scanBound; omega) fun h' tk R k => ?_
    have hn : H s.heap.objs.size = none := I.hok.fresh (Nat.le_refl _)
    exact ⟨.ref s.heap.objs.size, _, I.laid (t' := tk) k (Nat.le_refl _) (setT_new R), rfl, q _ hn⟩
/-- set(xs), xs a list of texts -/
def rSetL (K : PySem.W.Frag) (P : Program) (w : World) : List V → Hp → VK → Prop := fun vs H Q => ∃ (a : Addr) (xs : List Str), vs = [.ref a] ∧ SqL K H a (xs.map V.str) ∧ xs.length ≤ 4000 ∧ ∀ p, H p = none → Q (.ref p) (upd H p (SetT P w p (uniq [] xs)))
theorem cr_setL (hc : X.calm = true) : CallR X (.type "set") (rSetL X.K X.prog X.w) := by
  intro pins s σ H vs us Q I r h
  obtain ⟨a, xs, rfl, hs, hb, q⟩ := h
  obtain ⟨its, rv, hl, _⟩ := I.list hs
  rw [Vals.ref1 r]
  refine set_of_list (I.ok.hd hc) hl.isList rv.strs (by unfold scanBound; omega) fun h' tk R k => ?_
  have hn : H s.heap.objs.size = none := I.hok.fresh (Nat.le_refl _)
  exact ⟨.ref s.heap.objs.size, _, I.laid (t' := tk) k (Nat.le_refl _) (setT_new R), rfl, q _ hn⟩
/-- sorted(found), found a set of texts -/
def rSortT (P : Program) (w : World) : List V → Hp → VK → Prop := fun vs H Q => ∃ (a : Addr) (l : List Str), vs = [V.ref a] ∧ H a = some (SetT P w a l) ∧ l.Nodup ∧ l.length ≤ 100000 ∧
  ∀ (ns : List Str) (p : Addr), ns.Perm l → sortedS ns = true → H p = none → Q (.ref p) (upd H p (.lst (ns.map V.str)))
theorem cr_sortT (hc : X.calm = true) : CallR X (.builtin "sorted") (rSortT X.prog X.w) := by
  intro pins s σ H vs us Q I r h
  obtain ⟨a, l, rfl, ha, nd, hl, q⟩ := h
  have R := setT_get I ha
  rw [Vals.ref1 r]
  refine sorted_set nd R (I.ok.hd hc) fun s' p out c ns k g o hp hg hi hpm hs => ?_
  have hlen : (ns.map V.str).length ≤ sizeLine := by rw [List.length_map, hpm.length_eq]; exact Nat.le_trans hl (by decide)
  have hn : H p = none := I.hok.fresh hp
  have J : Inv X pins σ (upd H p (.lst (ns.map V.str))) { s with heap := s'.heap, gens := s'.gens, drawn := s'.drawn, toks := s'.toks } :=
    I.call (ch := []) (Un.laid k hp hn) (I.hok.laid k hp ⟨hlen, out.toList, c, vals_of_strs hi, hg⟩) (by rw [g]; exact I.bare) (fun _ z => nomatch z)
  have e : s' = { s with heap := s'.heap, gens := s'.gens, drawn := s'.drawn, toks := s'.toks } := by
    cases s'
    cases s
    cases o
    rfl
  rw [e]
  exact ⟨.ref p, _, J, rfl, q ns p hpm hs hn⟩
/-- len(found), found a set of texts -/
def rLenT (P : Program) (w : World) : List V → Hp → VK → Prop := fun vs H Q => ∃ (a : Addr) (l : List Str), vs = [V.ref a] ∧ H a = some (SetT P w a l) ∧ l.length ≤ 100000 ∧ Q (.int l.length) H
theorem cr_lenT : CallR X (.builtin "len") (rLenT X.prog X.w) := by
  intro pins s σ H vs us Q I r h
  obtain ⟨a, l, rfl, ha, hl, q⟩ := h
  rw [Vals.ref1 r]
  exact len_set (setT_get I ha) (by omega) ⟨.int l.length, H, I.tok _, ⟨_, rfl⟩, q⟩
end
end Sx
set_option Elab.async false
set_option linter.all false
set_option maxRecDepth 100000
set_option maxHeartbeats 4000000
/-! Rx: some more rules over the layer -/
namespace Rx
open PySem PySem.Spec PyProof.Rows L2
section
variable {X : Cx}
/-- i ** j of great whole numbers -/
def CPowB (i j : Int) : Prop := 0 ≤ j ∧ (Builtin.Int.intBits i : Int) * j ≤ 2 ^ 27
theorem op_powB : OpR X (binaryOp .Pow) (rI CPowB fun i j => .int (i ^ j.toNat)) := by
  intro pins s σ H x y v u Q I rx ry h
  obtain ⟨i, j, rfl, rfl, hc, q⟩ := h
  obtain ⟨t, rfl⟩ := rx
  obtain ⟨t', rfl⟩ := ry
  exact pow_int hc.1 hc.2 ⟨.int (i ^ j.toNat), H, I.tok _, ⟨_, rfl⟩, q⟩
/-- list(x), x a text -/
def rListS : List V → Hp → VK → Prop := fun vs H Q => ∃ x : Str, vs = [.str x] ∧ x.cps.size ≤ 100000 ∧ ∀ p, H p = none → Q (.ref p) (upd H p (.lst ((Sx.sgs x).map V.str)))
theorem paired_get {α β : Type} {F : α → β → Prop} : ∀ {l : List α} {r : List β}, l.length = r.length → (∀ (i : Nat) a b, l[i]? = some a → r[i]? = some b → F a b) → Paired F l r
  | [], [], _, _ => .nil
  | [], _ :: _, h, _ => by simp at h
  | _ :: _, [], h, _ => by simp at h
  | a :: l, b :: r, h, g => .cons (g 0 a b rfl rfl) (paired_get (by simpa using h) fun i x y hx hy => g (i + 1) x y (by simpa using hx) (by simpa using hy))
theorem items_signs {x : Str} {acc : Array Value} (h : ItemsOf (SignAt x) acc x.cps.size) : Vals ((Sx.sgs x).map V.str) acc.toList := by
  refine paired_get ?_ fun i a b ha hb => ?_
  · rw [List.length_map, Sx.sgs, List.length_map, Array.length_toList, Array.length_toList, h.1]
  · rw [Array.getElem?_toList] at hb
    obtain ⟨c, u, hc, rfl⟩ := h.2 i b hb
    rw [List.getElem?_map, Sx.sgs, List.getElem?_map, Array.getElem?_toList, hc] at ha
    obtain rfl : V.str ⟨#[c]⟩ = a := Option.some.inj ha
    exact ⟨u, rfl⟩
theorem cr_listS (hc : X.calm = true) : CallR X (.type "list") rListS := by
  intro pins s σ H vs us Q I r h
  obtain ⟨x, rfl, hb, q⟩ := h
  cases r with
  | cons r rr =>
    cases rr
    obtain ⟨t, rfl⟩ := r
    have hz : x.cps.size ≤ sizeLine := Nat.le_trans hb (by decide)
    refine call_list_str (I.ok.hd hc) x t (fun h' tk acc c k hS hi => ?_) hz
    have hn : H s.heap.objs.size = none := I.hok.fresh (Nat.le_refl _)
    have hl : ((Sx.sgs x).map V.str).length = x.cps.size := by
      rw [List.length_map, Sx.sgs, List.length_map, Array.length_toList]
    have ok : ObjOk X.prog X.w (upd H s.heap.objs.size (.lst ((Sx.sgs x).map V.str))) h' s.heap.objs.size (.lst ((Sx.sgs x).map V.str)) := ⟨by rw [hl]; exact hz, acc.toList, c, items_signs hi, hS⟩
    exact ⟨.ref s.heap.objs.size, _, I.laid (t' := tk) k (Nat.le_refl _) ok, rfl, q _ hn⟩
/-- x[::k] of a text, k the number -1 -/
def turned (x : Str) : Str := ⟨x.cps.toList.reverse.toArray⟩
def tRevS (te : TE) (th : TO) : TE := fun σ H Q => te σ H fun x H1 => th σ H1 fun o H2 => ∃ z, x = .str z ∧ o = some (-1) ∧ z.length ≤ 100000 ∧ Q (.str (turned z)) H2
theorem pe_revS {e k : Expr} {te : TE} {th : TO} {p3 pos : Pos} (he : PE X e te) (hk : PO X (some k) th) : PE X (.Subscript e (.Slice none none (some k) p3) pos) (tRevS te th) := by
  refine ⟨fun pins s σ H Q I h => ?_⟩
  refine Subscript_ (thn (he.run pins s σ H _ I h) fun v s1 ⟨x, H1, I1, r1, q1⟩ => ?_)
  refine wpAny_Slice (thn (po_none.run pins s1 σ H1 (fun o H2 => o = none ∧ H2 = H1) I1 ⟨rfl, rfl⟩) fun vl s2 ⟨l, H2, I2, pl, el, e2⟩ => ?_)
  subst el e2
  refine thn (po_none.run pins s2 σ H2 (fun o H3 => o = none ∧ H3 = H2) I2 ⟨rfl, rfl⟩) fun vu s3 ⟨u, H3, I3, pu, eu, e3⟩ => ?_
  subst eu e3
  refine thn (hk.run pins s3 σ H3 _ I3 q1) fun vs s4 ⟨o, H4, I4, ps, q2⟩ => ?_
  obtain ⟨z, rfl, rfl, hz, q⟩ := q2
  obtain ⟨t, rfl⟩ := r1
  have I5 : Inv X pins σ H4 { s4 with heap := s4.heap.push { cls := .type "slice", data := .fields #[vl, vu, vs] } } := I4.kept (t' := s4.toks) fun b ob q => Heap.get?_push_of_some _ q
  obtain ⟨l1, rfl, el⟩ := IsPart.raw pl
  obtain ⟨u1, rfl, eu⟩ := IsPart.raw pu
  obtain ⟨k1, rfl, ek⟩ := IsPart.raw ps
  have hl1 : l1 = none := by cases l1 <;> simp_all
  have hu1 : u1 = none := by cases u1 <;> simp_all
  subst hl1 hu1
  show wpAny (model X.prog X.w) X.A (subscriptTail e (.Slice none none (some k) p3) (.str z t) (.ref s4.heap.objs.size)) (EP X pins σ Q) X.xe { s4 with heap := s4.heap.push { cls := .type "slice", data := .fields #[partValue none, partValue none, partValue k1] } }
  refine tail_any (ops := [.ref s4.heap.objs.size, .str z t]) (typeIs_str _ _ _) PySem.F.slot_str_getitem.lookup ?_ (by with_unfolding_all rfl)
  refine wpAny_getItem_str_slice (l := none) (u := none) (st := k1) ⟨_, Heap.get?_push_size _ rfl, rfl, rfl⟩ (by rw [ek]; rfl) ?_
  have hp : slicePicked z none none k1 = (List.range z.length).reverse := by
    unfold slicePicked
    rw [ek]
    show sliceRange ((z.length : Int) - 1) (-1) (-1) = _
    rw [PySem.W.krv_sliceRange, PySem.W.krv_range]
  unfold sliceMade
  rw [hp, ek]
  have e0 : (((some (-1) : Option Int).getD 1) == 1 && (List.range z.length).reverse.length == z.length) = false := by
    show (((-1 : Int) == 1) && _) = false
    rfl
  rw [if_neg (by rw [e0]; decide)]
  have e1 : ((List.range z.length).reverse.filterMap (z.cps[·]?)).toArray = (turned z).cps := by
    rw [List.filterMap_reverse, show z.length = z.cps.size from rfl, PySem.W.krv_all]
    rfl
  rw [e1]
  refine ⟨?_, .str _, H4, I5.tok _, ⟨_, rfl⟩, q⟩
  show (turned z).cps.size ≤ sizeLine
  have : (turned z).cps.size = z.cps.size := by simp [turned]
  rw [this]
  exact Nat.le_trans hz (by decide)
end
end Rx
set_option Elab.async false
set_option linter.all false
set_option maxRecDepth 100000
set_option maxHeartbeats 4000000
/-! Bx: what all the laws' texts share: texts as lists of signs, loops over texts and ranges, small facts of heaps -/
namespace Bx
open PySem PySem.Spec PyProof.Rows L2 Evl
abbrev mk (l : List Nat) : Str := ⟨l.toArray⟩
abbrev tx (l : List Nat) : V := .str (mk l)
theorem mk_list (l : List Nat) : (mk l).cps.toList = l := rfl
theorem mk_eq (z : Str) : z = mk z.cps.toList := rfl
theorem mk_inj {l m : List Nat} : mk l = mk m ↔ l = m := ⟨fun h => congrArg (fun z : Str => z.cps.toList) h, fun h => h ▸ rfl⟩
theorem tx_inj {l m : List Nat} : tx l = tx m ↔ l = m := ⟨fun h => mk_inj.mp (V.str.inj h), fun h => h ▸ rfl⟩
theorem mk_len (l : List Nat) : (mk l).length = l.length := by show l.toArray.size = l.length; simp
theorem mk_app (l m : List Nat) : mk l ++ mk m = mk (l ++ m) := by
  show Str.append (mk l) (mk m) = _
  simp [Str.append]
theorem sgs_mk (l : List Nat) : Sx.sgs (mk l) = l.map fun c => mk [c] := rfl
theorem cut_mk (l : List Nat) (a b : Option Int) : cutS (mk l) a b = mk ((l.drop (HT.sIx l.length 0 a)).take (HT.sIx l.length l.length b - HT.sIx l.length 0 a)) := by
  unfold cutS
  rw [mk_len]
theorem turned_mk (l : List Nat) : Rx.turned (mk l) = mk l.reverse := rfl
theorem ix_nat (n d : Nat) (i : Nat) : HT.sIx n d (some (i : Int)) = min i n := HT.sIx_nat n d i
theorem cut_to (l : List Nat) (i : Nat) : cutS (mk l) none (some (i : Int)) = mk (l.take i) := by
  rw [cut_mk, ix_nat, HT.sIx_none, List.drop_zero, Nat.sub_zero]
  congr 1
  by_cases h : i ≤ l.length
  · rw [Nat.min_eq_left h]
  · rw [Nat.min_eq_right (by omega), List.take_of_length_le (Nat.le_refl _), List.take_of_length_le (by omega)]
theorem cut_from (l : List Nat) (i : Nat) : cutS (mk l) (some (i : Int)) none = mk (l.drop i) := by
  rw [cut_mk, ix_nat, HT.sIx_none]
  congr 1
  by_cases h : i ≤ l.length
  · rw [Nat.min_eq_left h, List.take_of_length_le (by rw [List.length_drop]; omega)]
  · rw [Nat.min_eq_right (by omega), List.drop_of_length_le (Nat.le_refl _), List.drop_of_length_le (show l.length ≤ i by omega), List.take_nil]
/-- small letters alone -/
def Low (l : List Nat) : Prop := ∀ c ∈ l, 97 ≤ c ∧ c ≤ 122
theorem Low.app {l m : List Nat} (a : Low l) (b : Low m) : Low (l ++ m) := fun c h => (List.mem_append.mp h).elim (a c) (b c)
theorem Low.sub {l m : List Nat} (a : Low l) (h : ∀ c ∈ m, c ∈ l) : Low m := fun c hc => a c (h c hc)
theorem Low.nil : Low [] := fun c h => by simp at h
theorem Low.asc {l : List Nat} (a : Low l) : (mk l).cps.all (· < 128) = true := by
  rw [← Array.all_toList, List.all_eq_true]
  intro c hc
  have := a c hc
  exact decide_eq_true (by omega)
/-! ### heaps -/
theorem ex_upd {H : Hp} {p : Addr} {o : HO} (h : H p = none) : Ex H (upd H p o) := Ex.new h
/-- all but one object as before -/
def Xg (g : Addr) (H H' : Hp) : Prop := ∀ a o, a ≠ g → H a = some o → H' a = some o
theorem Xg.of {g : Addr} {H H' : Hp} (e : Ex H H') : Xg g H H' := fun a o _ h => e a o h
theorem Xg.trans {g : Addr} {H H1 H2 : Hp} (a : Xg g H H1) (b : Xg g H1 H2) : Xg g H H2 := fun x o n h => b x o n (a x o n h)
theorem Xg.refl (g : Addr) (H : Hp) : Xg g H H := fun _ _ _ h => h
theorem Xg.upd {g : Addr} {H H' : Hp} {o : HO} (e : Xg g H H') : Xg g H (L2.upd H' g o) := fun a u n h => by
  rw [upd_ne n]
  exact e a u n h
theorem Xg.fresh {g : Addr} {H H' : Hp} (e : Xg g H H') (hg : H' g ≠ none) {p : Addr} (h : H' p = none) : H p = none := by
  cases q : H p with
  | none => rfl
  | some o =>
    by_cases z : p = g
    · rw [z] at h
      exact absurd h hg
    · rw [e p o z q] at h
      cases h
/-- an extension, by what each is -/
theorem ex_ne {H : Hp} {a b : Addr} {o : HO} (h : H a = some o) (h' : H b = none) : a ≠ b := ne_of_none h h'
section
variable {K : PySem.W.Frag} {σ : L2.St} {H : Hp} {D : Ends} {tu : TS} {te ta : TE}
/-- for c in a text -/
theorem forS {j : Nat} {l : List Nat} (h : Ev te σ H (tx l)) (Pv : Nat → L2.St → Hp → Prop) (h0 : ∀ H1, Ex H H1 → Pv 0 σ H1)
    (hs : ∀ i c σ' H', l[i]? = some c → Pv i σ' H' → tu { D with nx := Pv (i + 1), ct := Pv (i + 1), bk := D.nx } (σ'.set j (some (tx [c]))) H')
    (hd : ∀ σ' H', Pv l.length σ' H' → D.nx σ' H') : tFor (iStr te) (gName j) tu D σ H :=
  h H (Ex.refl H) _ fun H1 e => ⟨mk l, rfl, by
    have w := walk_str (z := mk l)
    refine for_it w Pv (h0 H1 e) (fun _ _ _ _ _ => trivial) (fun i x σ' H' H2 hi p y => ?_) (fun σ' H' p => hd σ' H' ?_)
    · obtain ⟨rfl, c, hc, rfl⟩ := y
      refine hs i c σ' H2 ?_ p
      rw [← hc]
      simp
    · have e : (mk l).cps.size = l.length := by simp
      rw [← e]
      exact p⟩
/-- for i in reversed(range(n)) -/
theorem forRv {j : Nat} {n : Int} (h : Ev ta σ H (.int n)) (hn : 0 ≤ n ∧ n ≤ 100000) (Pv : Nat → L2.St → Hp → Prop) (h0 : ∀ H1, Ex H H1 → Pv 0 σ H1)
    (hs : ∀ (i : Nat) σ' H', (i : Int) < n → Pv i σ' H' → tu { D with nx := Pv (i + 1), ct := Pv (i + 1), bk := D.nx } (σ'.set j (some (.int (n - 1 - i)))) H')
    (hd : ∀ σ' H', Pv n.toNat σ' H' → D.nx σ' H') : tFor (iRevR (tRg1 ta)) (gName j) tu D σ H :=
  h H (Ex.refl H) _ fun H1 e => ⟨n, rfl, by omega, by omega, by omega, by omega, by
    have z : (n - 0).toNat = n.toNat := by rw [Int.sub_zero]
    rw [z]
    refine for_rangeC Pv (h0 H1 e) (fun i σ' H' hi p => ?_) hd
    have q : (0 : Int) + ((n.toNat : Nat) : Int) - 1 + (i : Nat) * (-1) = n - 1 - i := by omega
    rw [q]
    exact hs i σ' H' (by omega) p⟩
theorem rng_down {a : Int} (h0 : -1 ≤ a) (h1 : a ≤ 100000) : RgC a (-1) (-1) (a + 1).toNat := by
  have q := RgC.neg (i := a) (j := -1) (by omega) (by omega) (by omega) (by omega)
  have e : a - -1 = a + 1 := by omega
  rwa [e] at q
end
end Bx
namespace Bx
open PySem PySem.Spec PyProof.Rows L2 Evl
theorem sign_facts : ∀ c, c < 128 → (97 ≤ c → c ≤ 122 → Unicode.isAlpha c = true ∧ Unicode.isLower c = true ∧ (Unicode.isUpper c || Unicode.isTitle c) = false) := by decide +kernel
theorem low_ascii {l : List Nat} (h : Low l) : Txt.isascii (mk l) = true := h.asc
theorem low_alpha {l : List Nat} (h : Low l) (n : l ≠ []) : Txt.isalpha (mk l) = true := by
  unfold Txt.isalpha
  rw [Bool.and_eq_true]
  refine ⟨decide_eq_true ?_, ?_⟩
  · rw [mk_len]
    exact List.length_pos_iff.mpr n
  · rw [← Array.all_toList, List.all_eq_true]
    intro c hc
    have := h c hc
    exact (sign_facts c (by omega) (by omega) (by omega)).1
theorem low_lower {l : List Nat} (h : Low l) (n : l ≠ []) : Txt.islower (mk l) = true := by
  unfold Txt.islower
  rw [Bool.and_eq_true]
  constructor
  · rw [← Array.any_toList, List.any_eq_true]
    cases l with
    | nil => exact absurd rfl n
    | cons c r =>
      have := h c List.mem_cons_self
      exact ⟨c, List.mem_cons_self, (sign_facts c (by omega) (by omega) (by omega)).2.1⟩
  · rw [Bool.not_eq_true', ← Array.any_toList, List.any_eq_false]
    intro c hc
    have := h c hc
    rw [(sign_facts c (by omega) (by omega) (by omega)).2.2]
    decide
end Bx
namespace Bx
open PySem PySem.Spec PyProof.Rows L2 Evl
theorem mul_ok {i j : Int} (hi : i.natAbs < 2 ^ 9000) (hj : j.natAbs < 2 ^ 9000) : CMulW i j := wide_mul hi hj (by decide) (by decide) (by decide)
theorem abs_nat {n a : Nat} (h : n < 2 ^ a) : ((n : Nat) : Int).natAbs < 2 ^ a := by rw [Int.natAbs_natCast]; exact h
theorem small_pow {n : Nat} (h : n < 2 ^ 64) : n < 2 ^ 9000 := Nat.lt_of_lt_of_le h (Nat.pow_le_pow_right (by decide) (by decide))
theorem small_abs {i : Int} (h : i.natAbs < 2 ^ 64) : i.natAbs < 2 ^ 9000 := small_pow h
/-! ### data that are compared -/
theorem eqvAll_ints : ∀ ns ms : List Int, PyData.eqvAll (ns.map .int) (ms.map .int) = decide (ns = ms)
  | [], [] => by simp [PyData.eqvAll]
  | [], _ :: _ => by simp [PyData.eqvAll]
  | _ :: _, [] => by simp [PyData.eqvAll]
  | n :: ns, m :: ms => by
    show ((n == m) && PyData.eqvAll (ns.map .int) (ms.map .int)) = _
    rw [eqvAll_ints ns ms]
    by_cases h1 : n = m <;> by_cases h2 : ns = ms <;> simp [h1, h2]
theorem eqvAll_strs : ∀ ns ms : List Str, PyData.eqvAll (ns.map .str) (ms.map .str) = decide (ns = ms)
  | [], [] => by simp [PyData.eqvAll]
  | [], _ :: _ => by simp [PyData.eqvAll]
  | _ :: _, [] => by simp [PyData.eqvAll]
  | n :: ns, m :: ms => by
    show ((n == m) && PyData.eqvAll (ns.map .str) (ms.map .str)) = _
    rw [eqvAll_strs ns ms]
    by_cases h1 : n = m <;> by_cases h2 : ns = ms <;> simp [h1, h2]
theorem dpAll_ints {K : PySem.W.Frag} {H : Hp} : ∀ ns : List Int, DpAll K H (ns.map V.int) (ns.map PyData.int)
  | [] => .nil
  | n :: ns => .cons (.int n) (dpAll_ints ns)
theorem dpAll_strs {K : PySem.W.Frag} {H : Hp} : ∀ ns : List Str, DpAll K H (ns.map V.str) (ns.map PyData.str)
  | [] => .nil
  | n :: ns => .cons (.str n) (dpAll_strs ns)
theorem flat_shaped (ds : List PyData) (h : ∀ d ∈ ds, PyData.canLay0 d = true ∧ PyData.depth d = 0) : SeqAt.shaped (.list ds) = true ∧ SeqAt.shaped (.tuple ds) = true := by
  have a : PyData.canLayAll0 ds = true ∧ PyData.depthAll ds = 0 := by
    induction ds with
    | nil => exact ⟨rfl, rfl⟩
    | cons d ds ih =>
      obtain ⟨i1, i2⟩ := ih fun x hx => h x (List.mem_cons_of_mem _ hx)
      obtain ⟨h1, h2⟩ := h d List.mem_cons_self
      refine ⟨?_, ?_⟩
      · show (PyData.canLay0 d && PyData.canLayAll0 ds) = true
        rw [h1, i1]
        rfl
      · show max (PyData.depth d) (PyData.depthAll ds) = 0
        rw [h2, i2]
        rfl
  have z : decide (PyData.depthAll ds + 1 ≤ 64) = true := by
    rw [a.2]
    decide
  constructor
  · show (PyData.canLayAll0 ds && decide (PyData.depthAll ds + 1 ≤ 64)) = true
    rw [a.1, z]
    rfl
  · show (PyData.canLayAll0 ds && decide (PyData.depthAll ds + 1 ≤ 64)) = true
    rw [a.1, z]
    rfl
theorem shaped_ints (ns : List Int) : SeqAt.shaped (.list (ns.map PyData.int)) = true := (flat_shaped _ fun d hd => by
  obtain ⟨n, _, rfl⟩ := List.mem_map.mp hd
  exact ⟨rfl, rfl⟩).1
theorem str_ok {l : List Nat} (h : Low l) : PyData.canLay0 (.str (mk l)) = true := by
  show (mk l).cps.all (· < 0x110000) = true
  rw [← Array.all_toList, List.all_eq_true]
  intro c hc
  have := h c hc
  exact decide_eq_true (by omega)
theorem shaped_strs (ns : List Str) (h : ∀ z ∈ ns, Low z.cps.toList) : SeqAt.shaped (.list (ns.map PyData.str)) = true := (flat_shaped _ fun d hd => by
  obtain ⟨n, hn, rfl⟩ := List.mem_map.mp hd
  exact ⟨str_ok (h n hn), rfl⟩).1
/-! ### sorted texts -/
def leS (a b : Str) : Prop := a.cps.toList ≤ b.cps.toList
theorem leS_of {a b : Str} (h : ltCps b.cps.toList a.cps.toList = false) : leS a b := by
  rw [ltCps_eq] at h
  exact of_decide_eq_false h
theorem rise_all : ∀ (l : List Str) (p : Str), risingS p l = true → (p :: l).Pairwise leS
  | [], p, _ => List.pairwise_singleton _ _
  | y :: r, p, h => by
    have h' : (!ltCps y.cps.toList p.cps.toList && risingS y r) = true := h
    rw [Bool.and_eq_true, Bool.not_eq_true'] at h'
    have ih := rise_all r y h'.2
    have py := leS_of h'.1
    refine List.pairwise_cons.mpr ⟨fun x hx => ?_, ih⟩
    rcases List.mem_cons.mp hx with e | e
    · rw [e]
      exact py
    · exact List.le_trans py ((List.pairwise_cons.mp ih).1 x e)
theorem sorted_all {l : List Str} (h : sortedS l = true) : l.Pairwise leS := by
  cases l with
  | nil => exact List.Pairwise.nil
  | cons p r => exact rise_all r p h
theorem leS_anti {a b : Str} (h : leS a b) (h' : leS b a) : a = b := by
  have e := List.le_antisymm h h'
  have ea := mk_eq a
  have eb := mk_eq b
  rw [ea, eb, e]
/-- the one sorted list -/
theorem sorted_one {l m : List Str} (hp : l.Perm m) (hl : sortedS l = true) (hm : m.Pairwise leS) : l = m :=
  List.Perm.eq_of_pairwise (le := leS) (fun _ _ _ _ => leS_anti) (sorted_all hl) hm hp
theorem sing_le {a b : Nat} (h : a < b) : leS (mk [a]) (mk [b]) := by
  show [a] ≤ [b]
  refine List.not_lt.mp fun z => ?_
  have := List.cons_lt_cons_iff.mp z
  rcases this with q | ⟨q, _⟩ <;> omega
theorem signs_sorted {L : List Nat} (h : L.Pairwise (· < ·)) : (L.map fun c => mk [c]).Pairwise leS := by
  rw [List.pairwise_map]
  exact h.imp sing_le
theorem sing_inj {a b : Nat} (h : mk [a] = mk [b]) : a = b := by
  have := mk_inj.mp h
  simpa using this
theorem signs_nodup {L : List Nat} (h : L.Nodup) : (L.map fun c => mk [c]).Nodup := by
  unfold List.Nodup at h ⊢
  rw [List.pairwise_map]
  exact h.imp fun n e => n (sing_inj e)
theorem uniq_id {κ : Type} [DecidableEq κ] : ∀ (ks acc : List κ), (acc ++ ks).Nodup → Sx.uniq acc ks = acc ++ ks
  | [], acc, _ => by rw [Sx.uniq, List.append_nil]
  | k :: r, acc, h => by
    have n : k ∉ acc := fun hk => by
      rw [List.nodup_append] at h
      exact h.2.2 k hk k List.mem_cons_self rfl
    rw [Sx.uniq, if_neg n, uniq_id r (acc ++ [k]) (by rw [List.append_assoc]; exact h), List.append_assoc]
    rfl
theorem lt_nodup {L : List Nat} (h : L.Pairwise (· < ·)) : L.Nodup := h.imp fun a e => by omega
/-- an alphabet -/
structure Alph (L : List Nat) : Prop where
  low : Low L
  up : L.Pairwise (· < ·)
  one : 1 ≤ L.length
  four : L.length ≤ 4
end Bx
set_option linter.all false
/-! Mx: counts of words in texts: the mathematics, over lists of signs -/
namespace Mx
def cnt : List Nat → List Nat → Nat
  | [], _ => 1
  | _ :: _, [] => 0
  | a :: w, b :: t => cnt (a :: w) t + if a = b then cnt w t else 0
theorem cnt_nil (t : List Nat) : cnt [] t = 1 := by cases t <;> rfl
theorem cnt_e (a : Nat) (w : List Nat) : cnt (a :: w) [] = 0 := rfl
theorem cnt_c (a b : Nat) (w t : List Nat) : cnt (a :: w) (b :: t) = cnt (a :: w) t + if a = b then cnt w t else 0 := by rw [cnt]
theorem cnt_empty : ∀ w : List Nat, w ≠ [] → cnt w [] = 0
  | [], h => absurd rfl h
  | _ :: _, _ => rfl
theorem cnt_snoc : ∀ (p u : List Nat) (a c : Nat), cnt (u ++ [a]) (p ++ [c]) = cnt (u ++ [a]) p + if a = c then cnt u p else 0
  | [], [], a, c => by
    show cnt [a] [c] = cnt [a] [] + if a = c then cnt [] [] else 0
    rw [cnt_c]
  | [], x :: u, a, c => by
    show cnt (x :: (u ++ [a])) [c] = cnt (x :: (u ++ [a])) [] + if a = c then cnt (x :: u) [] else 0
    rw [cnt_c, cnt_e, cnt_e, cnt_empty (u ++ [a]) (by simp)]
    simp
  | b :: p, [], a, c => by
    have ih := cnt_snoc p [] a c
    show cnt [a] (b :: (p ++ [c])) = cnt [a] (b :: p) + if a = c then cnt [] (b :: p) else 0
    simp only [List.nil_append] at ih
    rw [cnt_c, ih, cnt_c]
    simp only [cnt_nil]
    omega
  | b :: p, x :: u, a, c => by
    have i1 := cnt_snoc p (x :: u) a c
    have i2 := cnt_snoc p u a c
    show cnt (x :: (u ++ [a])) (b :: (p ++ [c])) = cnt (x :: (u ++ [a])) (b :: p) + if a = c then cnt (x :: u) (b :: p) else 0
    simp only [List.cons_append] at i1
    rw [cnt_c, i1, cnt_c, cnt_c, i2]
    by_cases h1 : x = b <;> by_cases h2 : a = c <;> simp [h1, h2] <;> omega
theorem cnt_rev : ∀ (t w : List Nat), cnt w.reverse t.reverse = cnt w t
  | [], [] => rfl
  | [], a :: w => by
    rw [cnt_e]
    exact cnt_empty _ (by simp)
  | b :: t, [] => by rw [List.reverse_nil, cnt_nil, cnt_nil]
  | b :: t, a :: w => by
    rw [List.reverse_cons, List.reverse_cons, cnt_snoc, cnt_rev t w, ← List.reverse_cons, cnt_rev t (a :: w), cnt_c]
/-- the ways to cut a word in two -/
def splits : List Nat → List (List Nat × List Nat)
  | [] => [([], [])]
  | a :: w => ([], a :: w) :: (splits w).map fun p => (a :: p.1, p.2)
theorem sum_map_add {α : Type} (f g : α → Nat) : ∀ l : List α, (l.map fun x => f x + g x).sum = (l.map f).sum + (l.map g).sum
  | [] => rfl
  | x :: l => by
    simp only [List.map_cons, List.sum_cons]
    rw [sum_map_add f g l]
    omega
theorem sum_map_zero {α : Type} : ∀ l : List α, (l.map fun _ => 0).sum = 0
  | [] => rfl
  | x :: l => by simp only [List.map_cons, List.sum_cons]; rw [sum_map_zero l]
theorem cnt_app : ∀ (s t w : List Nat), cnt w (s ++ t) = ((splits w).map fun p => cnt p.1 s * cnt p.2 t).sum
  | [], t, [] => by simp [splits, cnt_nil]
  | [], t, a :: w => by
    rw [splits, List.map_cons, List.sum_cons, List.map_map]
    have e : ((splits w).map ((fun p : List Nat × List Nat => cnt p.1 [] * cnt p.2 t) ∘ fun p => (a :: p.1, p.2))).sum = 0 := by
      rw [← sum_map_zero (splits w)]
      congr 1
      apply List.map_congr_left
      intro p _
      show cnt (a :: p.1) [] * cnt p.2 t = 0
      rw [cnt_e, Nat.zero_mul]
    rw [e, cnt_nil, Nat.one_mul, List.nil_append]
    rfl
  | b :: s, t, [] => by simp [splits, cnt_nil]
  | b :: s, t, a :: w => by
    rw [List.cons_append, cnt_c, cnt_app s t (a :: w), cnt_app s t w]
    rw [splits, List.map_cons, List.sum_cons, List.map_map, List.map_cons, List.sum_cons, List.map_map]
    have e : ((splits w).map ((fun p : List Nat × List Nat => cnt p.1 (b :: s) * cnt p.2 t) ∘ fun p => (a :: p.1, p.2))).sum =
        ((splits w).map ((fun p : List Nat × List Nat => cnt p.1 s * cnt p.2 t) ∘ fun p => (a :: p.1, p.2))).sum + if a = b then ((splits w).map fun p => cnt p.1 s * cnt p.2 t).sum else 0 := by
      by_cases h : a = b
      · rw [if_pos h, ← sum_map_add]
        congr 1
        apply List.map_congr_left
        intro p _
        show cnt (a :: p.1) (b :: s) * cnt p.2 t = cnt (a :: p.1) s * cnt p.2 t + cnt p.1 s * cnt p.2 t
        rw [cnt_c, if_pos h, Nat.add_mul]
      · rw [if_neg h, Nat.add_zero]
        congr 1
        apply List.map_congr_left
        intro p _
        show cnt (a :: p.1) (b :: s) * cnt p.2 t = cnt (a :: p.1) s * cnt p.2 t
        rw [cnt_c, if_neg h, Nat.add_zero]
    rw [e]
    simp only [cnt_nil]
    omega
theorem splits_range : ∀ w : List Nat, (List.range (w.length + 1)).map (fun i => (w.take i, w.drop i)) = splits w
  | [] => rfl
  | a :: w => by
    rw [List.length_cons, List.range_succ_eq_map, List.map_cons, List.map_map, splits, ← splits_range w, List.map_map]
    rfl
/-- the same, as it is added up in whole numbers -/
theorem cnt_cuts (w s t : List Nat) : ((cnt w (s ++ t) : Nat) : Int) = ((List.range (w.length + 1)).map fun i => ((cnt (w.take i) s : Nat) : Int) * ((cnt (w.drop i) t : Nat) : Int)).sum := by
  rw [cnt_app, ← splits_range, List.map_map]
  generalize List.range (w.length + 1) = l
  induction l with
  | nil => rfl
  | cons i l ih =>
    simp only [List.map_cons, List.sum_cons, Function.comp] at ih ⊢
    rw [Int.natCast_add, ih, Int.natCast_mul]
theorem cnt_front (w t : List Nat) (c : Nat) : cnt w (c :: t) = cnt w t + if w.take 1 = [c] then cnt (w.drop 1) t else 0 := by
  cases w with
  | nil => simp [cnt_nil]
  | cons a w =>
    rw [cnt_c]
    by_cases h : a = c <;> simp [h]
theorem cnt_back (w t : List Nat) (c : Nat) : cnt w (t ++ [c]) = cnt w t + if w.drop (w.length - 1) = [c] then cnt (w.take (w.length - 1)) t else 0 := by
  rcases List.eq_nil_or_concat w with rfl | ⟨u, a, rfl⟩
  · simp [cnt_nil]
  · rw [List.concat_eq_append, cnt_snoc]
    have e1 : (u ++ [a]).length - 1 = u.length := by simp
    rw [e1, List.drop_left, List.take_left]
    by_cases h : a = c <;> simp [h]
theorem cnt_filter : ∀ (t w : List Nat) (S : Nat → Bool), (∀ a ∈ w, S a = true) → cnt w (t.filter S) = cnt w t
  | [], w, S, _ => rfl
  | b :: t, [], S, _ => by rw [cnt_nil, cnt_nil]
  | b :: t, a :: w, S, h => by
    rw [List.filter_cons]
    by_cases hb : S b = true
    · rw [if_pos hb, cnt_c, cnt_c, cnt_filter t (a :: w) S h, cnt_filter t w S fun x hx => h x (List.mem_cons_of_mem _ hx)]
    · rw [if_neg hb, cnt_filter t (a :: w) S h, cnt_c]
      have n : a ≠ b := fun e => hb (e ▸ h a List.mem_cons_self)
      rw [if_neg n, Nat.add_zero]
def twice : List Nat → List Nat
  | [] => []
  | c :: t => c :: c :: twice t
theorem cnt_twice : ∀ (t w : List Nat), w.Nodup → cnt w (twice t) = 2 ^ w.length * cnt w t
  | [], [], _ => rfl
  | [], a :: w, _ => by rw [twice, cnt_e, Nat.mul_zero]
  | b :: t, [], _ => by rw [cnt_nil, cnt_nil]; rfl
  | b :: t, a :: w, h => by
    obtain ⟨h1, h2⟩ := List.nodup_cons.mp h
    rw [twice, cnt_c, cnt_c, cnt_twice t (a :: w) h, cnt_c]
    by_cases e : a = b
    · subst e
      simp only [if_true]
      have z : cnt w (a :: twice t) = cnt w (twice t) := by
        cases w with
        | nil => rw [cnt_nil, cnt_nil]
        | cons x w =>
          rw [cnt_c, if_neg (fun e : x = a => h1 (by rw [e]; exact List.mem_cons_self)), Nat.add_zero]
      rw [z, cnt_twice t w h2, List.length_cons, Nat.pow_succ, Nat.mul_add]
      generalize cnt w t = q
      generalize 2 ^ w.length = r
      have : r * 2 * q = r * q + r * q := by
        rw [Nat.mul_comm r 2, Nat.mul_assoc]
        omega
      omega
    · simp [e]
/-! ### the row of a count's loop -/
def row (w p : List Nat) : List Int := (List.range (w.length + 1)).map fun j => ((cnt (w.take j) p : Nat) : Int)
theorem row_len (w p : List Nat) : (row w p).length = w.length + 1 := by simp [row]
theorem row_at (w p : List Nat) (j : Nat) (h : j ≤ w.length) : (row w p)[j]? = some ((cnt (w.take j) p : Nat) : Int) := by
  unfold row
  rw [List.getElem?_map, List.getElem?_range (by omega)]
  rfl
theorem row_nil (w : List Nat) : row w [] = 1 :: List.replicate w.length 0 := by
  unfold row
  rw [List.range_succ_eq_map, List.map_cons, List.map_map]
  congr 1
  · apply List.ext_getElem
    · simp
    · intro i h1 h2
      simp only [List.length_map, List.length_range] at h1
      simp only [List.getElem_map, List.getElem_range, List.getElem_replicate, Function.comp]
      rw [cnt_empty _ (by
        cases w with
        | nil => simp at h1
        | cons a w => simp)]
      rfl
/-- behind i turns of the inner loop -/
def mid (w p : List Nat) (c i : Nat) : List Int := (List.range (w.length + 1)).map fun j => if w.length - i < j then ((cnt (w.take j) (p ++ [c]) : Nat) : Int) else ((cnt (w.take j) p : Nat) : Int)
theorem mid_len (w p : List Nat) (c i : Nat) : (mid w p c i).length = w.length + 1 := by simp [mid]
theorem mid_at (w p : List Nat) (c i j : Nat) (h : j ≤ w.length) : (mid w p c i)[j]? = some (if w.length - i < j then ((cnt (w.take j) (p ++ [c]) : Nat) : Int) else ((cnt (w.take j) p : Nat) : Int)) := by
  unfold mid
  rw [List.getElem?_map, List.getElem?_range (by omega)]
  rfl
theorem mid_zero (w p : List Nat) (c : Nat) : mid w p c 0 = row w p := by
  unfold mid row
  apply List.map_congr_left
  intro j hj
  have := List.mem_range.mp hj
  rw [if_neg (by omega)]
theorem mid_all (w p : List Nat) (c : Nat) : mid w p c w.length = row w (p ++ [c]) := by
  unfold mid row
  apply List.map_congr_left
  intro j hj
  by_cases h : j = 0
  · subst h
    simp [cnt_nil]
  · rw [if_pos (by omega)]
theorem take_snoc (w : List Nat) (j : Nat) (h : j < w.length) : w.take (j + 1) = w.take j ++ [w[j]] := by
  rw [List.take_add_one, List.getElem?_eq_getElem h]
  rfl
/-- a turn: at the place k from the end -/
theorem mid_turn (w p : List Nat) (c i : Nat) (h : i < w.length) : mid w p c (i + 1) =
    if w[w.length - 1 - i]? = some c then (mid w p c i).set (w.length - i) (((cnt (w.take (w.length - i)) p : Nat) : Int) + ((cnt (w.take (w.length - 1 - i)) p : Nat) : Int)) else mid w p c i := by
  have hk : w.length - 1 - i < w.length := by omega
  have e1 : w.length - i = w.length - 1 - i + 1 := by omega
  have step : cnt (w.take (w.length - i)) (p ++ [c]) = cnt (w.take (w.length - i)) p + if w[w.length - 1 - i] = c then cnt (w.take (w.length - 1 - i)) p else 0 := by
    rw [e1, take_snoc w _ hk, cnt_snoc]
  apply List.ext_getElem?
  intro j
  by_cases hj : j ≤ w.length
  · rw [mid_at _ _ _ _ _ hj]
    rw [List.getElem?_eq_getElem hk]
    by_cases hc : w[w.length - 1 - i] = c
    · rw [if_pos (congrArg some hc)]
      rw [if_pos hc] at step
      by_cases hjj : j = w.length - i
      · subst hjj
        rw [List.getElem?_set_self (by rw [mid_len]; omega), if_pos (by omega), step, Int.natCast_add]
      · rw [List.getElem?_set_ne (by omega), mid_at _ _ _ _ _ hj]
        by_cases q : w.length - i < j
        · rw [if_pos q, if_pos (by omega)]
        · rw [if_neg q, if_neg (by omega)]
    · rw [if_neg (fun z => hc (Option.some.inj z)), mid_at _ _ _ _ _ hj]
      rw [if_neg hc] at step
      by_cases hjj : j = w.length - i
      · subst hjj
        rw [if_pos (by omega), if_neg (by omega), step, Nat.add_zero]
      · by_cases q : w.length - i < j
        · rw [if_pos q, if_pos (by omega)]
        · rw [if_neg q, if_neg (by omega)]
  · have z1 : (mid w p c (i + 1))[j]? = none := List.getElem?_eq_none_iff.mpr (by rw [mid_len]; omega)
    rw [z1]
    symm
    split
    · exact List.getElem?_eq_none_iff.mpr (by rw [List.length_set, mid_len]; omega)
    · exact List.getElem?_eq_none_iff.mpr (by rw [mid_len]; omega)
end Mx
namespace Mx
theorem cnt_le : ∀ (t w : List Nat), cnt w t ≤ 2 ^ t.length
  | [], [] => by decide
  | [], _ :: _ => Nat.zero_le _
  | b :: t, [] => by
    rw [cnt_nil]
    exact Nat.one_le_two_pow
  | b :: t, a :: w => by
    rw [cnt_c, List.length_cons, Nat.pow_succ]
    have h1 := cnt_le t (a :: w)
    have h2 := cnt_le t w
    split <;> omega
theorem twice_flat : ∀ t : List Nat, (t.map fun c => [c, c]).flatten = twice t
  | [] => rfl
  | c :: t => by
    rw [List.map_cons, List.flatten_cons, twice_flat t]
    rfl
end Mx
set_option Elab.async false
set_option linter.all false
set_option maxRecDepth 100000
set_option maxHeartbeats 4000000
namespace K01
open PySem PySem.Spec PyProof.Rows L2 Evl Bx
def topS (i : Nat) : Stmt := PySem.Challenge.pw_skipcounts_k01_whole_readings_numbered.main.body.getD i (.Pass ⟨0, 0, 0, 0⟩)
abbrev s__law_hash : Stmt := topS 21
abbrev N__law_hash : List Str := ["_law_seed", "_law_index", "_law_mixed"]
theorem sc__law_hash : FnScope N__law_hash ["_law_seed", "_law_index"] (defScope s__law_hash) := ⟨rfl, rfl, rfl, by decide +kernel, rfl, by decide +kernel, by decide +kernel⟩
abbrev s__law_random : Stmt := topS 22
abbrev N__law_random : List Str := ["_law_generator_here", "_law_bound", "_law_drawn", "_law_turn"]
theorem sc__law_random : FnScope N__law_random ["_law_generator_here", "_law_bound"] (defScope s__law_random) := ⟨rfl, rfl, rfl, by decide +kernel, rfl, by decide +kernel, by decide +kernel⟩
abbrev s__law_alphabet : Stmt := topS 28
abbrev N__law_alphabet : List Str := ["_law_generator_here", "_law_least", "_law_many", "_law_start", "_law_found", "_law_turn"]
theorem sc__law_alphabet : FnScope N__law_alphabet ["_law_generator_here", "_law_least"] (defScope s__law_alphabet) := ⟨rfl, rfl, rfl, by decide +kernel, rfl, by decide +kernel, by decide +kernel⟩
abbrev s__law_text : Stmt := topS 26
abbrev N__law_text : List Str := ["_law_generator_here", "_law_letters", "_law_size", "_law_turn"]
theorem sc__law_text : FnScope N__law_text ["_law_generator_here", "_law_letters", "_law_size"] (defScope s__law_text) := ⟨rfl, rfl, rfl, by decide +kernel, rfl, by decide +kernel, by decide +kernel⟩
abbrev s__law_readings : Stmt := topS 27
abbrev N__law_readings : List Str := ["_law_word", "_law_text_here", "_law_found", "_law_letter", "_law_wider", "_law_places", "_law_first", "_law_place"]
theorem sc__law_readings : FnScope N__law_readings ["_law_word", "_law_text_here"] (defScope s__law_readings) := ⟨rfl, rfl, rfl, by decide +kernel, rfl, by decide +kernel, by decide +kernel⟩
abbrev s__law_bent : Stmt := topS 29
abbrev N__law_bent : List Str := ["_law_generator_here", "_law_places", "_law_size", "_law_found", "_law_at", "_law_odd"]
theorem sc__law_bent : FnScope N__law_bent ["_law_generator_here", "_law_places", "_law_size"] (defScope s__law_bent) := ⟨rfl, rfl, rfl, by decide +kernel, rfl, by decide +kernel, by decide +kernel⟩
abbrev s_is_text : Stmt := topS 10
abbrev N_is_text : List Str := ["value"]
theorem sc_is_text : FnScope N_is_text ["value"] (defScope s_is_text) := ⟨rfl, rfl, rfl, by decide +kernel, rfl, by decide +kernel, by decide +kernel⟩
abbrev s_need_word : Stmt := topS 12
abbrev N_need_word : List Str := ["word"]
theorem sc_need_word : FnScope N_need_word ["word"] (defScope s_need_word) := ⟨rfl, rfl, rfl, by decide +kernel, rfl, by decide +kernel, by decide +kernel⟩
abbrev s_need_text : Stmt := topS 11
abbrev N_need_text : List Str := ["text"]
theorem sc_need_text : FnScope N_need_text ["text"] (defScope s_need_text) := ⟨rfl, rfl, rfl, by decide +kernel, rfl, by decide +kernel, by decide +kernel⟩
abbrev s_count : Stmt := topS 14
abbrev N_count : List Str := ["word", "text", "ways", "sign", "at"]
theorem sc_count : FnScope N_count ["word", "text"] (defScope s_count) := ⟨rfl, rfl, rfl, by decide +kernel, rfl, by decide +kernel, by decide +kernel⟩
abbrev s__end_counts : Stmt := topS 19
abbrev N__end_counts : List Str := ["word", "text", "rows", "letter", "shorter", "row", "place", "more"]
theorem sc__end_counts : FnScope N__end_counts ["word", "text"] (defScope s__end_counts) := ⟨rfl, rfl, rfl, by decide +kernel, rfl, by decide +kernel, by decide +kernel⟩
abbrev s_is_whole : Stmt := topS 7
abbrev N_is_whole : List Str := ["value"]
theorem sc_is_whole : FnScope N_is_whole ["value"] (defScope s_is_whole) := ⟨rfl, rfl, rfl, by decide +kernel, rfl, by decide +kernel, by decide +kernel⟩
abbrev s__reads : Stmt := topS 18
abbrev N__reads : List Str := ["word", "text", "value", "lowest", "letter", "place"]
theorem sc__reads : FnScope N__reads ["word", "text", "value"] (defScope s__reads) := ⟨rfl, rfl, rfl, by decide +kernel, rfl, by decide +kernel, by decide +kernel⟩
abbrev s_reading_number : Stmt := topS 17
abbrev N_reading_number : List Str := ["word", "text", "places", "ends", "found", "start", "at", "place", "lower"]
theorem sc_reading_number : FnScope N_reading_number ["word", "text", "places"] (defScope s_reading_number) := ⟨rfl, rfl, rfl, by decide +kernel, rfl, by decide +kernel, by decide +kernel⟩
abbrev s__law_yes : Stmt := topS 25
abbrev N__law_yes : List Str := ["_law_told", "_law_due"]
theorem sc__law_yes : FnScope N__law_yes ["_law_told", "_law_due"] (defScope s__law_yes) := ⟨rfl, rfl, rfl, by decide +kernel, rfl, by decide +kernel, by decide +kernel⟩
abbrev s_is_reading : Stmt := topS 15
abbrev N_is_reading : List Str := ["word", "text", "value"]
theorem sc_is_reading : FnScope N_is_reading ["word", "text", "value"] (defScope s_is_reading) := ⟨rfl, rfl, rfl, by decide +kernel, rfl, by decide +kernel, by decide +kernel⟩
abbrev s_is_count : Stmt := topS 8
abbrev N_is_count : List Str := ["value"]
theorem sc_is_count : FnScope N_is_count ["value"] (defScope s_is_count) := ⟨rfl, rfl, rfl, by decide +kernel, rfl, by decide +kernel, by decide +kernel⟩
abbrev s_reading : Stmt := topS 16
abbrev N_reading : List Str := ["word", "text", "number", "ends", "places", "left", "place", "at"]
theorem sc_reading : FnScope N_reading ["word", "text", "number"] (defScope s_reading) := ⟨rfl, rfl, rfl, by decide +kernel, rfl, by decide +kernel, by decide +kernel⟩
abbrev s__law_same_as : Stmt := topS 30
abbrev N__law_same_as : List Str := ["_law_one", "_law_other"]
theorem sc__law_same_as : FnScope N__law_same_as ["_law_one", "_law_other"] (defScope s__law_same_as) := ⟨rfl, rfl, rfl, by decide +kernel, rfl, by decide +kernel, by decide +kernel⟩
abbrev s__law_pair_right : Stmt := topS 31
abbrev N__law_pair_right : List Str := ["_law_generator_here", "_law_word", "_law_text_here", "_law_due", "_law_number", "_law_places", "_law_some", "_law_value", "_law_right_here"]
theorem sc__law_pair_right : FnScope N__law_pair_right ["_law_generator_here", "_law_word", "_law_text_here"] (defScope s__law_pair_right) := ⟨rfl, rfl, rfl, by decide +kernel, rfl, by decide +kernel, by decide +kernel⟩
abbrev s__law_right : Stmt := topS 32
abbrev N__law_right : List Str := ["_law_generator_here", "_law_letters", "_law_texts", "_law_turn", "_law_words", "_law_word", "_law_text_here"]
theorem sc__law_right : FnScope N__law_right ["_law_generator_here"] (defScope s__law_right) := ⟨rfl, rfl, rfl, by decide +kernel, rfl, by decide +kernel, by decide +kernel⟩
abbrev s__law_cell : Stmt := topS 23
abbrev N__law_cell : List Str := ["_law_script", "_law_index"]
theorem sc__law_cell : FnScope N__law_cell ["_law_script", "_law_index"] (defScope s__law_cell) := ⟨rfl, rfl, rfl, by decide +kernel, rfl, by decide +kernel, by decide +kernel⟩
abbrev s__law_generator : Stmt := topS 24
abbrev N__law_generator : List Str := ["_law_script", "_law_index", "_law_seed"]
theorem sc__law_generator : FnScope N__law_generator ["_law_script", "_law_index"] (defScope s__law_generator) := ⟨rfl, rfl, rfl, by decide +kernel, rfl, by decide +kernel, by decide +kernel⟩
abbrev s_law : Stmt := topS 33
abbrev N_law : List Str := ["_law_script", "_law_index"]
theorem sc_law : FnScope N_law ["_law_script"] (defScope s_law) := ⟨rfl, rfl, rfl, by decide +kernel, rfl, by decide +kernel, by decide +kernel⟩
structure Tx (K : PySem.W.Frag) (mg : Str → Option Value) where
  a__law_hash : Addr
  fd__law_hash : FuncData
  F__law_hash : Fun K "_law_hash" "_law_hash" s__law_hash a__law_hash fd__law_hash
  g__law_hash : mg "_law_hash" = some (.ref a__law_hash)
  a__law_random : Addr
  fd__law_random : FuncData
  F__law_random : Fun K "_law_random" "_law_random" s__law_random a__law_random fd__law_random
  g__law_random : mg "_law_random" = some (.ref a__law_random)
  a__law_alphabet : Addr
  fd__law_alphabet : FuncData
  F__law_alphabet : Fun K "_law_alphabet" "_law_alphabet" s__law_alphabet a__law_alphabet fd__law_alphabet
  g__law_alphabet : mg "_law_alphabet" = some (.ref a__law_alphabet)
  a__law_text : Addr
  fd__law_text : FuncData
  F__law_text : Fun K "_law_text" "_law_text" s__law_text a__law_text fd__law_text
  g__law_text : mg "_law_text" = some (.ref a__law_text)
  a__law_readings : Addr
  fd__law_readings : FuncData
  F__law_readings : Fun K "_law_readings" "_law_readings" s__law_readings a__law_readings fd__law_readings
  g__law_readings : mg "_law_readings" = some (.ref a__law_readings)
  a__law_bent : Addr
  fd__law_bent : FuncData
  F__law_bent : Fun K "_law_bent" "_law_bent" s__law_bent a__law_bent fd__law_bent
  g__law_bent : mg "_law_bent" = some (.ref a__law_bent)
  a_is_text : Addr
  fd_is_text : FuncData
  F_is_text : Fun K "is_text" "is_text" s_is_text a_is_text fd_is_text
  g_is_text : mg "is_text" = some (.ref a_is_text)
  a_need_word : Addr
  fd_need_word : FuncData
  F_need_word : Fun K "need_word" "need_word" s_need_word a_need_word fd_need_word
  g_need_word : mg "need_word" = some (.ref a_need_word)
  a_need_text : Addr
  fd_need_text : FuncData
  F_need_text : Fun K "need_text" "need_text" s_need_text a_need_text fd_need_text
  g_need_text : mg "need_text" = some (.ref a_need_text)
  a_count : Addr
  fd_count : FuncData
  F_count : Fun K "count" "count" s_count a_count fd_count
  g_count : mg "count" = some (.ref a_count)
  a__end_counts : Addr
  fd__end_counts : FuncData
  F__end_counts : Fun K "_end_counts" "_end_counts" s__end_counts a__end_counts fd__end_counts
  g__end_counts : mg "_end_counts" = some (.ref a__end_counts)
  a_is_whole : Addr
  fd_is_whole : FuncData
  F_is_whole : Fun K "is_whole" "is_whole" s_is_whole a_is_whole fd_is_whole
  g_is_whole : mg "is_whole" = some (.ref a_is_whole)
  a__reads : Addr
  fd__reads : FuncData
  F__reads : Fun K "_reads" "_reads" s__reads a__reads fd__reads
  g__reads : mg "_reads" = some (.ref a__reads)
  a_reading_number : Addr
  fd_reading_number : FuncData
  F_reading_number : Fun K "reading_number" "reading_number" s_reading_number a_reading_number fd_reading_number
  g_reading_number : mg "reading_number" = some (.ref a_reading_number)
  a__law_yes : Addr
  fd__law_yes : FuncData
  F__law_yes : Fun K "_law_yes" "_law_yes" s__law_yes a__law_yes fd__law_yes
  g__law_yes : mg "_law_yes" = some (.ref a__law_yes)
  a_is_reading : Addr
  fd_is_reading : FuncData
  F_is_reading : Fun K "is_reading" "is_reading" s_is_reading a_is_reading fd_is_reading
  g_is_reading : mg "is_reading" = some (.ref a_is_reading)
  a_is_count : Addr
  fd_is_count : FuncData
  F_is_count : Fun K "is_count" "is_count" s_is_count a_is_count fd_is_count
  g_is_count : mg "is_count" = some (.ref a_is_count)
  a_reading : Addr
  fd_reading : FuncData
  F_reading : Fun K "reading" "reading" s_reading a_reading fd_reading
  g_reading : mg "reading" = some (.ref a_reading)
  a__law_same_as : Addr
  fd__law_same_as : FuncData
  F__law_same_as : Fun K "_law_same_as" "_law_same_as" s__law_same_as a__law_same_as fd__law_same_as
  g__law_same_as : mg "_law_same_as" = some (.ref a__law_same_as)
  a__law_pair_right : Addr
  fd__law_pair_right : FuncData
  F__law_pair_right : Fun K "_law_pair_right" "_law_pair_right" s__law_pair_right a__law_pair_right fd__law_pair_right
  g__law_pair_right : mg "_law_pair_right" = some (.ref a__law_pair_right)
  a__law_right : Addr
  fd__law_right : FuncData
  F__law_right : Fun K "_law_right" "_law_right" s__law_right a__law_right fd__law_right
  g__law_right : mg "_law_right" = some (.ref a__law_right)
  a__law_cell : Addr
  fd__law_cell : FuncData
  F__law_cell : Fun K "_law_cell" "_law_cell" s__law_cell a__law_cell fd__law_cell
  g__law_cell : mg "_law_cell" = some (.ref a__law_cell)
  a__law_generator : Addr
  fd__law_generator : FuncData
  F__law_generator : Fun K "_law_generator" "_law_generator" s__law_generator a__law_generator fd__law_generator
  g__law_generator : mg "_law_generator" = some (.ref a__law_generator)
  a_law : Addr
  fd_law : FuncData
  F_law : Fun K "law" "law" s_law a_law fd_law
  g_law : mg "law" = some (.ref a_law)
  n_int : mg "int" = none
  n_range : mg "range" = none
  n_len : mg "len" = none
  n_sorted : mg "sorted" = none
  n_list : mg "list" = none
  n_str : mg "str" = none
  n_isinstance : mg "isinstance" = none
  n_reversed : mg "reversed" = none
  n_bool : mg "bool" = none
  n_zip : mg "zip" = none
  n_tuple : mg "tuple" = none
  n_enumerate : mg "enumerate" = none
  n_repr : mg "repr" = none
  n_sum : mg "sum" = none
  n_max : mg "max" = none
section
variable {K : PySem.W.Frag} {mg : Str → Option Value}
theorem b__law_hash (T : Tx K mg) : Binds K T.fd__law_hash ["_law_seed", "_law_index"] [] := T.F__law_hash.binds fun _ _ _ _ _ _ us hl => match us, hl with | [_, _], _ => rfl
theorem b__law_random (T : Tx K mg) : Binds K T.fd__law_random ["_law_generator_here", "_law_bound"] [] := T.F__law_random.binds fun _ _ _ _ _ _ us hl => match us, hl with | [_, _], _ => rfl
theorem b__law_alphabet (T : Tx K mg) : Binds K T.fd__law_alphabet ["_law_generator_here", "_law_least"] [] := T.F__law_alphabet.binds fun _ _ _ _ _ _ us hl => match us, hl with | [_, _], _ => rfl
theorem b__law_text (T : Tx K mg) : Binds K T.fd__law_text ["_law_generator_here", "_law_letters", "_law_size"] [] := T.F__law_text.binds fun _ _ _ _ _ _ us hl => match us, hl with | [_, _, _], _ => rfl
theorem b__law_readings (T : Tx K mg) : Binds K T.fd__law_readings ["_law_word", "_law_text_here"] [] := T.F__law_readings.binds fun _ _ _ _ _ _ us hl => match us, hl with | [_, _], _ => rfl
theorem b__law_bent (T : Tx K mg) : Binds K T.fd__law_bent ["_law_generator_here", "_law_places", "_law_size"] [] := T.F__law_bent.binds fun _ _ _ _ _ _ us hl => match us, hl with | [_, _, _], _ => rfl
theorem b_is_text (T : Tx K mg) : Binds K T.fd_is_text ["value"] [] := T.F_is_text.binds fun _ _ _ _ _ _ us hl => match us, hl with | [_], _ => rfl
theorem b_need_word (T : Tx K mg) : Binds K T.fd_need_word ["word"] [] := T.F_need_word.binds fun _ _ _ _ _ _ us hl => match us, hl with | [_], _ => rfl
theorem b_need_text (T : Tx K mg) : Binds K T.fd_need_text ["text"] [] := T.F_need_text.binds fun _ _ _ _ _ _ us hl => match us, hl with | [_], _ => rfl
theorem b_count (T : Tx K mg) : Binds K T.fd_count ["word", "text"] [] := T.F_count.binds fun _ _ _ _ _ _ us hl => match us, hl with | [_, _], _ => rfl
theorem b__end_counts (T : Tx K mg) : Binds K T.fd__end_counts ["word", "text"] [] := T.F__end_counts.binds fun _ _ _ _ _ _ us hl => match us, hl with | [_, _], _ => rfl
theorem b_is_whole (T : Tx K mg) : Binds K T.fd_is_whole ["value"] [] := T.F_is_whole.binds fun _ _ _ _ _ _ us hl => match us, hl with | [_], _ => rfl
theorem b__reads (T : Tx K mg) : Binds K T.fd__reads ["word", "text", "value"] [] := T.F__reads.binds fun _ _ _ _ _ _ us hl => match us, hl with | [_, _, _], _ => rfl
theorem b_reading_number (T : Tx K mg) : Binds K T.fd_reading_number ["word", "text", "places"] [] := T.F_reading_number.binds fun _ _ _ _ _ _ us hl => match us, hl with | [_, _, _], _ => rfl
theorem b__law_yes (T : Tx K mg) : Binds K T.fd__law_yes ["_law_told", "_law_due"] [] := T.F__law_yes.binds fun _ _ _ _ _ _ us hl => match us, hl with | [_, _], _ => rfl
theorem b_is_reading (T : Tx K mg) : Binds K T.fd_is_reading ["word", "text", "value"] [] := T.F_is_reading.binds fun _ _ _ _ _ _ us hl => match us, hl with | [_, _, _], _ => rfl
theorem b_is_count (T : Tx K mg) : Binds K T.fd_is_count ["value"] [] := T.F_is_count.binds fun _ _ _ _ _ _ us hl => match us, hl with | [_], _ => rfl
theorem b_reading (T : Tx K mg) : Binds K T.fd_reading ["word", "text", "number"] [] := T.F_reading.binds fun _ _ _ _ _ _ us hl => match us, hl with | [_, _, _], _ => rfl
theorem b__law_same_as (T : Tx K mg) : Binds K T.fd__law_same_as ["_law_one", "_law_other"] [] := T.F__law_same_as.binds fun _ _ _ _ _ _ us hl => match us, hl with | [_, _], _ => rfl
theorem b__law_pair_right (T : Tx K mg) : Binds K T.fd__law_pair_right ["_law_generator_here", "_law_word", "_law_text_here"] [] := T.F__law_pair_right.binds fun _ _ _ _ _ _ us hl => match us, hl with | [_, _, _], _ => rfl
theorem b__law_right (T : Tx K mg) : Binds K T.fd__law_right ["_law_generator_here"] [] := T.F__law_right.binds fun _ _ _ _ _ _ us hl => match us, hl with | [_], _ => rfl
theorem b__law_cell (T : Tx K mg) : Binds K T.fd__law_cell ["_law_script", "_law_index"] [] := T.F__law_cell.binds fun _ _ _ _ _ _ us hl => match us, hl with | [_, _], _ => rfl
theorem b__law_generator (T : Tx K mg) : Binds K T.fd__law_generator ["_law_script", "_law_index"] [] := T.F__law_generator.binds fun _ _ _ _ _ _ us hl => match us, hl with | [_, _], _ => rfl
theorem b_law (T : Tx K mg) : Binds K T.fd_law ["_law_script"] [] := T.F_law.binds fun _ _ _ _ _ _ us hl => match us, hl with | [_], _ => rfl
end
end K01
set_option Elab.async false
set_option linter.all false
set_option maxRecDepth 100000
set_option maxHeartbeats 4000000
namespace K01
open PySem PySem.Spec PyProof.Rows L2 Evl Bx
section
variable {P : Program} {w : World} {K : PySem.W.Frag} {mg : Str → Option Value} {base : Heap}
/-! ### texts -/
def sp_is_text (K : PySem.W.Frag) : Sp := fun vs H Q _ => ∃ l, vs = [tx l] ∧ Low l ∧ Q (.bl true) H
theorem ok_is_text (T : Tx K mg) : FnOk P w K mg base CX0 1 T.a_is_text T.fd_is_text ["value"] (sp_is_text K) := by
  refine T.F_is_text.ok sc_is_text (fun vs H Q E h => ?_) (fun cdv A outer s H vs Q E hr h => ?_)
  · obtain ⟨l, rfl, _⟩ := h
    rfl
  · obtain ⟨l, rfl, hl, q⟩ := h
    refine ⟨_, (pss_cons (ps_if (pt_not (pt_val (pe_callB call_isi (by rfl) T.n_isinstance (by decide +kernel) (pa_cons (pv 0) (pa_cons (pe_bltn (v := .ty "str") (u := .type "str") (by rfl) T.n_str (by decide +kernel) rfl) pa_nil))))) (pss_one (ps_ret pe_bl)) pss_nil) (pss_one (ps_ret (pe_or (pe_cmpR op_eq (pv 0) pe_str (nomark _)) (pe_one (pe_and (pe_m0 PySem.F.slot_str_isascii PySem.F.type_str_isascii mt_isascii (pv 0)) (pe_and (pe_m0 PySem.F.slot_str_isalpha PySem.F.type_str_isalpha mt_isalpha (pv 0)) (pe_one (pe_m0 PySem.F.slot_str_islower PySem.F.type_str_islower mt_islower (pv 0)))))))))), ?_⟩
    refine ⟨_, rfl, _, _, .type "str", _, true, rfl, .ty _, .base (.str _), kit_ty (by decide +kernel), true, rfl, iteF ?_⟩
    refine ⟨_, rfl, rfl, _, rfl, ?_⟩
    by_cases n : l = []
    · subst n
      rw [if_pos (by rfl)]
      exact q
    · have ne : decide (tx l = V.str (PySem.Str.ofString "")) = false := decide_eq_false fun z => n ((tx_inj (l := l) (m := [])).mp (z.trans (by rfl)))
      rw [ne]
      refine iteF ?_
      have a1 := low_ascii hl
      have a2 := low_alpha hl n
      have a3 := low_lower hl n
      refine ⟨_, rfl, ⟨_, rfl⟩, _, rfl, rfl, trivial, _, rfl, ?_⟩
      rw [a1]
      refine iteT ⟨_, rfl, ⟨_, rfl⟩, _, rfl, rfl, trivial, _, rfl, ?_⟩
      rw [a2]
      refine iteT ⟨_, rfl, ⟨_, rfl⟩, _, rfl, rfl, trivial, ?_⟩
      rw [a3]
      exact q
def sp_need (K : PySem.W.Frag) : Sp := fun vs H Q _ => ∃ l, vs = [tx l] ∧ Low l ∧ Q .non H
theorem ok_need_text (T : Tx K mg) : FnOk P w K mg base CX0 2 T.a_need_text T.fd_need_text ["text"] (sp_need K) := by
  refine T.F_need_text.ok sc_need_text (fun vs H Q E h => ?_) (fun cdv A outer s H vs Q E hr h => ?_)
  · obtain ⟨l, rfl, _⟩ := h
    rfl
  · obtain ⟨l, rfl, hl, q⟩ := h
    refine ⟨_, (pss_one (ps_if (pt_not (pt_val (pe_call (ok_is_text T) (hr.mono (by decide)) (by rfl) T.g_is_text T.F_is_text.kp (b_is_text T) .nil pass0 (pa_cons (pv 0) pa_nil)))) (pss_one ps_never) pss_nil)), ?_⟩
    exact ⟨_, rfl, l, rfl, hl, true, rfl, iteF q⟩
theorem ok_need_word (T : Tx K mg) : FnOk P w K mg base CX0 2 T.a_need_word T.fd_need_word ["word"] (sp_need K) := by
  refine T.F_need_word.ok sc_need_word (fun vs H Q E h => ?_) (fun cdv A outer s H vs Q E hr h => ?_)
  · obtain ⟨l, rfl, _⟩ := h
    rfl
  · obtain ⟨l, rfl, hl, q⟩ := h
    refine ⟨_, (pss_one (ps_if (pt_not (pt_val (pe_call (ok_is_text T) (hr.mono (by decide)) (by rfl) T.g_is_text T.F_is_text.kp (b_is_text T) .nil pass0 (pa_cons (pv 0) pa_nil)))) (pss_one ps_never) pss_nil)), ?_⟩
    exact ⟨_, rfl, l, rfl, hl, true, rfl, iteF q⟩
/-! ### count -/
def sp_count (K : PySem.W.Frag) : Sp := fun vs H Q _ => ∃ u t, vs = [tx u, tx t] ∧ Low u ∧ Low t ∧ u.length ≤ 1000 ∧ t.length ≤ 1000 ∧ ∀ H', Ex H H' → Q (.int ((Mx.cnt u t : Nat) : Int)) H'
/-- what stands at the loop's list -/
def At (H : Hp) (p : Addr) (H' : Hp) (ns : List Int) : Prop := Ex H H' ∧ H p = none ∧ H' p = some (.lst (ns.map V.int))
theorem ok_count (T : Tx K mg) : FnOk P w K mg base CX0 3 T.a_count T.fd_count ["word", "text"] (sp_count K) := by
  refine T.F_count.ok sc_count (fun vs H Q E h => ?_) (fun cdv A outer s H vs Q E hr h => ?_)
  · obtain ⟨u, t, rfl, _⟩ := h
    rfl
  · obtain ⟨u, t, rfl, hu, ht, lu, lt, q⟩ := h
    refine ⟨_, (pss_cons (ps_expr (pe_call (ok_need_word T) (hr.mono (by decide)) (by rfl) T.g_need_word T.F_need_word.kp (b_need_word T) .nil pass0 (pa_cons (pv 0) pa_nil))) (pss_cons (ps_expr (pe_call (ok_need_text T) (hr.mono (by decide)) (by rfl) T.g_need_text T.F_need_text.kp (b_need_text T) .nil pass0 (pa_cons (pv 1) pa_nil))) (pss_cons (ps_set (i := 2) sc_count.nd rfl (by first | exact Or.inl rfl | exact Or.inr rfl) (pe_op op_cat (pe_lst (pa_cons pe_int pa_nil)) (pe_op op_rep (pe_lst (pa_cons pe_int pa_nil)) (pe_callB call_len_str (by rfl) T.n_len (by decide +kernel) (pa_cons (pv 0) pa_nil))))) (pss_cons (ps_for PassesOwn.never rfl (pi_str (pv 1)) (pg_name (i := 3) sc_count.nd rfl (by first | exact Or.inl rfl | exact Or.inr rfl)) (pss_one (ps_for PassesOwn.never rfl (pi_revR (by rfl) T.n_reversed (prg_1 (by rfl) T.n_range (pe_callB call_len_str (by rfl) T.n_len (by decide +kernel) (pa_cons (pv 0) pa_nil)))) (pg_name (i := 4) sc_count.nd rfl (by first | exact Or.inl rfl | exact Or.inr rfl)) (pss_one (ps_if (pt_cmpR op_eq (pe_ix ix_str (pv 0) (pv 4) (fun _ _ => rfl)) (pv 3) (nomark _)) (pss_one (ps_asg (pe_op op_add (pe_ix ix_list (pv 2) (pe_op op_add (pv 4) pe_int) (fun _ _ => rfl)) (pe_ix ix_list (pv 2) (pv 4) (fun _ _ => rfl))) (pg_sub (pv 2) (pe_op op_add (pv 4) pe_int) set_list))) pss_nil))))) (pss_one (ps_ret (pe_ix ix_list (pv 2) (pe_un un_neg pe_int) (fun _ _ => rfl)))))))), ?_⟩
    refine ⟨_, rfl, u, rfl, hu, _, rfl, t, rfl, ht, ?_⟩
    -- ways = [1] + [0] * len(word)
    refine ⟨by show 1 ≤ sizeLine; decide, fun p1 n1 => ?_⟩
    refine ⟨by show 1 ≤ sizeLine; decide, fun p2 n2 => ?_⟩
    have d12 : p2 ≠ p1 := fun e => by rw [e, upd_same] at n2; cases n2
    refine ⟨_, rfl, mk u, rfl, by rw [mk_len]; exact sz_of (by omega), _, _, _, rfl, rfl, upd_same, by rw [mk_len]; omega, by rw [mk_len]; omega, by rw [mk_len]; exact sz_of (by simp; omega), fun p3 n3 => ?_⟩
    have d31 : p3 ≠ p1 := fun e => by rw [e, upd_ne d12.symm, upd_same] at n3; cases n3
    have hz : (List.replicate ((mk u).length : Int).toNat [V.int 0]).flatten = List.replicate u.length (V.int 0) := by
      rw [mk_len, Int.toNat_natCast]
      generalize u.length = k
      induction k with
      | zero => rfl
      | succ k ih => rw [List.replicate_succ, List.flatten_cons, ih, List.replicate_succ]; rfl
    rw [hz]
    refine ⟨p1, p3, _, _, rfl, rfl, by rw [upd_ne d31.symm, upd_ne d12.symm, upd_same], upd_same, by simp; exact sz_of (by omega), fun p n => ?_⟩
    have e0 : [V.int 1] ++ List.replicate u.length (V.int 0) = (Mx.row u []).map V.int := by
      rw [Mx.row_nil]
      simp
    rw [e0]
    have at0 : At H p (upd (upd (upd (upd H p1 (.lst [V.int 1])) p2 (.lst [V.int 0])) p3 (.lst (List.replicate u.length (V.int 0)))) p (.lst ((Mx.row u []).map V.int))) (Mx.row u []) := by
      have x1 : Ex H (upd H p1 (.lst [V.int 1])) := Ex.new n1
      have x2 := x1.trans (Ex.new n2 (o := .lst [V.int 0]))
      have x3 := x2.trans (Ex.new n3 (o := .lst (List.replicate u.length (V.int 0))))
      exact ⟨x3.trans (Ex.new n), fresh_back x3 n, upd_same⟩
    generalize (upd (upd (upd (upd H p1 (.lst [V.int 1])) p2 (.lst [V.int 0])) p3 (.lst (List.replicate u.length (V.int 0)))) p (.lst ((Mx.row u []).map V.int))) = H0 at at0 ⊢
    -- for sign in text
    refine forS (l := t) (ev_var rfl) (fun i σ' H' => ∃ y3 y4, σ' = [some (tx u), some (tx t), some (.ref p), y3, y4] ∧ At H p H' (Mx.row u (t.take i))) (fun H1 e1 => ⟨_, _, rfl, at0.1.trans e1, at0.2.1, e1 _ _ at0.2.2⟩) (fun i c σ' H' hc hp => ?_) (fun σ' H' hp => ?_)
    · obtain ⟨y3, y4, rfl, a1, a2, a3⟩ := hp
      have hi : i < t.length := (List.getElem?_eq_some_iff.mp hc).1
      -- for at in reversed(range(len(word)))
      refine forRv (n := (u.length : Int)) (fun H1 e1 Q' q' => ⟨_, rfl, mk u, rfl, by rw [mk_len]; exact sz_of (by omega), by rw [mk_len]; exact q' H1 (Ex.refl _)⟩) (by omega)
        (fun k σ' H' => ∃ y4, σ' = [some (tx u), some (tx t), some (.ref p), some (tx [c]), y4] ∧ At H p H' (Mx.mid u (t.take i) c k)) (fun H1 e1 => ⟨_, rfl, a1.trans e1, a2, by rw [Mx.mid_zero]; exact e1 _ _ a3⟩) (fun k σ' H' hk hp => ?_) (fun σ' H' hp => ?_)
      · obtain ⟨y4, rfl, b1, b2, b3⟩ := hp
        have hku : k < u.length := by omega
        have hj : u.length - 1 - k < u.length := by omega
        have ej : (u.length : Int) - 1 - k = ((u.length - 1 - k : Nat) : Int) := by omega
        rw [ej]
        refine ⟨_, rfl, _, rfl, mk u, _, u[u.length - 1 - k], rfl, rfl, by rw [mk_len]; exact sz_of (by omega), atI_nat (by rw [mk_list]; exact List.getElem?_eq_getElem hj), _, rfl, rfl, _, rfl, ?_⟩
        have turn := Mx.mid_turn u (t.take i) c k hku
        rw [List.getElem?_eq_getElem hj] at turn
        refine ite2 (fun h => ?_) (fun h => ?_)
        · have h1 : u[u.length - 1 - k] = c := by
            have := (tx_inj (l := [u[u.length - 1 - k]]) (m := [c])).mp (of_decide_eq_true h)
            simpa using this
          rw [if_pos (congrArg some h1)] at turn
          have g1 : atI ((Mx.mid u (t.take i) c k).map V.int) (((u.length - 1 - k : Nat) : Int) + 1) = some (.int ((Mx.cnt (u.take (u.length - k)) (t.take i) : Nat) : Int)) := by
            have e : ((u.length - 1 - k : Nat) : Int) + 1 = ((u.length - k : Nat) : Int) := by omega
            rw [e]
            refine atI_nat ?_
            rw [List.getElem?_map, Mx.mid_at _ _ _ _ _ (by omega), if_neg (by omega)]
            rfl
          have g2 : atI ((Mx.mid u (t.take i) c k).map V.int) ((u.length - 1 - k : Nat) : Int) = some (.int ((Mx.cnt (u.take (u.length - 1 - k)) (t.take i) : Nat) : Int)) := by
            refine atI_nat ?_
            rw [List.getElem?_map, Mx.mid_at _ _ _ _ _ (by omega), if_neg (by omega)]
            rfl
          refine ⟨_, rfl, _, rfl, _, 1, rfl, rfl, p, _, _, _, rfl, rfl, .inl (.inl b3), g1, _, rfl, _, rfl, p, _, _, _, rfl, rfl, .inl (.inl b3), g2, _, _, rfl, rfl, ?_⟩
          refine ⟨_, rfl, _, rfl, _, 1, rfl, rfl, p, _, _, u.length - k, rfl, rfl, b3, ?_, ?_⟩
          · have e : ((u.length - 1 - k : Nat) : Int) + 1 = ((u.length - k : Nat) : Int) := by omega
            rw [e]
            exact ixN_nat (by rw [List.length_map, Mx.mid_len]; omega)
          · refine ⟨_, rfl, Ex.mut b1 b2, b2, ?_⟩
            rw [upd_same, turn, List.map_set]
        · have h1 : ¬ u[u.length - 1 - k] = c := fun z => h (decide_eq_true (by rw [z]))
          rw [if_neg (fun z => h1 (Option.some.inj z))] at turn
          exact ⟨_, rfl, b1, b2, by rw [turn]; exact b3⟩
      · obtain ⟨y4, rfl, b1, b2, b3⟩ := hp
        refine ⟨_, _, rfl, b1, b2, ?_⟩
        have e : t.take (i + 1) = t.take i ++ [c] := by
          rw [List.take_add_one, hc]
          rfl
        rw [e, ← Mx.mid_all]
        have e2 : ((u.length : Int)).toNat = u.length := Int.toNat_natCast _
        rw [e2] at b3
        exact b3
    · obtain ⟨y3, y4, rfl, a1, a2, a3⟩ := hp
      rw [List.take_of_length_le (Nat.le_refl _)] at a3
      -- return ways[-1]
      refine ⟨_, rfl, 1, rfl, p, _, _, _, rfl, rfl, .inl (.inl a3), ?_, q _ a1⟩
      have hlen : ((Mx.row u t).map V.int).length = u.length + 1 := by rw [List.length_map, Mx.row_len]
      unfold atI ixN
      rw [if_neg (by decide), hlen, if_pos (by omega)]
      have e : ((-1 : Int) + ((u.length + 1 : Nat) : Int)).toNat = u.length := by omega
      rw [e]
      show ((Mx.row u t).map V.int)[u.length]? = _
      rw [List.getElem?_map, Mx.row_at _ _ _ (Nat.le_refl _), List.take_of_length_le (Nat.le_refl _)]
      rfl
end
end K01
set_option linter.all false
/-! Nx: readings by number: the mathematics, over lists of signs -/
namespace Nx
open Mx
theorem drop_at {t : List Nat} {p : Nat} (h : p < t.length) : t.drop p = t[p] :: t.drop (p + 1) := List.drop_eq_getElem_cons h
theorem back {t : List Nat} {p : Nat} (a : Nat) (u : List Nat) (h : p < t.length) : cnt (a :: u) (t.drop p) = cnt (a :: u) (t.drop (p + 1)) + if a = t[p] then cnt u (t.drop (p + 1)) else 0 := by
  rw [drop_at h, cnt_c]
/-- the reading with a number, from a place on -/
def rd : Nat → List Nat → List Nat → Nat → List Nat
  | _, [], _, _ => []
  | _, _ :: _, [], _ => []
  | p, a :: u, b :: s, k => if a = b then (if k < cnt u s then p :: rd (p + 1) u s k else rd (p + 1) (a :: u) s (k - cnt u s)) else rd (p + 1) (a :: u) s k
theorem rd_nil (p : Nat) (s : List Nat) (k : Nat) : rd p [] s k = [] := by cases s <;> simp [rd]
def isr (t : List Nat) : Nat → List Nat → List Nat → Prop
  | _, [], l => l = []
  | _, _ :: _, [] => False
  | lo, a :: u, q :: l => lo ≤ q ∧ t[q]? = some a ∧ isr t (q + 1) u l
theorem isr_low {t : List Nat} {lo lo' : Nat} (h : lo ≤ lo') : ∀ {w l : List Nat}, isr t lo' w l → isr t lo w l
  | [], _, i => i
  | _ :: _, [], i => i
  | _ :: _, _ :: _, ⟨a, b, c⟩ => ⟨Nat.le_trans h a, b, c⟩
theorem isr_len {t : List Nat} : ∀ {lo : Nat} {w l : List Nat}, isr t lo w l → l.length = w.length
  | _, [], _, i => by rw [i]
  | _, _ :: _, [], i => i.elim
  | _, _ :: _, _ :: _, ⟨_, _, c⟩ => by simp [isr_len c]
theorem isr_at {t : List Nat} : ∀ {lo : Nat} {w l : List Nat} {i q : Nat}, isr t lo w l → l[i]? = some q → lo ≤ q ∧ q < t.length ∧ t[q]? = w[i]?
  | _, [], _, i, q, h, e => by rw [h] at e; simp at e
  | _, _ :: _, [], _, _, h, _ => h.elim
  | lo, a :: u, x :: l, 0, q, ⟨h1, h2, _⟩, e => by
    simp at e
    subst e
    exact ⟨h1, (List.getElem?_eq_some_iff.mp h2).1, by simpa using h2⟩
  | lo, a :: u, x :: l, i + 1, q, ⟨h1, _, h3⟩, e => by
    have := isr_at h3 (by simpa using e)
    exact ⟨by omega, this.2.1, by simpa using this.2.2⟩
/-- places ascend -/
theorem isr_next {t : List Nat} : ∀ {lo : Nat} {w l : List Nat} {i q q' : Nat}, isr t lo w l → l[i]? = some q → l[i + 1]? = some q' → q + 1 ≤ q'
  | _, [], _, i, q, _, h, e, _ => by rw [h] at e; simp at e
  | _, _ :: _, [], _, _, _, h, _, _ => h.elim
  | lo, [a], x :: l, 0, q, q', ⟨_, _, h3⟩, e, e' => by
    have : l = [] := h3
    subst this
    simp at e'
  | lo, a :: b :: u, x :: [], 0, q, q', ⟨_, _, h3⟩, e, e' => by simp at e'
  | lo, a :: b :: u, x :: y :: l, 0, q, q', ⟨_, _, h3⟩, e, e' => by
    simp at e e'
    subst e e'
    exact h3.1
  | lo, a :: u, x :: l, i + 1, q, q', ⟨h1, _, h3⟩, e, e' => isr_next h3 (by simpa using e) (by simpa using e')
theorem rd_isr {t : List Nat} : ∀ (s : List Nat) (p : Nat) (w : List Nat) (k : Nat), t.drop p = s → k < cnt w s → isr t p w (rd p w s k)
  | s, p, [], k, _, _ => by rw [rd_nil]; rfl
  | [], p, a :: u, k, _, h => by rw [cnt_e] at h; omega
  | b :: s, p, a :: u, k, e, h => by
    have hp : p < t.length := by
      apply Decidable.byContradiction
      intro z
      rw [List.drop_eq_nil_of_le (by omega)] at e
      cases e
    have ed := drop_at hp
    rw [e] at ed
    injection ed with e1 e2
    have tb : t[p]? = some b := by rw [List.getElem?_eq_getElem hp, e1]
    rw [cnt_c] at h
    unfold rd
    by_cases hab : a = b
    · rw [if_pos hab] at h ⊢
      by_cases hk : k < cnt u s
      · rw [if_pos hk]
        exact ⟨Nat.le_refl _, by rw [tb, hab], rd_isr s (p + 1) u k e2.symm hk⟩
      · rw [if_neg hk]
        exact isr_low (Nat.le_succ p) (rd_isr s (p + 1) (a :: u) (k - cnt u s) e2.symm (by omega))
    · rw [if_neg hab] at h ⊢
      exact isr_low (Nat.le_succ p) (rd_isr s (p + 1) (a :: u) k e2.symm (by omega))
/-- what is left out between lo and lo + n -/
def gap (t : List Nat) (a : Nat) (u : List Nat) (lo n : Nat) : Nat := ((List.range n).map fun j => if t[lo + j]? = some a then cnt u (t.drop (lo + j + 1)) else 0).sum
theorem gap_zero (t : List Nat) (a : Nat) (u : List Nat) (lo : Nat) : gap t a u lo 0 = 0 := rfl
theorem gap_last (t : List Nat) (a : Nat) (u : List Nat) (lo n : Nat) : gap t a u lo (n + 1) = gap t a u lo n + if t[lo + n]? = some a then cnt u (t.drop (lo + n + 1)) else 0 := by
  unfold gap
  rw [List.range_succ, List.map_append, List.sum_append]
  simp
theorem gap_first (t : List Nat) (a : Nat) (u : List Nat) : ∀ (n lo : Nat), gap t a u lo (n + 1) = (if t[lo]? = some a then cnt u (t.drop (lo + 1)) else 0) + gap t a u (lo + 1) n
  | 0, lo => by
    rw [gap_last, gap_zero, gap_zero]
    simp
  | n + 1, lo => by
    rw [gap_last, gap_first t a u n lo, gap_last t a u (lo + 1) n]
    have e : lo + 1 + n = lo + (n + 1) := by omega
    rw [e, Nat.add_assoc]
def num (t : List Nat) : Nat → List Nat → List Nat → Nat
  | lo, a :: u, q :: l => gap t a u lo (q - lo) + num t (q + 1) u l
  | _, _, _ => 0
theorem num_nil (t : List Nat) (lo : Nat) (w : List Nat) : num t lo w [] = 0 := by cases w <;> rfl
theorem num_step {t : List Nat} {p a : Nat} {u : List Nat} : ∀ {l : List Nat}, isr t (p + 1) (a :: u) l → num t p (a :: u) l = (if t[p]? = some a then cnt u (t.drop (p + 1)) else 0) + num t (p + 1) (a :: u) l
  | [], h => h.elim
  | q :: l, ⟨h1, _, _⟩ => by
    show gap t a u p (q - p) + _ = _ + (gap t a u (p + 1) (q - (p + 1)) + _)
    have e : q - p = (q - (p + 1)) + 1 := by omega
    rw [e, gap_first]
    omega
theorem rd_num {t : List Nat} : ∀ (s : List Nat) (p : Nat) (w : List Nat) (k : Nat), t.drop p = s → k < cnt w s → num t p w (rd p w s k) = k
  | s, p, [], k, _, h => by
    rw [cnt_nil] at h
    rw [rd_nil, num_nil]
    omega
  | [], p, a :: u, k, _, h => by rw [cnt_e] at h; omega
  | b :: s, p, a :: u, k, e, h => by
    have hp : p < t.length := by
      apply Decidable.byContradiction
      intro z
      rw [List.drop_eq_nil_of_le (by omega)] at e
      cases e
    have ed := drop_at hp
    rw [e] at ed
    injection ed with e1 e2
    have tb : t[p]? = some b := by rw [List.getElem?_eq_getElem hp, e1]
    rw [cnt_c] at h
    unfold rd
    by_cases hab : a = b
    · rw [if_pos hab] at h ⊢
      by_cases hk : k < cnt u s
      · rw [if_pos hk]
        show gap t a u p (p - p) + num t (p + 1) u _ = k
        rw [Nat.sub_self, gap_zero, rd_num s (p + 1) u k e2.symm hk]
        omega
      · rw [if_neg hk, num_step (rd_isr s (p + 1) (a :: u) (k - cnt u s) e2.symm (by omega)), if_pos (by rw [tb, hab]), rd_num s (p + 1) (a :: u) (k - cnt u s) e2.symm (by omega), ← e2]
        omega
    · rw [if_neg hab] at h ⊢
      rw [num_step (rd_isr s (p + 1) (a :: u) k e2.symm (by omega)), if_neg (by rw [tb]; exact fun z => hab (Option.some.inj z).symm), rd_num s (p + 1) (a :: u) k e2.symm (by omega)]
      omega
/-- ahead in order -/
theorem rd_lt {t : List Nat} : ∀ (s : List Nat) (p : Nat) (w : List Nat) (k k' : Nat), t.drop p = s → k < k' → k' < cnt w s → rd p w s k < rd p w s k'
  | s, p, [], k, k', _, h, h' => by rw [cnt_nil] at h'; omega
  | [], p, a :: u, k, k', _, h, h' => by rw [cnt_e] at h'; omega
  | b :: s, p, a :: u, k, k', e, h, h' => by
    have hp : p < t.length := by
      apply Decidable.byContradiction
      intro z
      rw [List.drop_eq_nil_of_le (by omega)] at e
      cases e
    have ed := drop_at hp
    rw [e] at ed
    injection ed with e1 e2
    rw [cnt_c] at h'
    unfold rd
    by_cases hab : a = b
    · rw [if_pos hab] at h'
      rw [if_pos hab, if_pos hab]
      by_cases hk : k < cnt u s
      · rw [if_pos hk]
        by_cases hk' : k' < cnt u s
        · rw [if_pos hk']
          exact List.cons_lt_cons_self.mpr (rd_lt s (p + 1) u k k' e2.symm h hk')
        · rw [if_neg hk']
          have i := rd_isr s (p + 1) (a :: u) (k' - cnt u s) e2.symm (by omega)
          match hr : rd (p + 1) (a :: u) s (k' - cnt u s), i with
          | [], i => exact i.elim
          | q :: l, i =>
            exact List.Lex.rel (by have := i.1; omega)
      · rw [if_neg hk, if_neg (by omega)]
        exact rd_lt s (p + 1) (a :: u) (k - cnt u s) (k' - cnt u s) e2.symm (by omega) (by omega)
    · rw [if_neg hab] at h'
      rw [if_neg hab, if_neg hab]
      exact rd_lt s (p + 1) (a :: u) k k' e2.symm h (by omega)

/-! ### how many readings have a place -/
theorem at_letter : ∀ (t x y : List Nat) (a : Nat), ((List.range t.length).map fun q => if t[q]? = some a then cnt x (t.take q) * cnt y (t.drop (q + 1)) else 0).sum = cnt (x ++ a :: y) t
  | [], x, y, a => by
    rw [cnt_empty _ (by simp)]
    rfl
  | b :: t, [], y, a => by
    rw [List.length_cons, List.range_succ_eq_map, List.map_cons, List.sum_cons, List.map_map]
    have ih := at_letter t [] y a
    rw [List.nil_append] at ih ⊢
    rw [cnt_c, ← ih]
    have e : ((fun q => if (b :: t)[q]? = some a then cnt [] ((b :: t).take q) * cnt y ((b :: t).drop (q + 1)) else 0) ∘ Nat.succ) = fun q => if t[q]? = some a then cnt [] (t.take q) * cnt y (t.drop (q + 1)) else 0 := by
      funext q
      simp [cnt_nil]
    rw [e]
    simp only [List.getElem?_cons_zero, Option.some.injEq, List.take_zero, cnt_nil, Nat.one_mul, List.drop_succ_cons, List.drop_zero]
    by_cases h : a = b
    · rw [if_pos h, if_pos h.symm]; omega
    · rw [if_neg h, if_neg (fun z => h z.symm)]; omega
  | b :: t, c :: x, y, a => by
    rw [List.length_cons, List.range_succ_eq_map, List.map_cons, List.sum_cons, List.map_map]
    have i1 := at_letter t (c :: x) y a
    have i2 := at_letter t x y a
    have e0 : (if (b :: t)[0]? = some a then cnt (c :: x) ((b :: t).take 0) * cnt y ((b :: t).drop (0 + 1)) else 0) = 0 := by
      simp [cnt_e]
    have e : ((fun q => if (b :: t)[q]? = some a then cnt (c :: x) ((b :: t).take q) * cnt y ((b :: t).drop (q + 1)) else 0) ∘ Nat.succ) = fun q => (if t[q]? = some a then cnt (c :: x) (t.take q) * cnt y (t.drop (q + 1)) else 0) + (if c = b then (if t[q]? = some a then cnt x (t.take q) * cnt y (t.drop (q + 1)) else 0) else 0) := by
      funext q
      show (if t[q]? = some a then cnt (c :: x) (b :: t.take q) * cnt y (t.drop (q + 1)) else 0) = _
      by_cases h1 : t[q]? = some a
      · rw [if_pos h1, if_pos h1, if_pos h1, cnt_c, Nat.add_mul]
        by_cases h2 : c = b
        · rw [if_pos h2, if_pos h2]
        · rw [if_neg h2, if_neg h2, Nat.zero_mul]
      · rw [if_neg h1, if_neg h1, if_neg h1]
        split <;> rfl
    rw [e0, e, sum_map_add, i1, List.cons_append, cnt_c, Nat.zero_add]
    by_cases h2 : c = b
    · simp only [if_pos h2]
      rw [i2]
    · simp only [if_neg h2]
      rw [sum_map_zero]
theorem sum_swap (f : Nat → Nat → Nat) (n : Nat) : ∀ m : Nat, ((List.range m).map fun q => ((List.range n).map fun i => f q i).sum).sum = ((List.range n).map fun i => ((List.range m).map fun q => f q i).sum).sum
  | 0 => by
    have e : (fun i => ((List.range 0).map fun q => f q i).sum) = fun _ : Nat => 0 := rfl
    rw [e, sum_map_zero]
    rfl
  | m + 1 => by
    rw [List.range_succ, List.map_append, List.sum_append, sum_swap f n m]
    have e : (fun i => ((List.range m ++ [m]).map fun q => f q i).sum) = fun i => ((List.range m).map fun q => f q i).sum + f m i := by
      funext i
      rw [List.map_append, List.sum_append]
      simp
    rw [e, sum_map_add]
    simp
/-- of the word w in t: at the place q, by the letter i -/
def us (w t : List Nat) (q i : Nat) : Nat := if w[i]? = t[q]? then cnt (w.take i) (t.take q) * cnt (w.drop (i + 1)) (t.drop (q + 1)) else 0
def used (w t : List Nat) (q : Nat) : Nat := ((List.range w.length).map fun i => us w t q i).sum
theorem map_sum_congr {f g : Nat → Nat} {n : Nat} (h : ∀ i, i < n → f i = g i) : ((List.range n).map f).sum = ((List.range n).map g).sum := by
  congr 1
  apply List.map_congr_left
  intro i hi
  exact h i (List.mem_range.mp hi)
theorem sum_const (c : Nat) : ∀ n : Nat, ((List.range n).map fun _ => c).sum = n * c
  | 0 => by simp
  | n + 1 => by
    rw [List.range_succ, List.map_append, List.sum_append, sum_const c n, Nat.add_mul]
    simp
theorem used_all (w t : List Nat) : ((List.range t.length).map fun q => used w t q).sum = w.length * cnt w t := by
  unfold used
  rw [sum_swap (fun q i => us w t q i) w.length t.length]
  have e : ∀ i, i < w.length → ((List.range t.length).map fun q => us w t q i).sum = cnt w t := by
    intro i hi
    have h := at_letter t (w.take i) (w.drop (i + 1)) w[i]
    have ew : w.take i ++ w[i] :: w.drop (i + 1) = w := by rw [← List.drop_eq_getElem_cons hi, List.take_append_drop]
    rw [ew] at h
    rw [← h]
    apply map_sum_congr
    intro q hq
    unfold us
    rw [List.getElem?_eq_getElem hi]
    by_cases z : t[q]? = some w[i]
    · rw [if_pos z, if_pos z.symm]
    · rw [if_neg z, if_neg (fun y => z y.symm)]
  rw [map_sum_congr e, sum_const]

/-! ### choices -/
def ch (a n k : Nat) : Nat := cnt (List.replicate k a) (List.replicate n a)
theorem ch_zero (a n : Nat) : ch a n 0 = 1 := by
  show cnt [] _ = 1
  exact cnt_nil _
theorem ch_none (a k : Nat) : ch a 0 (k + 1) = 0 := rfl
theorem ch_step (a n k : Nat) : ch a (n + 1) (k + 1) = ch a n (k + 1) + ch a n k := by
  unfold ch
  rw [List.replicate_succ, List.replicate_succ, cnt_c, if_pos rfl]
theorem ch_big (a : Nat) : ∀ (n k : Nat), n < k → ch a n k = 0
  | 0, k + 1, _ => rfl
  | n + 1, k + 1, h => by rw [ch_step, ch_big a n (k + 1) (by omega), ch_big a n k (by omega)]
theorem ch_mul (a : Nat) : ∀ (n k : Nat), ch a n (k + 1) * (k + 1) = ch a n k * (n - k)
  | 0, k => by rw [ch_none]; simp
  | n + 1, 0 => by
    have ih := ch_mul a n 0
    rw [ch_zero] at ih ⊢
    rw [ch_step, ch_zero]
    simp at ih ⊢
    omega
  | n + 1, k + 1 => by
    have i1 := ch_mul a n (k + 1)
    have i2 := ch_mul a n k
    rw [ch_step, ch_step a n k, Nat.add_mul, Nat.add_mul]
    rw [i1]
    by_cases h : k < n
    · have e1 : n - (k + 1) = (n - k) - 1 := by omega
      have e2 : n + 1 - (k + 1) = n - k := by omega
      rw [e2, ← i2]
      have e3 : ch a n (k + 1) * (n - (k + 1)) + ch a n (k + 1) * (k + 1 + 1) = ch a n (k + 1) * (n - k) + ch a n (k + 1) * (k + 1) := by
        rw [← Nat.mul_add, ← Nat.mul_add]
        congr 1
        omega
      rw [e3]
    · have z1 : ch a n (k + 1) = 0 := ch_big a n (k + 1) (by omega)
      have e2 : n + 1 - (k + 1) = n - k := by omega
      rw [z1, e2, ← i2, z1]
      simp
theorem ch_next (a n k : Nat) : ((ch a n k : Nat) : Int) * ((n : Int) - k) / ((k : Int) + 1) = ((ch a n (k + 1) : Nat) : Int) := by
  have e : ((ch a n k : Nat) : Int) * ((n : Int) - k) = ((ch a n (k + 1) : Nat) : Int) * ((k : Int) + 1) := by
    have h := ch_mul a n k
    by_cases hk : k ≤ n
    · have : ((n - k : Nat) : Int) = (n : Int) - k := by omega
      rw [← this]
      have h2 : ((ch a n (k + 1) * (k + 1) : Nat) : Int) = ((ch a n k * (n - k) : Nat) : Int) := by rw [h]
      rw [Int.natCast_mul, Int.natCast_mul] at h2
      rw [← h2]
      rfl
    · rw [ch_big a n k (by omega), ch_big a n (k + 1) (by omega)]
      simp
  rw [e]
  exact Int.mul_ediv_cancel _ (by omega)
theorem cnt_lone (b : Nat) : ∀ (h m : Nat) , cnt (List.replicate m b) (List.replicate h b) = ch b h m := fun _ _ => rfl
theorem cnt_not {a : Nat} (u : List Nat) : ∀ (t : List Nat), a ∉ t → cnt (a :: u) t = 0
  | [], _ => rfl
  | b :: t, h => by
    rw [cnt_c, cnt_not u t (fun z => h (List.mem_cons_of_mem _ z)), if_neg (fun z => h (by rw [z]; exact List.mem_cons_self))]
theorem cnt_runs {a b : Nat} (hab : a ≠ b) (h m : Nat) : ∀ (l s : Nat), cnt (List.replicate s a ++ List.replicate m b) (List.replicate l a ++ List.replicate h b) = ch a l s * ch b h m
  | 0, 0 => by rw [ch_zero, Nat.one_mul]; rfl
  | 0, s + 1 => by
    rw [ch_none, Nat.zero_mul]
    exact cnt_not _ _ (fun z => hab (List.eq_of_mem_replicate z))
  | l + 1, 0 => by
    have ih := cnt_runs hab h m l 0
    rw [ch_zero] at ih ⊢
    rw [← ih]
    show cnt (List.replicate m b) (a :: (List.replicate l a ++ List.replicate h b)) = cnt (List.replicate m b) (List.replicate l a ++ List.replicate h b)
    cases m with
    | zero => rw [List.replicate_zero, cnt_nil, cnt_nil]
    | succ m => rw [List.replicate_succ, cnt_c, if_neg (fun z => hab z.symm), Nat.add_zero]
  | l + 1, s + 1 => by
    have i1 := cnt_runs hab h m l (s + 1)
    have i2 := cnt_runs hab h m l s
    rw [ch_step, Nat.add_mul, ← i1, ← i2]
    show cnt (a :: (List.replicate s a ++ List.replicate m b)) (a :: (List.replicate l a ++ List.replicate h b)) = _
    rw [cnt_c, if_pos rfl]
    rfl
end Nx
set_option Elab.async false
set_option linter.all false
set_option maxRecDepth 100000
set_option maxHeartbeats 4000000
namespace K01
open PySem PySem.Spec PyProof.Rows L2 Evl Bx
section
variable {P : Program} {w : World} {K : PySem.W.Frag} {mg : Str → Option Value} {base : Heap}
theorem rep_flat (k : Nat) (v : V) : (List.replicate k [v]).flatten = List.replicate k v := by
  induction k with
  | zero => rfl
  | succ k ih => rw [List.replicate_succ, List.flatten_cons, ih, List.replicate_succ]; rfl
def sp_is_whole (K : PySem.W.Frag) : Sp := fun vs H Q _ => ∃ i : Int, vs = [.int i] ∧ Q (.bl true) H
theorem ok_is_whole (T : Tx K mg) : FnOk P w K mg base CX0 1 T.a_is_whole T.fd_is_whole ["value"] (sp_is_whole K) := by
  refine T.F_is_whole.ok sc_is_whole (fun vs H Q E h => ?_) (fun cdv A outer s H vs Q E hr h => ?_)
  · obtain ⟨l, rfl, _⟩ := h
    rfl
  · obtain ⟨i, rfl, q⟩ := h
    refine ⟨_, (pss_one (ps_ret (pe_and (pe_callB call_isi (by rfl) T.n_isinstance (by decide +kernel) (pa_cons (pv 0) (pa_cons (pe_bltn (v := .ty "int") (u := .type "int") (by rfl) T.n_int (by decide +kernel) rfl) pa_nil))) (pe_one (pe_not (pe_callB call_isi (by rfl) T.n_isinstance (by decide +kernel) (pa_cons (pv 0) (pa_cons (pe_bltn (v := .ty "bool") (u := .type "bool") (by rfl) T.n_bool (by decide +kernel) rfl) pa_nil)))))))), ?_⟩
    refine ⟨_, rfl, _, _, .type "int", _, true, rfl, .ty _, .base (.int _), kit_ty (by decide +kernel), true, rfl, iteT ?_⟩
    exact ⟨_, rfl, _, _, .type "int", _, false, rfl, .ty _, .base (.int _), kit_ty (by decide +kernel), false, rfl, q⟩
def sp_is_count (K : PySem.W.Frag) : Sp := fun vs H Q _ => ∃ i : Nat, vs = [.int (i : Nat)] ∧ Q (.bl true) H
theorem ok_is_count (T : Tx K mg) : FnOk P w K mg base CX0 2 T.a_is_count T.fd_is_count ["value"] (sp_is_count K) := by
  refine T.F_is_count.ok sc_is_count (fun vs H Q E h => ?_) (fun cdv A outer s H vs Q E hr h => ?_)
  · obtain ⟨l, rfl, _⟩ := h
    rfl
  · obtain ⟨i, rfl, q⟩ := h
    refine ⟨_, (pss_one (ps_ret (pe_and (pe_call (ok_is_whole T) (hr.mono (by decide)) (by rfl) T.g_is_whole T.F_is_whole.kp (b_is_whole T) .nil pass0 (pa_cons (pv 0) pa_nil)) (pe_one (pe_cmpR op_ge (pv 0) pe_int (nomark _)))))), ?_⟩
    refine ⟨_, rfl, _, rfl, true, rfl, iteT ?_⟩
    refine ⟨_, rfl, _, 0, rfl, rfl, ?_⟩
    have e : decide (((i : Nat) : Int) ≥ 0) = true := decide_eq_true (by omega)
    show Q (.bl (decide (((i : Nat) : Int) ≥ 0))) H
    rw [e]
    exact q
end
end K01
set_option linter.all false
/-! Nx2: rows of counts of the rests -/
namespace Nx
open Mx
def er (w t : List Nat) : List Int := (List.range (t.length + 1)).map fun j => ((cnt w (t.drop j) : Nat) : Int)
def eb (w t : List Nat) (k : Nat) : List Int := (List.range (k + 1)).map fun j => ((cnt w (t.drop (t.length - j)) : Nat) : Int)
theorem er_len (w t : List Nat) : (er w t).length = t.length + 1 := by simp [er]
theorem er_at {w t : List Nat} {j : Nat} (h : j ≤ t.length) : (er w t)[j]? = some ((cnt w (t.drop j) : Nat) : Int) := by
  unfold er
  rw [List.getElem?_map, List.getElem?_range (by omega)]
  rfl
theorem er_nil (t : List Nat) : er [] t = List.replicate (t.length + 1) 1 := by
  unfold er
  have e : (fun j => ((cnt [] (t.drop j) : Nat) : Int)) = fun _ => (1 : Int) := by
    funext j
    rw [cnt_nil]
    rfl
  rw [e]
  exact List.ext_getElem (by simp) fun i h1 h2 => by simp
theorem eb_len (w t : List Nat) (k : Nat) : (eb w t k).length = k + 1 := by simp [eb]
theorem eb_zero (a : Nat) (w t : List Nat) : eb (a :: w) t 0 = [0] := by
  show [((cnt (a :: w) (t.drop (t.length - 0)) : Nat) : Int)] = [0]
  rw [Nat.sub_zero, List.drop_of_length_le (Nat.le_refl _), cnt_e]
  rfl
theorem eb_last (w t : List Nat) (k : Nat) : (eb w t k)[k]? = some ((cnt w (t.drop (t.length - k)) : Nat) : Int) := by
  unfold eb
  rw [List.getElem?_map, List.getElem?_range (by omega)]
  rfl
theorem eb_succ (w t : List Nat) (k : Nat) : eb w t (k + 1) = eb w t k ++ [((cnt w (t.drop (t.length - (k + 1))) : Nat) : Int)] := by
  unfold eb
  rw [List.range_succ, List.map_append]
  rfl
theorem eb_at {w t : List Nat} {k j : Nat} (h : j ≤ k) : (eb w t k)[j]? = some ((cnt w (t.drop (t.length - j)) : Nat) : Int) := by
  unfold eb
  rw [List.getElem?_map, List.getElem?_range (by omega)]
  rfl
theorem eb_rev (w t : List Nat) : (eb w t t.length).reverse = er w t := by
  refine List.ext_getElem? fun i => ?_
  by_cases h : i ≤ t.length
  · rw [List.getElem?_reverse (by rw [eb_len]; omega), er_at h, eb_len, eb_at (by omega)]
    have e : t.length - (t.length + 1 - 1 - i) = i := by omega
    rw [e]
  · rw [List.getElem?_eq_none (by rw [List.length_reverse, eb_len]; omega), List.getElem?_eq_none (by rw [er_len]; omega)]
/-- a letter more, one place back -/
theorem eb_turn {t : List Nat} {k : Nat} (a : Nat) (u : List Nat) (h : k < t.length) :
    ((cnt (a :: u) (t.drop (t.length - (k + 1))) : Nat) : Int) = ((cnt (a :: u) (t.drop (t.length - k)) : Nat) : Int) + (if t[t.length - 1 - k]? = some a then ((cnt u (t.drop (t.length - k)) : Nat) : Int) else 0) := by
  have hp : t.length - 1 - k < t.length := by omega
  have e1 : t.length - (k + 1) = t.length - 1 - k := by omega
  have e2 : t.length - 1 - k + 1 = t.length - k := by omega
  rw [e1, back a u hp, e2, List.getElem?_eq_getElem hp]
  by_cases z : a = t[t.length - 1 - k]
  · rw [if_pos z, if_pos (by rw [z])]
    omega
  · rw [if_neg z, if_neg (fun y => z (Option.some.inj y).symm)]
    omega
end Nx
namespace Nx
open Mx
theorem cnt_pow : ∀ (t w : List Nat), cnt w t ≤ t.length ^ w.length
  | t, [] => by rw [cnt_nil]; simp
  | [], a :: w => by rw [cnt_e]; exact Nat.zero_le _
  | b :: t, a :: w => by
    have i1 := cnt_pow t (a :: w)
    have i2 := cnt_pow t w
    have h : cnt (a :: w) (b :: t) ≤ cnt (a :: w) t + cnt w t := by
      rw [cnt_c]
      split <;> omega
    refine Nat.le_trans h ?_
    rw [List.length_cons, List.length_cons] at *
    have h2 : t.length ^ w.length ≤ (t.length + 1) ^ w.length := Nat.pow_le_pow_left (by omega) _
    have h3 : t.length ^ (w.length + 1) ≤ (t.length + 1) ^ w.length * t.length := by
      rw [Nat.pow_succ]
      exact Nat.mul_le_mul_right _ h2
    rw [Nat.pow_succ (t.length + 1), Nat.mul_add, Nat.mul_one]
    omega
theorem cnt_small {w t : List Nat} (hw : w.length ≤ 12) (ht : t.length ≤ 300) : cnt w t < 2 ^ 200 := by
  have h1 : t.length ^ w.length ≤ 300 ^ w.length := Nat.pow_le_pow_left ht _
  have h2 : (300 : Nat) ^ w.length ≤ 300 ^ 12 := Nat.pow_le_pow_right (by decide) hw
  have h3 : (300 : Nat) ^ 12 < 2 ^ 200 := by decide +kernel
  exact Nat.lt_of_le_of_lt (Nat.le_trans (cnt_pow t w) (Nat.le_trans h1 h2)) h3
end Nx
set_option Elab.async false
set_option linter.all false
set_option maxRecDepth 100000
set_option maxHeartbeats 4000000
/-! Rx2: calls by keywords alone; reversed(text); enumerate and zip over texts and tuples -/
namespace Rx
open PySem PySem.Spec PyProof.Rows L2

/-! ### f(k = v, ..) -/
section
variable {X : Cx} {CX : CXT} {k : Nat} {f : Addr} {fd : FuncData} {ps ks : List PySem.Str} {g : List Value → List Value → List Value} {gV : List V → List V → List V} {sp : Sp} {E : XK} {x : PySem.Str} {np pos : Pos} {kws : List Keyword} {tk : TA}
def tCallK0 (sp : Sp) (gV : List V → List V → List V) (E : XK) (tk : TA) : TE := fun σ H Q => tk σ H fun zs H2 => sp (gV [] zs) H2 Q E
theorem pe_callK0 (F : FnOk X.prog X.w X.K X.mg X.base CX k f fd ps sp) (hr : Room k X.A) (hg : Gl X x) (hm : X.mg x = some (.ref f)) (hk : PySem.W.keepIn X.K (.ref f) = true) (hb : KBinds X.K fd ps ks g gV) (hx : Passes CX X E)
    (hkw : PK X kws tk) (hall : (backToKw pos (keywordEach kws X.env)).all (·.1.isSome) = true := by rfl) (hks : (backToKw pos (keywordEach kws X.env)).filterMap (·.1) = ks := by rfl)
    (hdb : (x == ("__debug__" : PySem.Str)) = false := by decide)
    (hpl : ((backTo pos (starEach [] X.env)).any (·.1) || (backToKw pos (keywordEach kws X.env)).any (·.1.isNone)) = false := by rfl) :
    PE X (.Call (.Name x np) [] kws pos) (tCallK0 sp gV E tk) := by
  refine ⟨fun pins s σ H Q I h => ?_⟩
  refine wpAny_Call_Name_kw (ld_glob I hg hm ?_ hdb)
  refine PySem.W.callWith_KW0 (h₀ := X.base) I.ok.mod.kin hk hall (thn (hkw.run pos pins s σ H _ I h) fun ws s2 ⟨zs, H2, I2, rz, q2⟩ => ⟨I2.kIn, ?_⟩) hpl
  rw [hks]
  exact run_fnk (us := []) (vs := []) F hr hb hx I2 .nil rz q2
end

/-! ### reversed(text) -/
theorem norev_str : typeLookup (.type "str") "__reversed__" = pure none := by rw [typeLookup_type, builtinLookup_eq_fast]; kernel_rfl
theorem get_str : typeLookup (.type "str") "__getitem__" = pure (some (.builtin "str.__getitem__")) := by rw [typeLookup_type, builtinLookup_eq_fast]; kernel_rfl
def rsObj (x : PySem.Str) (t : Tok) (i : Int) : Obj := { cls := .type "reversed", data := .fields #[.str x t, rawInt i] }
/-- reversed(x), the next place i -/
def IsRs (h : Heap) (a : Addr) (x : PySem.Str) (t : Tok) (i : Int) : Prop := ∃ o, h.get? a = some o ∧ o.cls = .type "reversed" ∧ o.data = .fields #[.str x t, rawInt i]
theorem IsRs.at {h h' : Heap} {a : Addr} {x : PySem.Str} {t : Tok} {i : Int} (z : IsRs h a x t i) (e : ∀ o, h.get? a = some o → h'.get? a = some o) : IsRs h' a x t i := let ⟨o, ho, r⟩ := z; ⟨o, e _ ho, r⟩
section
variable {prog : Program} {w : World} {A : Around} {E : Value → Shared → Prop} {s : Shared}
theorem IsRs.typeIs {a : Addr} {x : PySem.Str} {t : Tok} {i : Int} (z : IsRs s.heap a x t i) : s.TypeIs (.ref a) "reversed" := let ⟨o, ho, hc, _⟩ := z; ⟨o, ho, hc⟩
theorem code_reversed_str {x : PySem.Str} {t : Tok} {Q₁ : Value → Shared → Prop} (hfit : ¬ (x.length : Int) ≥ 2 ^ 63)
    (h : Q₁ (.ref s.heap.objs.size) { s with heap := s.heap.push (rsObj x t ((x.length : Int) - 1)), toks := s.toks + 1 + 1 }) :
    codeAny (model prog w) A (.call (.builtin "reversed.__new__") ⟨[.type "reversed", .str x t], []⟩) (wants Q₁ E) s := by
  have hT : s.TypeIs (.str x t) "str" := rfl
  refine codeAny_of_tree ?_
  show wpAny _ A.in1 (do checkBuiltinCall "reversed.__new__" ⟨[.type "reversed", .str x t], []⟩; again (.builtin "reversed.__new__" ⟨[.type "reversed", .str x t], []⟩)) _ _ s
  refine wpAny_bind (wpAny_of_eq (F.newCall_reversed_1 _) (wpAny_pure ⟨plainId_quiet F.plain_reversed_new _, codeAny_builtin F.entry_reversed_new ?_⟩))
  rw [Around.under_plainId F.plain_reversed_new _]
  unfold Builtin.«reversed.__new__»
  refine wpAny_bind (wpAny_of_eq (newClass_reversed _) ?_)
  try dsimp only
  refine wpAny_bind (wpAny_of_eq (a := ()) (by first | rfl | kernel_rfl) ?_)
  try dsimp only
  refine wpAny_bind (wpAny_of_eq (a := ()) (by first | rfl | kernel_rfl) ?_)
  try dsimp only
  refine wpAny_bind (wpAny_specialOf hT norev_str ?_)
  try dsimp only
  refine wpAny_bind ?_
  wp_delta
  refine wpAny_bind (wpAny_isInstance (T := "str") (U := "dict") (b := false) hT PySem.F.sub_str_dict ?_)
  try dsimp only
  try rw [if_neg Bool.false_ne_true]
  try dsimp only
  refine wpAny_bind (wpAny_specialOf hT get_str ?_)
  try dsimp only
  try rw [if_pos (by decide +kernel)]
  refine wpAny_pure ?_
  try dsimp only
  try rw [if_neg (by decide)]
  try dsimp only
  refine wpAny_bind (len_str hfit ?_)
  refine wpAny_bind (wpAny_of_eq (a := some ((x.length : Nat) : Int)) rfl ?_)
  try dsimp only
  refine wpAny_bind ?_
  show wpAny _ _ (newObj (.type "reversed") (.fields #[.str x t, rawInt ((x.length : Int) - 1)])) _ _ _
  refine wpAny_newObj_type ?_
  exact wpAny_pure h
theorem call_reversed_str {x : PySem.Str} {t : Tok} {Q : Value → Shared → Prop} (hfit : ¬ (x.length : Int) ≥ 2 ^ 63)
    (h : Q (.ref s.heap.objs.size) { s with heap := s.heap.push (rsObj x t ((x.length : Int) - 1)), toks := s.toks + 1 + 1 }) : wpAny (model prog w) A (call (.type "reversed") [.str x t]) Q E s := by
  refine callType_codes (Q₁ := fun obj s₁ => s₁.TypeIs obj "reversed" ∧ Q obj s₁) RT.called_rt (F.typeCall_reversed_1 _) F.entry_object_init
    (code_reversed_str (A := A.in1) hfit ⟨⟨_, Heap.get?_push_size _ rfl, rfl⟩, h⟩) fun obj s₁ h₁ => ?_
  exact ⟨h₁.1, F.args_object_init_2 obj _, object_init_meets RT.called_rt.init.lookup RT.called_rt.made (by decide) prog w A.in1 _ s₁ ⟨h₁.1, rfl, h₁.2⟩⟩
theorem next_rs_item {it : Addr} {x : PySem.Str} {t : Tok} {i c : Nat} {Q : Option Value → Shared → Prop} (hit : IsRs s.heap it x t (i : Int)) (hx : x.cps[i]? = some c) (hsz : x.cps.size ≤ sizeLine)
    (hQ : ∀ h', IsRs h' it x t ((i : Int) - 1) → Heap.SameBut it s.heap h' → Q (some (.str ⟨#[c]⟩ (s.toks + 1))) { s with heap := h', toks := s.toks + 1 + 1 }) : wpAny (model prog w) A (pyNext (.ref it)) Q E s := by
  obtain ⟨o, ho, hc, hd⟩ := id hit
  have hi : i < x.cps.size := (Array.getElem?_eq_some_iff.mp hx).1
  have hT : s.TypeIs (.str x t) "str" := rfl
  rw [sizeLine_eq] at hsz
  unfold pyNext
  refine wpAny_bind (wpAny_attempt (wpAny_callSpecial?_slot (name := Str.ofString "__next__") hit.typeIs RT.slot_rt_next
    (wpAny_call_entry RT.slot_rt_next hit.typeIs RT.entry_rt_next ?_ (RT.args_rt_next _))))
  unfold Builtin.«reversed.__next__»
  refine wpAny_bind (wpAny_of_eq (a := (Value.ref it, [])) rfl ?_)
  try dsimp only
  refine wpAny_bind (wpAny_field ho hd (x := .str x t) rfl ?_)
  try dsimp only
  refine wpAny_bind (wpAny_field ho hd (x := rawInt (i : Int)) rfl ?_)
  show wpAny _ _ (if (i : Int) < 0 then _ else _) _ _ s
  rw [if_neg (by omega)]
  try dsimp only
  refine wpAny_bind (wpAny_specialOf hT get_str ?_)
  try dsimp only
  try rw [if_neg (by decide)]
  try dsimp only
  refine wpAny_bind (wpAny_mkInt ?_)
  refine wpAny_bind (wpAny_attempt ?_)
  have fin : seqIndex? (i : Int) x.length = some i := seqIndex_of (by omega) (by show ((i : Nat) : Int) < (x.cps.size : Nat); omega)
  refine PyProof.Rows.getItem_str (s := { s with toks := s.toks + 1 }) (c := c) (by
    have e1 : decide ((i : Int) < -(2 ^ 63 : Int)) = false := decide_eq_false (by omega)
    have e2 : decide ((i : Int) ≥ 2 ^ 63) = false := decide_eq_false (by omega)
    rw [e1, e2, Bool.or_false]) (by rw [fin]; exact hx) ?_
  try dsimp only
  refine wpAny_bind (wpAny_field (s := { s with toks := s.toks + 1 + 1 }) ho hd (x := rawInt (i : Int)) rfl ?_)
  try dsimp only
  refine wpAny_bind (wpAny_setField (s := { s with toks := s.toks + 1 + 1 }) ho hd (by simp) ?_)
  first
  | refine wpAny_pure ⟨_, rfl, wpAny_pure (hQ _ ?_ (Heap.SameBut.update ..))⟩
  | refine wpAny_bind (wpAny_pure (wpAny_pure ⟨_, rfl, wpAny_pure (hQ _ ?_ (Heap.SameBut.update ..))⟩))
  exact ⟨_, Heap.get?_update_self _ ho (Obj.isFreed_of_fields (Obj.data_mapFields hd _)), (Obj.cls_mapFields ..).trans hc, by
    rw [Obj.data_mapFields hd]; simp⟩
theorem next_rs_end {it : Addr} {x : PySem.Str} {t : Tok} {Q : Option Value → Shared → Prop} (hh : A.handled = none) (hit : IsRs s.heap it x t (-1))
    (hQ : ∀ h', Heap.ExtBut it s.heap h' → Q none { s with heap := h' }) : wpAny (model prog w) A (pyNext (.ref it)) Q E s := by
  obtain ⟨o, ho, hc, hd⟩ := id hit
  unfold pyNext
  refine wpAny_bind (wpAny_attempt (wpAny_callSpecial?_slot (name := Str.ofString "__next__") hit.typeIs RT.slot_rt_next
    (wpAny_call_entry RT.slot_rt_next hit.typeIs RT.entry_rt_next ?_ (RT.args_rt_next _))))
  unfold Builtin.«reversed.__next__»
  refine wpAny_bind (wpAny_of_eq (a := (Value.ref it, [])) rfl ?_)
  try dsimp only
  refine wpAny_bind (wpAny_field ho hd (x := .str x t) rfl ?_)
  try dsimp only
  refine wpAny_bind (wpAny_field ho hd (x := rawInt (-1)) rfl ?_)
  show wpAny _ _ (if (-1 : Int) < 0 then _ else _) _ _ s
  rw [if_pos (by decide)]
  try dsimp only
  refine wpAny_bind (wpAny_rule ?_)
  refine wpAny_bind ?_
  wp_delta
  refine wpAny_bind (wpAny_setField ho hd (by simp) ?_)
  have ho2 := Heap.get?_update_self (Obj.mapFields (·.setIfInBounds 1 (rawInt (-1)))) ho (Obj.isFreed_of_fields (Obj.data_mapFields hd _))
  refine wpAny_setField (s := { s with heap := s.heap.update it (Obj.mapFields (·.setIfInBounds 1 (rawInt (-1)))) }) ho2 (Obj.data_mapFields hd _) (by simp) ?_
  try dsimp only
  first
  | show wpAny _ _ (newExc (.type "StopIteration") [] >>= _) _ _ _
  | (refine wpAny_bind ?_; show wpAny _ _ (newExc (.type "StopIteration") [] >>= _) _ _ _)
  | (refine wpAny_bind ?_; wp_delta; show wpAny _ _ (newExc (.type "StopIteration") [] >>= _) _ _ _)
  refine wpAny_bind ?_
  simp only [newExc, newTuple]
  refine wpAny_bind (wpAny_newObj_type ?_ (by size_fits))
  refine wpAny_bind (m := firstArgMember _ _) (wpAny_of_eq (a := Value.none) (by first | rfl | (simp only [firstArgMember]; rfl)) ?_)
  refine wpAny_newObj_type ?_ (by size_fits)
  simp only [raiseNew]
  refine wpAny_bind (wpAny_handled ?_)
  first | rw [show A.in1.handled = none from hh] | rw [hh]
  refine wpAny_bind (wpAny_pure (wpAny_throw ?_))
  refine wpAny_bind (wpAny_isInstance (T := "StopIteration") (b := true) ⟨_, Heap.get?_push_size _ rfl, rfl⟩ isSubtype_stop ?_)
  refine wpAny_pure (hQ _ ?_)
  refine ((?_ : Heap.ExtBut it s.heap _).push _).push _
  exact fun b ob hb e => (Heap.get?_update_other _ _ (Ne.symm hb)).trans ((Heap.get?_update_other _ _ (Ne.symm hb)).trans e)
theorem iter_rs {it : Addr} {x : PySem.Str} {t : Tok} {i : Int} {Q : Value → Shared → Prop} (hit : IsRs s.heap it x t i) (h : Q (.ref it) s) : wpAny (model prog w) A (pyIter (.ref it)) Q E s := by
  refine wpAny_pyIter_slot hit.typeIs RT.slot_rt_iter (wpAny_call_entry RT.slot_rt_iter hit.typeIs RT.entry_rt_iter ?_ (RT.args_rt_iter _))
  show wpAny _ _ (ret (.ref it)) _ _ s
  exact wpAny_pure ⟨_, rfl, "reversed", _, hit.typeIs, RT.slot_rt_next.lookup, h⟩
end
/-- a text's letters from its end -/
def ItRs (x : PySem.Str) : It := ⟨fun i _ => i < x.cps.size, fun i H v H' => H' = H ∧ ∃ c, x.cps[x.cps.size - 1 - i]? = some c ∧ v = .str ⟨#[c]⟩, fun i _ => x.cps.size ≤ i⟩
theorem turn_rs {P : Program} {w : World} {K : PySem.W.Frag} {tg : Expr} (it : Addr) (x : PySem.Str) (t : Tok) (hz : x.cps.size ≤ sizeLine) : Turn P w K tg (ItRs x) [it] it (fun i h => i ≤ x.cps.size ∧ IsRs h it x t ((x.cps.size : Int) - 1 - (i : Nat))) where
  mem := by simp
  obj := fun i h st b hb => by
    have e : b = it := by simpa using hb
    subst e
    obtain ⟨_, o, e, c, d⟩ := st
    exact ⟨o, e, fun v z => by rw [d] at z; cases z⟩
  keep := fun i h h' st k => ⟨st.1, st.2.at fun o e => k it (by simp) o e⟩
  item := by
    intro X hP hw hK hc i pins s σ H E I hf st hg
    subst hP hw hK
    have hin : i < x.cps.size := hg
    obtain ⟨f0, f1, f2, f3, f4, f5⟩ := hf it (by simp)
    obtain ⟨_, hit⟩ := st
    have e1 : (x.cps.size : Int) - 1 - ((i : Nat) : Int) = ((x.cps.size - 1 - i : Nat) : Int) := by omega
    rw [e1] at hit
    have hlt : x.cps.size - 1 - i < x.cps.size := by omega
    have hx : x.cps[x.cps.size - 1 - i]? = some (x.cps[x.cps.size - 1 - i]) := Array.getElem?_eq_getElem hlt
    refine next_rs_item hit hx hz fun h' st' sb => ?_
    have e2 : ((x.cps.size - 1 - i : Nat) : Int) - 1 = (x.cps.size : Int) - 1 - ((i + 1 : Nat) : Int) := by omega
    rw [e2] at st'
    have I1 : Inv X pins σ H { s with heap := h', toks := s.toks + 1 + 1 } := I.turned (t' := s.toks + 1 + 1) (fun b o hb e => (sb.2 b hb).trans e) f0 f1 f3 f4 f5
    obtain ⟨o, e, c, d⟩ := id st'
    exact ⟨_, rfl, go_of (s := { s with heap := h', toks := s.toks + 1 + 1 }) e c d (by decide) ⟨.str ⟨#[x.cps[x.cps.size - 1 - i]]⟩, H, I1, ⟨_, rfl⟩, ⟨rfl, _, hx, rfl⟩, ⟨hin, st'⟩, fun b hb => (hf b hb).1⟩⟩
  done := by
    intro X hP hw hK hc i pins s σ H E I hf st hg
    subst hP hw hK
    obtain ⟨f0, f1, f2, f3, f4, f5⟩ := hf it (by simp)
    obtain ⟨hin, hit⟩ := st
    have hge : x.cps.size ≤ i := hg
    have e1 : (x.cps.size : Int) - 1 - ((i : Nat) : Int) = -1 := by omega
    rw [e1] at hit
    exact next_rs_end (I.ok.hd hc) hit fun h' eb => ⟨rfl, I.turned (t' := s.toks) (fun b o hb e => eb b o hb e) f0 f1 f3 f4 f5⟩
  self := fun A i s Q E st h => iter_rs st.2 h
def iRevS (ta : TA) : TI := fun σ H R => ta σ H fun vs H1 => ∃ x : PySem.Str, vs = [.str x] ∧ x.cps.size ≤ sizeLine ∧ R (ItRs x) H1
theorem pi_revS {X : Cx} {tg e : Expr} {ta : TA} {p pos : Pos} (hg : Gl X "reversed") (hm : X.mg "reversed" = none) (ha : PA X [e] ta) (hs : starEach [e] X.env = [(false, eval e X.env)] := by rfl) : PI X tg (.Call (.Name "reversed" p) [e] [] pos) (iRevS ta) := by
  refine ⟨fun pins s σ H R I h => ?_⟩
  refine Call_ (ld_blt I hg hm PyProof.Rows.boot_reversed (PyProof.Rows.callWith_type1 (thn (ha.run pos pins s σ H _ I h) fun us s1 ⟨vs, H1, I1, r1, q1⟩ => ?_) hs rfl))
  obtain ⟨x, e, hz, q⟩ := q1
  subst e
  cases r1 with
  | cons r rr =>
    cases rr
    obtain ⟨t, rfl⟩ := r
    have hl : x.length = x.cps.size := rfl
    have hz' := hz
    rw [sizeLine_eq] at hz'
    have e1 : ((x.length : Nat) : Int) - 1 = (x.cps.size : Int) - 1 - ((0 : Nat) : Int) := by rw [hl]; omega
    have st0 : IsRs (s1.heap.push (rsObj x t ((x.length : Int) - 1))) s1.heap.objs.size x t ((x.length : Int) - 1) := ⟨_, Heap.get?_push_size _ rfl, rfl, rfl⟩
    refine call_reversed_str (by rw [hl]; omega) (iter_rs st0 ?_)
    refine pi_one (tk := s1.toks + 1 + 1) I1 _ (turn_rs _ x t hz) ⟨Nat.zero_le _, ?_⟩ q
    rw [← e1]
    exact st0
/-- the turns -/
theorem for_revS {x : PySem.Str} {g : TG} {tb : TS} {D : Ends} {σ : L2.St} {H : Hp} (Pv : Nat → L2.St → Hp → Prop) (h0 : Pv 0 σ H)
    (hs : ∀ i c σ H, i < x.cps.size → x.cps[x.cps.size - 1 - i]? = some c → Pv i σ H → g (.str ⟨#[c]⟩) σ H fun σ2 H2 => tb { D with nx := Pv (i + 1), ct := Pv (i + 1), bk := D.nx } σ2 H2) (hd : ∀ σ H, Pv x.cps.size σ H → D.nx σ H) :
    ∃ W : Nat → Nat → L2.St → Hp → Prop, (∃ m, W 0 m σ H) ∧ ∀ i m σ H, W i m σ H →
      ((ItRs x).stop i H ∧ D.nx σ H) ∨ ((ItRs x).go i H ∧ ∃ N : L2.St → Hp → Prop, (∀ σ' H', N σ' H' → ∃ m', m' < m ∧ W (i + 1) m' σ' H') ∧ ∀ v H', (ItRs x).yld i H v H' → g v σ H' fun σ2 H2 => tb { D with nx := N, ct := N, bk := D.nx } σ2 H2) := by
  refine ⟨fun i m σ H => m = x.cps.size - i ∧ i ≤ x.cps.size ∧ Pv i σ H, ⟨x.cps.size, rfl, Nat.zero_le _, h0⟩, ?_⟩
  rintro i m σ H ⟨rfl, hi, p⟩
  by_cases hlt : i < x.cps.size
  · refine .inr ⟨hlt, Pv (i + 1), fun σ' H' p' => ⟨x.cps.size - (i + 1), by omega, rfl, hlt, p'⟩, fun v H' y => ?_⟩
    obtain ⟨rfl, c, hc, rfl⟩ := y
    exact hs i c σ _ hlt hc p
  · have e : i = x.cps.size := by omega
    subst e
    exact .inl ⟨Nat.le_refl _, hd σ H p⟩
end Rx
set_option Elab.async false
set_option linter.all false
set_option maxRecDepth 100000
set_option maxHeartbeats 4000000
/-! Rx3: enumerate and zip over texts and tuples -/
namespace Rx
open PySem PySem.Spec PyProof.Rows L2

/-! ### enumerate of whatever begins -/
set_option maxHeartbeats 1000000 in
theorem meets_enumerate_new1 {v : Value} {o : Obj} {H : Heap → Prop} (B : Begins v o H) :
    Meets (Builtin.«enumerate.__new__» ⟨[.type "enumerate", v], []⟩) (fun _ R s => H s.heap ∧
      R (.ok (.ret (.ref (s.heap.push o).objs.size))) { s with heap := (s.heap.push o).push { cls := .type "enumerate", data := .fields #[.none, .bool false, .ref s.heap.objs.size, rawInt 0, .none, .none] } }) :=
  .of_wp fun prog w A R s h => by
    obtain ⟨hp, g, d, tk, os⟩ := s; obtain ⟨h1, h⟩ := h
    have hsub := sub_enumerate
    have q1 : ∀ {A' : Around} {E : Value → Shared → Prop} {Q : Value → Shared → Prop}, Q (.ref hp.objs.size) ⟨hp.push o, g, d, tk, os⟩ → wpAny (model prog w) A' (pyIter v) Q E ⟨hp, g, d, tk, os⟩ :=
      fun q => B.iter prog w _ _ ⟨hp, g, d, tk, os⟩ _ h1 q
    wp_walk using q1
    refine wpAny_stack_any fun st => wpAny_pure ?_
    split
    · rename_i c _ _ _ _ _
      cases (c == Value.type "enumerate")
      · wp_walk using q1
        exact ⟨_, rfl, h⟩
      · wp_walk using q1
        exact ⟨_, rfl, h⟩
    · wp_walk using q1
      exact ⟨_, rfl, h⟩
section
variable {prog : Program} {w : World} {A : Around} {E : Value → Shared → Prop} {s : Shared}
theorem enum_begins1 {v : Value} {o : Obj} {H : Heap → Prop} {Q : Value → Shared → Prop} (B : Begins v o H) (h1 : H s.heap)
    (h : ∀ h', IsEnum h' (s.heap.objs.size + 1) s.heap.objs.size 0 .none → h'.get? s.heap.objs.size = some o → h'.objs.size = s.heap.objs.size + 2 →
      (∀ b o, s.heap.get? b = some o → h'.get? b = some o) → Q (.ref (s.heap.objs.size + 1)) { s with heap := h' }) :
    wpAny (model prog w) A (call (.type "enumerate") [v]) Q E s := by
  refine callType_new F.called_enumerate (by decide) (F.typeCall_enumerate_1 _) (F.newCall_enumerate_1 _) (fun obj => F.args_object_init_2 obj _) F.entry_enumerate_new
    (meets_enumerate_new1 B) ⟨h1, ?_⟩
  have hz : (s.heap.push o).objs.size = s.heap.objs.size + 1 := Heap.size_push ..
  show _ ∧ _
  rw [hz]
  have he : IsEnum ((s.heap.push o).push { cls := .type "enumerate", data := .fields #[.none, .bool false, .ref s.heap.objs.size, rawInt 0, .none, .none] }) (s.heap.objs.size + 1) s.heap.objs.size 0 .none := by
    have := Heap.get?_push_size (s.heap.push o) (o := { cls := .type "enumerate", data := .fields #[.none, .bool false, .ref s.heap.objs.size, rawInt 0, .none, .none] }) rfl
    rw [hz] at this; exact this
  refine ⟨⟨_, he, rfl⟩, h _ he (Heap.get?_push_of_some _ (Heap.get?_push_size _ B.free)) (by rw [Heap.size_push, hz]) fun b o x => Heap.get?_push_of_some _ (Heap.get?_push_of_some _ x)⟩
end

/-! ### sources: what is walked by an iterator it, the cells rest beside it -/
/-- has H xs: what the source holds in H; tn: the iterator's state -/
structure Fed (P : Program) (w : World) (K : PySem.W.Frag) (it : Addr) (rest : List Addr) (has : Hp → List V → Prop) (tn : Nat → Heap → Prop) : Prop where
  obj : ∀ i h, tn i h → ∃ o, h.get? it = some o ∧ ∀ v, o.data ≠ .cell v
  keep : ∀ i h h', tn i h → (∀ o, h.get? it = some o → h'.get? it = some o) → tn i h'
  one : ∀ (X : Cx), X.prog = P → X.w = w → X.K = K → ∀ (pins : List (Addr × Obj)) (s : Shared) (σ : L2.St) (H : Hp) (xs ys : List V), Inv X pins σ H s → has H xs → has H ys → xs = ys
  draw : ∀ (X : Cx), X.prog = P → X.w = w → X.K = K → X.calm = true → ∀ (pins : List (Addr × Obj)) (s : Shared) (σ : L2.St) (H : Hp) (xs : List V), Inv X pins σ H s → has H xs →
    ∃ (Pt : Nat → Value → Prop) (St : Nat → Heap → Prop), Draws P w X.A.in1 it (it :: rest) xs.length Pt St ∧ (∀ i, tn i s.heap → St i s.heap) ∧ (∀ i h, St i h → tn i h) ∧ ∀ i v, Pt i v → ∃ x, xs[i]? = some x ∧ RelV x v
theorem fed_text {P : Program} {w : World} {K : PySem.W.Frag} (it : Addr) (x : PySem.Str) (t : Tok) : Fed P w K it [] (fun _ xs => xs = (Sx.sgs x).map V.str) (fun i h => h.IsStrIter it (strIterType x) x t i) where
  obj := fun i h st => by
    obtain ⟨o, e, c, d⟩ := st
    exact ⟨o, e, fun v z => by rw [d] at z; cases z⟩
  keep := fun i h h' st k => let ⟨o, ho, r⟩ := st; ⟨o, k o ho, r⟩
  one := fun X _ _ _ pins s σ H xs ys _ h1 h2 => by rw [h1, h2]
  draw := by
    intro X hP hw hK hc pins s σ H xs I hh
    subst hP hw hK
    have D := Draws.text (prog := X.prog) (w := X.w) (A := X.A.in1) (I.ok.hd hc) it x t
    have hl : x.cps.size = xs.length := by rw [hh, List.length_map, Sx.sgs, List.length_map, Array.length_toList]
    rw [hl] at D
    refine ⟨_, _, D, fun i z => z, fun i h z => z, fun i v hp => ?_⟩
    obtain ⟨c, u, hc, rfl⟩ := hp
    exact ⟨.str ⟨#[c]⟩, by rw [hh, List.getElem?_map, Sx.sgs, List.getElem?_map, Array.getElem?_toList, hc] <;> rfl, u, rfl⟩
theorem fed_tup {P : Program} {w : World} {K : PySem.W.Frag} (it a : Addr) (hne : a ≠ it) : Fed P w K it [a] (fun H xs => SqT K H a xs) (fun i h => h.IsTupleIter it a i) where
  obj := fun i h st => by
    obtain ⟨o, e, c, d⟩ := st
    exact ⟨o, e, fun v z => by rw [d] at z; cases z⟩
  keep := fun i h h' st k => st.at fun o e => k o e
  one := by
    intro X hP hw hK pins s σ H xs ys I h1 h2
    subst hP hw hK
    exact I.tuple_inj h1 h2
  draw := by
    intro X hP hw hK hc pins s σ H xs I hh
    subst hP hw hK
    obtain ⟨its, rv, p, hz⟩ := I.tuple hh
    have D := Draws.tuple (prog := X.prog) (w := X.w) (A := X.A.in1) (I.ok.hd hc) it a hne its.toArray
    have hl : its.toArray.size = xs.length := by rw [List.size_toArray, rv.length]
    rw [hl] at D
    refine ⟨_, _, D, fun i z => ⟨z, p⟩, fun i h z => z.1, fun i v hp => ?_⟩
    have hp' : its[i]? = some v := by simpa using hp
    have hi : i < xs.length := by rw [rv.length]; exact (List.getElem?_eq_some_iff.mp hp').1
    have hx : xs[i]? = some xs[i] := List.getElem?_eq_getElem hi
    obtain ⟨u, hu, ru⟩ := rv.get hx
    rw [hp'] at hu
    cases hu
    exact ⟨_, hx, ru⟩

/-! ### enumerate -/
def Itf (has : Hp → List V → Prop) : It :=
  ⟨fun i H => ∃ (xs : List V) (x : V), has H xs ∧ xs[i]? = some x, fun i H v H' => ∃ T x, v = .ref T ∧ H T = none ∧ H' = upd H T (.tup [.int (i : Nat), x]) ∧ ∀ xs, has H xs → xs[i]? = some x, fun i H => ∃ xs : List V, has H xs ∧ xs.length = i⟩
theorem turn_enumF {P : Program} {w : World} {K : PySem.W.Frag} {elts : List Expr} {kk : Nat} {tpos : Pos} {has : Hp → List V → Prop} {tn : Nat → Heap → Prop} {rest : List Addr} (e it : Addr) (Fd : Fed P w K it rest has tn) (hne : e ≠ it) (hr : e ∉ rest) :
    Turn P w K (.Tuple elts kk tpos) (Itf has) [e, it] e (fun i h => (∃ old, IsEnum h e it ((i : Nat) : Int) old) ∧ tn i h) where
  mem := by simp
  obj := fun i h st b hb => by
    obtain ⟨⟨old, he⟩, ht⟩ := st
    have e' : b = e ∨ b = it := by simpa using hb
    rcases e' with z | z
    · rw [z]; exact ⟨_, he, fun v q => nomatch q⟩
    · rw [z]; exact Fd.obj i h ht
  keep := fun i h h' st k => let ⟨⟨old, he⟩, ht⟩ := st; ⟨⟨old, k e (by simp) _ he⟩, Fd.keep i h h' ht fun o q => k it (by simp) o q⟩
  item := by
    intro X hP hw hK hc i pins s σ H E I hf st hg
    obtain ⟨⟨old, he⟩, ht⟩ := st
    obtain ⟨xs, x0, hq, hx0⟩ := hg
    obtain ⟨Pt, St, D, d1, d2, d3⟩ := Fd.draw X hP hw hK hc pins s σ H xs I hq
    have hi : i < xs.length := (List.getElem?_eq_some_iff.mp hx0).1
    have hel : e < s.heap.objs.size := Heap.lt_size he
    have hil : it < s.heap.objs.size := by obtain ⟨o, q, _⟩ := Fd.obj i _ ht; exact Heap.lt_size q
    have hef : e ∉ it :: rest := fun z => by
      rcases List.mem_cons.mp z with z | z
      · exact hne z
      · exact hr z
    refine wpAny_pyNext_enum_itemD D he (d1 i ht) hi hne hef fun u h' tk hp ho hit' hT hsz hk => ?_
    obtain ⟨x, hx, ru⟩ := d3 i u hp
    refine ⟨_, rfl, wpAny_letOwnedTupleGo_enum (s := { s with heap := h', toks := tk + 1 }) ho fun h'' he' sb => ?_⟩
    have hT2 : h''.get? s.heap.objs.size = some { cls := .type "tuple", data := .seq #[.int i tk, u] } := (sb.2 _ (Nat.ne_of_gt hel)).trans hT
    have new : ObjOk X.prog X.w (upd H s.heap.objs.size (.tup [.int (i : Nat), x])) h'' s.heap.objs.size (.tup [.int (i : Nat), x]) :=
      ⟨by show 2 ≤ sizeLine; decide, [.int i tk, u], .cons ⟨_, rfl⟩ (.cons ru .nil), ⟨_, hT2, rfl, _, rfl⟩⟩
    have I1 : Inv X pins σ (upd H s.heap.objs.size (.tup [.int (i : Nat), x])) { s with heap := h'', toks := tk + 1 } :=
      I.turnedNew (ch := [e, it]) (fun b ob hb q => (sb.2 b (fun z => hb (by simp [z]))).trans (hk b ob (fun z => hb (by simp [z])) (fun z => hb (by simp [z])) q)) hf (Nat.le_refl _) new
    refine ⟨.ref s.heap.objs.size, _, I1, rfl, ⟨_, x, rfl, I.hok.fresh (Nat.le_refl _), rfl, fun ys hy => by rw [Fd.one X hP hw hK pins s σ H ys xs I hy hq]; exact hx⟩, ⟨⟨u, ?_⟩, Fd.keep _ _ _ (d2 _ _ hit') fun o q => (sb.2 it (Ne.symm hne)).trans q⟩, fun b hb => ?_⟩
    · have e1 : ((i + 1 : Nat) : Int) = (i : Int) + 1 := by omega
      rw [e1]; exact he'
    · have hb' : b < s.heap.objs.size := by
        have e' : b = e ∨ b = it := by simpa using hb
        rcases e' with z | z
        · rw [z]; exact hel
        · rw [z]; exact hil
      rw [upd_ne (Nat.ne_of_lt hb')]
      exact (hf b hb).1
  done := by
    intro X hP hw hK hc i pins s σ H E I hf st hg
    obtain ⟨⟨old, he⟩, ht⟩ := st
    obtain ⟨xs, hq, hx⟩ := hg
    obtain ⟨Pt, St, D, d1, d2, d3⟩ := Fd.draw X hP hw hK hc pins s σ H xs I hq
    obtain ⟨f0, f1, f2, f3, f4, f5⟩ := hf it (by simp)
    exact wpAny_pyNext_enum_endD D he (hx ▸ d1 i ht) fun h' eb => ⟨rfl, I.turned (t' := s.toks) (fun b o hb q => eb b o hb q) f0 f1 f3 f4 f5⟩
  self := fun A i s Q E st h => let ⟨⟨_, he⟩, _⟩ := st; wpAny_pyIter_enum he h
/-- enumerate(x), x a text -/
def iEnumS (ta : TA) : TI := fun σ H R => ta σ H fun vs H1 => ∃ x : PySem.Str, vs = [.str x] ∧ R (Itf fun _ xs => xs = (Sx.sgs x).map V.str) H1
/-- enumerate(x), x a tuple -/
def iEnumT (K : PySem.W.Frag) (ta : TA) : TI := fun σ H R => ta σ H fun vs H1 => ∃ a xs, vs = [.ref a] ∧ SqT K H1 a xs ∧ R (Itf fun H xs => SqT K H a xs) H1
section
variable {X : Cx} {e : Expr} {ta : TA} {p pos tpos : Pos} {elts : List Expr} {kk : Nat}
theorem pi_enumS (hg : Gl X "enumerate") (hm : X.mg "enumerate" = none) (ha : PA X [e] ta) (hs : starEach [e] X.env = [(false, eval e X.env)] := by rfl) :
    PI X (.Tuple elts kk tpos) (.Call (.Name "enumerate" p) [e] [] pos) (iEnumS ta) := by
  refine ⟨fun pins s σ H R I h => ?_⟩
  refine Call_ (ld_blt I hg hm boot_enumerate (PyProof.Rows.callWith_type1 (thn (ha.run pos pins s σ H _ I h) fun us s1 ⟨vs, H1, I1, r1, q1⟩ => ?_) hs rfl))
  obtain ⟨x, ex, q⟩ := q1
  subst ex
  cases r1 with
  | cons r rr =>
    cases rr
    obtain ⟨t, rfl⟩ := r
    refine enum_begins1 (begins_text x t) trivial fun h' he hit hsz hk => wpAny_pyIter_enum he ?_
    have I2 : Inv X pins σ H1 { s1 with heap := h' } := I1.kept (t' := s1.toks) hk
    refine ⟨s1.heap.objs.size + 1, [s1.heap.objs.size + 1, s1.heap.objs.size], _, _, H1, rfl, I2, turn_enumF (s1.heap.objs.size + 1) s1.heap.objs.size (fed_text _ x t) (Nat.succ_ne_self _) (by simp), ⟨⟨.none, he⟩, ⟨_, hit, rfl, rfl⟩⟩, fun b hb => ?_, q⟩
    have e' : b = s1.heap.objs.size + 1 ∨ b = s1.heap.objs.size := by simpa using hb
    have hle : s1.heap.objs.size ≤ b := by
      rcases e' with z | z
      · rw [z]; exact Nat.le_add_right _ _
      · rw [z]; exact Nat.le_refl _
    exact I1.fpOk hle (I1.hok.fresh hle)
theorem pi_enumT (hg : Gl X "enumerate") (hm : X.mg "enumerate" = none) (ha : PA X [e] ta) (hs : starEach [e] X.env = [(false, eval e X.env)] := by rfl) :
    PI X (.Tuple elts kk tpos) (.Call (.Name "enumerate" p) [e] [] pos) (iEnumT X.K ta) := by
  refine ⟨fun pins s σ H R I h => ?_⟩
  refine Call_ (ld_blt I hg hm boot_enumerate (PyProof.Rows.callWith_type1 (thn (ha.run pos pins s σ H _ I h) fun us s1 ⟨vs, H1, I1, r1, q1⟩ => ?_) hs rfl))
  obtain ⟨a, xs, ex, hq, q⟩ := q1
  subst ex
  cases r1 with
  | cons r rr =>
    cases rr
    cases r
    obtain ⟨its, rv, p1, hz⟩ := I1.tuple hq
    have hlt : a < s1.heap.objs.size := by obtain ⟨o, ho, _⟩ := id p1; exact Heap.lt_size ho
    refine enum_begins1 (begins_tuple a its.toArray) p1 fun h' he hit hsz hk => wpAny_pyIter_enum he ?_
    have I2 : Inv X pins σ H1 { s1 with heap := h' } := I1.kept (t' := s1.toks) hk
    refine ⟨s1.heap.objs.size + 1, [s1.heap.objs.size + 1, s1.heap.objs.size], _, _, H1, rfl, I2, turn_enumF (s1.heap.objs.size + 1) s1.heap.objs.size (fed_tup _ a (Nat.ne_of_lt hlt)) (Nat.succ_ne_self _) (by
      simp only [List.mem_singleton]
      exact Nat.ne_of_gt (Nat.lt_succ_of_lt hlt)), ⟨⟨.none, he⟩, ⟨_, hit, rfl, rfl⟩⟩, fun b hb => ?_, q⟩
    have e' : b = s1.heap.objs.size + 1 ∨ b = s1.heap.objs.size := by simpa using hb
    have hle : s1.heap.objs.size ≤ b := by
      rcases e' with z | z
      · rw [z]; exact Nat.le_add_right _ _
      · rw [z]; exact Nat.le_refl _
    exact I1.fpOk hle (I1.hok.fresh hle)
end

/-! ### zip -/
def Itzf (has1 has2 : Hp → List V → Prop) : It :=
  ⟨fun i H => ∃ (xs ys : List V) (x y : V), has1 H xs ∧ has2 H ys ∧ xs[i]? = some x ∧ ys[i]? = some y,
    fun i H v H' => ∃ T x y, v = .ref T ∧ H T = none ∧ H' = upd H T (.tup [x, y]) ∧ (∀ xs, has1 H xs → xs[i]? = some x) ∧ ∀ ys, has2 H ys → ys[i]? = some y,
    fun i H => ∃ xs ys : List V, has1 H xs ∧ has2 H ys ∧ i ≤ xs.length ∧ i ≤ ys.length ∧ (i = xs.length ∨ i = ys.length)⟩
theorem turn_zipF {P : Program} {w : World} {K : PySem.W.Frag} {elts : List Expr} {kk : Nat} {tpos : Pos} {has1 has2 : Hp → List V → Prop} {tn1 tn2 : Nat → Heap → Prop} {rest1 rest2 : List Addr} {z TI TO i1 i2 : Addr} (F1 : Fed P w K i1 rest1 has1 tn1) (F2 : Fed P w K i2 rest2 has2 tn2) (S : ZipSep2 z TI TO i1 i2 (i1 :: rest1) (i2 :: rest2)) :
    Turn P w K (.Tuple elts kk tpos) (Itzf has1 has2) [z, TI, TO, i1, i2] z (fun i h => IsZip h z TI TO .none ∧ IsTupOf2 h TI (.ref i1) (.ref i2) ∧ (∃ x y, IsTupOf2 h TO x y) ∧ tn1 i h ∧ tn2 i h) where
  mem := by simp
  obj := fun i h st c hc => by
    obtain ⟨hz, hTI, ⟨x, y, hTO⟩, h1, h2⟩ := st
    have e' : c = z ∨ c = TI ∨ c = TO ∨ c = i1 ∨ c = i2 := by simpa using hc
    rcases e' with q | q | q | q | q
    · rw [q]; exact ⟨_, hz, fun v q => nomatch q⟩
    · rw [q]; exact ⟨_, hTI, fun v q => nomatch q⟩
    · rw [q]; exact ⟨_, hTO, fun v q => nomatch q⟩
    · rw [q]; exact F1.obj i h h1
    · rw [q]; exact F2.obj i h h2
  keep := fun i h h' st k => by
    obtain ⟨hz, hTI, ⟨x, y, hTO⟩, h1, h2⟩ := st
    exact ⟨k z (by simp) _ hz, k TI (by simp) _ hTI, ⟨x, y, k TO (by simp) _ hTO⟩, F1.keep i h h' h1 fun o q => k i1 (by simp) o q, F2.keep i h h' h2 fun o q => k i2 (by simp) o q⟩
  item := by
    intro X hP hw hK hc i pins s σ H E I hf st hg
    obtain ⟨hz, hTI, ⟨x0, y0, hTO⟩, h1, h2⟩ := st
    obtain ⟨xs, ys, xa, ya, hqx, hqy, hxa, hya⟩ := hg
    obtain ⟨Pt1, St1, D1, a1, a2, a3⟩ := F1.draw X hP hw hK hc pins s σ H xs I hqx
    obtain ⟨Pt2, St2, D2, b1, b2, b3⟩ := F2.draw X hP hw hK hc pins s σ H ys I hqy
    have hzl : z < s.heap.objs.size := Heap.lt_size hz
    have g1 : i1 < s.heap.objs.size := by obtain ⟨o, q, _⟩ := F1.obj i _ h1; exact Heap.lt_size q
    have g2 : i2 < s.heap.objs.size := by obtain ⟨o, q, _⟩ := F2.obj i _ h2; exact Heap.lt_size q
    refine wpAny_pyNext_zipD2_item S D1 D2 hz hTI hTO (a1 i h1) (b1 i h2) (List.getElem?_eq_some_iff.mp hxa).1 (List.getElem?_eq_some_iff.mp hya).1 fun u u2 h' tk hp1 hp2 z' TO' h1' h2' hT hsz hk => ?_
    obtain ⟨x, hx, ru⟩ := a3 i u hp1
    obtain ⟨y, hy, ru2⟩ := b3 i u2 hp2
    refine ⟨_, rfl, wpAny_letOwnedTupleGo_zip (s := { s with heap := h', toks := tk }) z' fun h'' z'' sb => ?_⟩
    have hT2 : h''.get? s.heap.objs.size = some { cls := .type "tuple", data := .seq #[u, u2] } := (sb.2 _ (Nat.ne_of_gt hzl)).trans hT
    have new : ObjOk X.prog X.w (upd H s.heap.objs.size (.tup [x, y])) h'' s.heap.objs.size (.tup [x, y]) :=
      ⟨by show 2 ≤ sizeLine; decide, [u, u2], .cons ru (.cons ru2 .nil), ⟨_, hT2, rfl, _, rfl⟩⟩
    have I1 : Inv X pins σ (upd H s.heap.objs.size (.tup [x, y])) { s with heap := h'', toks := tk } :=
      I.turnedNew (t' := tk) (ch := [z, TI, TO, i1, i2]) (fun c o hb q => (sb.2 c (fun q' => hb (by simp [q']))).trans (hk c o (fun q' => hb (by simp [q'])) (fun q' => hb (by simp [q'])) (fun q' => hb (by simp [q'])) (fun q' => hb (by simp [q'])) q)) hf (Nat.le_refl _) new
    refine ⟨.ref s.heap.objs.size, _, I1, rfl, ⟨_, x, y, rfl, I.hok.fresh (Nat.le_refl _), rfl, fun l hl => by rw [F1.one X hP hw hK pins s σ H l xs I hl hqx]; exact hx, fun l hl => by rw [F2.one X hP hw hK pins s σ H l ys I hl hqy]; exact hy⟩, ⟨z'', ?_, ⟨u, u2, ?_⟩, ?_, ?_⟩, fun c hcm => ?_⟩
    · exact (sb.2 _ S.TIz).trans (hk _ _ S.TIz S.TITO S.TIi1 S.TIi2 hTI)
    · exact (sb.2 _ S.TOz).trans TO'
    · exact F1.keep _ _ _ (a2 _ _ h1') fun o q => (sb.2 _ (Ne.symm S.zi1)).trans q
    · exact F2.keep _ _ _ (b2 _ _ h2') fun o q => (sb.2 _ (Ne.symm S.zi2)).trans q
    · have hlt : c < s.heap.objs.size := by
        have e' : c = z ∨ c = TI ∨ c = TO ∨ c = i1 ∨ c = i2 := by simpa using hcm
        rcases e' with q | q | q | q | q
        · rw [q]; exact hzl
        · rw [q]; exact Heap.lt_size hTI
        · rw [q]; exact Heap.lt_size hTO
        · rw [q]; exact g1
        · rw [q]; exact g2
      rw [upd_ne (Nat.ne_of_lt hlt)]
      exact (hf c hcm).1
  done := by
    intro X hP hw hK hc i pins s σ H E I hf st hg
    obtain ⟨hz, hTI, ⟨x0, y0, hTO⟩, h1, h2⟩ := st
    obtain ⟨xs, ys, hqx, hqy, l1, l2, hend⟩ := hg
    obtain ⟨Pt1, St1, D1, a1, a2, a3⟩ := F1.draw X hP hw hK hc pins s σ H xs I hqx
    obtain ⟨Pt2, St2, D2, b1, b2, b3⟩ := F2.draw X hP hw hK hc pins s σ H ys I hqy
    exact wpAny_pyNext_zipD2_end S D1 D2 hz hTI hTO (a1 i h1) (b1 i h2) l1 l2 hend fun h' tk hk => ⟨rfl, I.turnedL (t' := tk) (ch := [z, TI, TO, i1, i2]) (fun c o hb q =>
      hk c o (fun q' => hb (by simp [q'])) (fun q' => hb (by simp [q'])) (fun q' => hb (by simp [q'])) (fun q' => hb (by simp [q'])) q) hf⟩
  self := fun A i s Q E st h => wpAny_pyIter_zip st.1 h
/-- zip(x, t), x a text, t a tuple -/
def iZipST (K : PySem.W.Frag) (ta : TA) : TI := fun σ H R => ta σ H fun vs H1 => ∃ (x : PySem.Str) (a : Addr) (ys : List V), vs = [.str x, .ref a] ∧ SqT K H1 a ys ∧ R (Itzf (fun _ xs => xs = (Sx.sgs x).map V.str) fun H xs => SqT K H a xs) H1
theorem pi_zipST {X : Cx} {e e2 : Expr} {ta : TA} {p pos tpos : Pos} {elts : List Expr} {kk : Nat} (hg : Gl X "zip") (hm : X.mg "zip" = none) (ha : PA X [e, e2] ta)
    (hs : starEach [e, e2] X.env = (false, eval e X.env) :: starEach [e2] X.env := by rfl) (hpl : (backTo pos (starEach [e2] X.env)).any (·.1) = false := by rfl) :
    PI X (.Tuple elts kk tpos) (.Call (.Name "zip" p) [e, e2] [] pos) (iZipST X.K ta) := by
  refine ⟨fun pins s σ H R I h => ?_⟩
  refine Call_ (ld_blt I hg hm PyProof.Rows.boot_zip (PyProof.Rows.callWith_type1 (thn (ha.run pos pins s σ H _ I h) fun us s1 ⟨vs, H1, I1, r1, q1⟩ => ?_) hs hpl))
  obtain ⟨x, b, ys, ex, hqy, q⟩ := q1
  subst ex
  cases r1 with
  | cons r rr =>
    cases rr with
    | cons r' rr =>
      cases rr
      obtain ⟨t, rfl⟩ := r
      cases r'
      obtain ⟨its2, rv2, p2, _⟩ := I1.tuple hqy
      have lb : b < s1.heap.objs.size := by obtain ⟨o, ho, _⟩ := id p2; exact Heap.lt_size ho
      refine zip_begins2 (begins_text x t) (begins_tuple b its2.toArray) trivial p2 fun h' hz hTI hTO h1 h2 hsz hk => wpAny_pyIter_zip hz ?_
      have I2 : Inv X pins σ H1 { s1 with heap := h' } := I1.kept (t' := s1.toks) hk
      refine ⟨s1.heap.objs.size + 4, [s1.heap.objs.size + 4, s1.heap.objs.size + 2, s1.heap.objs.size + 3, s1.heap.objs.size, s1.heap.objs.size + 1], _, _, H1, rfl, I2,
        turn_zipF (fed_text _ x t) (fed_tup _ b (Nat.ne_of_lt (Nat.lt_succ_of_lt lb))) (zip_sep2 (fp1 := []) (fp2 := [b]) (by simp) (by intro c hc; rw [List.mem_singleton.mp hc]; exact lb)), ⟨hz, hTI, ⟨_, _, hTO⟩, ⟨_, h1, rfl, rfl⟩, ⟨_, h2, rfl, rfl⟩⟩, fun c hcm => ?_, q⟩
      have e' : c = s1.heap.objs.size + 4 ∨ c = s1.heap.objs.size + 2 ∨ c = s1.heap.objs.size + 3 ∨ c = s1.heap.objs.size ∨ c = s1.heap.objs.size + 1 := by simpa using hcm
      have hle : s1.heap.objs.size ≤ c := by
        rcases e' with z | z | z | z | z
        · rw [z]; exact Nat.le_add_right _ _
        · rw [z]; exact Nat.le_add_right _ _
        · rw [z]; exact Nat.le_add_right _ _
        · rw [z]; exact Nat.le_refl _
        · rw [z]; exact Nat.le_add_right _ _
      exact I1.fpOk hle (I1.hok.fresh hle)
end Rx
set_option Elab.async false
set_option linter.all false
set_option maxRecDepth 100000
set_option maxHeartbeats 4000000
namespace K01
open PySem PySem.Spec PyProof.Rows L2 Evl Bx
open Nx
section
variable {P : Program} {w : World} {K : PySem.W.Frag} {mg : Str → Option Value} {base : Heap}
/-- rows of numbers under a list -/
def RowsAt (H : Hp) (p : Addr) (qs : List Addr) (n : Nat) (f : Nat → List Int) : Prop := H p = some (.lst (qs.map V.ref)) ∧ qs.length = n ∧ ∀ k q, qs[k]? = some q → q ≠ p ∧ H q = some (.lst ((f k).map V.int))
theorem RowsAt.more {H H' : Hp} {p z : Addr} {qs : List Addr} {n : Nat} {f : Nat → List Int} (a : RowsAt H p qs n f) (e : Ex H H') (hz : z ≠ p) (h : H' z = some (.lst ((f n).map V.int))) :
    RowsAt (upd H' p (.lst ((qs ++ [z]).map V.ref))) p (qs ++ [z]) (n + 1) f := by
  refine ⟨upd_same, by rw [List.length_append, a.2.1]; rfl, fun k q hq => ?_⟩
  by_cases hk : k < qs.length
  · rw [List.getElem?_append_left hk] at hq
    obtain ⟨h1, h2⟩ := a.2.2 k q hq
    exact ⟨h1, by rw [upd_ne h1]; exact e _ _ h2⟩
  · have hk2 : k = qs.length := by
      have := (List.getElem?_eq_some_iff.mp hq).1
      rw [List.length_append] at this
      simp at this
      omega
    subst hk2
    rw [List.getElem?_append_right (Nat.le_refl _), Nat.sub_self] at hq
    obtain rfl : z = q := Option.some.inj hq
    exact ⟨hz, by rw [upd_ne hz, a.2.1]; exact h⟩
/-- counts of the rests -/
def Grid (H : Hp) (p : Addr) (u t : List Nat) : Prop := ∃ qs : List Addr, H p = some (.lst (qs.map V.ref)) ∧ qs.length = u.length + 1 ∧ ∀ i q, qs[i]? = some q → H q = some (.lst ((er (u.drop i) t).map V.int))
theorem Grid.ex {H H' : Hp} {p : Addr} {u t : List Nat} (g : Grid H p u t) (e : Ex H H') : Grid H' p u t := by
  obtain ⟨qs, h1, h2, h3⟩ := g
  exact ⟨qs, e _ _ h1, h2, fun i q hq => e _ _ (h3 i q hq)⟩
/-- ends[i][j] -/
theorem Grid.get {H : Hp} {p : Addr} {u t : List Nat} (g : Grid H p u t) {i : Nat} (hi : i ≤ u.length) : ∃ (qs : List Addr) (q : Addr), H p = some (.lst (qs.map V.ref)) ∧ atI (qs.map V.ref) (i : Nat) = some (.ref q) ∧ H q = some (.lst ((er (u.drop i) t).map V.int)) := by
  obtain ⟨qs, h1, h2, h3⟩ := g
  have hq : qs[i]? = some (qs[i]'(by omega)) := List.getElem?_eq_getElem (by omega)
  exact ⟨qs, _, h1, atI_nat (by rw [List.getElem?_map, hq]; rfl), h3 i _ hq⟩
theorem er_get (u t : List Nat) {j : Nat} (h : j ≤ t.length) : atI ((er u t).map V.int) (j : Nat) = some (V.int ((Mx.cnt u (t.drop j) : Nat) : Int)) := atI_nat (by rw [List.getElem?_map, er_at h]; rfl)
theorem last_at {α : Type} {xs : List α} {n : Nat} {v : α} (hl : xs.length = n + 1) (h : xs[n]? = some v) : atI xs (-1) = some v := by
  unfold atI ixN
  rw [if_neg (by decide), hl, if_pos (by omega)]
  have e : ((-1 : Int) + ((n + 1 : Nat) : Int)).toNat = n := by omega
  rw [e]
  exact h
def sp_end (K : PySem.W.Frag) : Sp := fun vs H Q _ => ∃ u t, vs = [tx u, tx t] ∧ u.length ≤ 1000 ∧ t.length ≤ 1000 ∧ ∀ H' p, Ex H H' → H p = none → Grid H' p u t → Q (.ref p) H'
theorem ok__end_counts (T : Tx K mg) : FnOk P w K mg base CX0 1 T.a__end_counts T.fd__end_counts ["word", "text"] (sp_end K) := by
  refine T.F__end_counts.ok sc__end_counts (fun vs H Q E h => ?_) (fun cdv A outer s H vs Q E hr h => ?_)
  · obtain ⟨u, t, rfl, _⟩ := h
    rfl
  · obtain ⟨u, t, rfl, lu, lt, q⟩ := h
    refine ⟨_, (pss_cons (ps_set (i := 2) sc__end_counts.nd rfl (by first | exact Or.inl rfl | exact Or.inr rfl) (pe_lst (pa_cons (pe_op op_rep (pe_lst (pa_cons pe_int pa_nil)) (pe_op op_add (pe_callB call_len_str (by rfl) T.n_len (by decide +kernel) (pa_cons (pv 1) pa_nil)) pe_int)) pa_nil))) (pss_cons (ps_for PassesOwn.never rfl (Rx.pi_revS (by rfl) T.n_reversed (pa_cons (pv 0) pa_nil)) (pg_name (i := 3) sc__end_counts.nd rfl (by first | exact Or.inl rfl | exact Or.inr rfl)) (pss_cons (ps_set (i := 4) sc__end_counts.nd rfl (by first | exact Or.inl rfl | exact Or.inr rfl) (pe_ix ix_list (pv 2) (pe_un un_neg pe_int) (fun _ _ => rfl))) (pss_cons (ps_set (i := 5) sc__end_counts.nd rfl (by first | exact Or.inl rfl | exact Or.inr rfl) (pe_lst (pa_cons pe_int pa_nil))) (pss_cons (ps_for PassesOwn.never rfl (pi_revR (by rfl) T.n_reversed (prg_1 (by rfl) T.n_range (pe_callB call_len_str (by rfl) T.n_len (by decide +kernel) (pa_cons (pv 1) pa_nil)))) (pg_name (i := 6) sc__end_counts.nd rfl (by first | exact Or.inl rfl | exact Or.inr rfl)) (pss_cons (ps_set (i := 7) sc__end_counts.nd rfl (by first | exact Or.inl rfl | exact Or.inr rfl) (pe_ifExp (pt_cmpR op_eq (pe_ix ix_str (pv 1) (pv 6) (fun _ _ => rfl)) (pv 3) (nomark _)) (pe_ix ix_list (pv 4) (pe_op op_add (pv 6) pe_int) (fun _ _ => rfl)) pe_int)) (pss_one (ps_expr (pe_bm PySem.F.plainAttrs_list PySem.F.slot_list_append PySem.F.type_list_append mt_append (pv 5) (pa_cons (pe_op op_add (pe_ix ix_list (pv 5) (pe_un un_neg pe_int) (fun _ _ => rfl)) (pv 7)) pa_nil)))))) (pss_one (ps_expr (pe_bm PySem.F.plainAttrs_list PySem.F.slot_list_append PySem.F.type_list_append mt_append (pv 2) (pa_cons (pe_revL (pv 5)) pa_nil)))))))) (pss_one (ps_ret (pe_revL (pv 2)))))), ?_⟩
    -- rows = [[1] * (len(text) + 1)]
    refine ⟨by show 1 ≤ sizeLine; decide, fun p1 n1 => ?_⟩
    refine ⟨_, rfl, mk t, rfl, by rw [mk_len]; exact sz_of (by omega), _, 1, rfl, rfl, ?_⟩
    rw [mk_len]
    have et : ((t.length : Int) + 1).toNat = t.length + 1 := by omega
    refine ⟨p1, (t.length : Int) + 1, _, rfl, rfl, upd_same, by omega, by omega, by rw [et]; exact sz_of (by simp; omega), fun p2 n2 => ?_⟩
    rw [et, rep_flat]
    refine ⟨by show 1 ≤ sizeLine; decide, fun p np => ?_⟩
    have x1 : Ex H (upd H p1 (.lst [V.int 1])) := Ex.new n1
    have x2 := x1.trans (Ex.new n2 (o := .lst (List.replicate (t.length + 1) (V.int 1))))
    have x3 := x2.trans (Ex.new np (o := .lst [V.ref p2]))
    have fp : H p = none := fresh_back x2 np
    have d2 : p2 ≠ p := fun e => by rw [← e, upd_same] at np; cases np
    have r0 : RowsAt (upd (upd (upd H p1 (.lst [V.int 1])) p2 (.lst (List.replicate (t.length + 1) (V.int 1)))) p (.lst [V.ref p2])) p [p2] 1 (fun k => er (u.drop (u.length - k)) t) := by
      refine ⟨upd_same, rfl, fun k q hq => ?_⟩
      have k0 : k = 0 := by
        have := (List.getElem?_eq_some_iff.mp hq).1
        simp at this
        omega
      subst k0
      obtain rfl : p2 = q := Option.some.inj hq
      refine ⟨d2, ?_⟩
      rw [upd_ne d2, upd_same]
      show some (HO.lst _) = some (HO.lst ((er (u.drop (u.length - 0)) t).map V.int))
      rw [Nat.sub_zero, List.drop_of_length_le (Nat.le_refl _), er_nil, List.map_replicate]
    generalize upd (upd (upd H p1 (.lst [V.int 1])) p2 (.lst (List.replicate (t.length + 1) (V.int 1)))) p (.lst [V.ref p2]) = H0 at r0 x3 ⊢
    -- for letter in reversed(word)
    have hsz : (mk u).cps.size = u.length := mk_len u
    refine ⟨_, rfl, mk u, rfl, by rw [hsz]; exact sz_of (by omega), ?_⟩
    refine Rx.for_revS (fun i σ' H' => ∃ qs y3 y4 y5 y6 y7, σ' = [some (tx u), some (tx t), some (.ref p), y3, y4, y5, y6, y7] ∧ Ex H H' ∧ RowsAt H' p qs (i + 1) (fun k => er (u.drop (u.length - k)) t)) ⟨_, _, _, _, _, _, rfl, x3, r0⟩ (fun i c σ' H' hi hc hp => ?_) (fun σ' H' hp => ?_)
    · obtain ⟨qs, y3, y4, y5, y6, y7, rfl, a1, a2⟩ := hp
      rw [hsz] at hi hc
      have hj : u.length - 1 - i < u.length := by omega
      have hcu : u[u.length - 1 - i]? = some c := by rw [← hc]; simp
      have ud : u.drop (u.length - (i + 1)) = c :: u.drop (u.length - i) := by
        have e1 : u.length - (i + 1) = u.length - 1 - i := by omega
        have e2 : u.length - 1 - i + 1 = u.length - i := by omega
        rw [e1, List.drop_eq_getElem_cons hj, e2]
        rw [List.getElem?_eq_getElem hj] at hcu
        rw [Option.some.inj hcu]
      have lq := a2.2.1
      have hq : qs[i]? = some (qs[i]'(by omega)) := List.getElem?_eq_getElem (by omega)
      obtain ⟨hqp, hqr⟩ := a2.2.2 i _ hq
      generalize qs[i]'(by omega) = q1 at hq hqp hqr
      -- shorter = rows[-1]; row = [0]
      refine ⟨_, rfl, 1, rfl, p, _, _, .ref q1, rfl, rfl, .inl (.inl a2.1), last_at (n := i) (by rw [List.length_map, lq]) (by rw [List.getElem?_map, hq]; rfl), ?_⟩
      refine ⟨by show 1 ≤ sizeLine; decide, fun r nr => ?_⟩
      have xr : Ex H' (upd H' r (.lst [V.int 0])) := Ex.new nr
      have fr : H r = none := fresh_back a1 nr
      -- for place in reversed(range(len(text)))
      have hr0 : upd H' r (.lst [V.int 0]) r = some (.lst [V.int 0]) := upd_same
      generalize upd H' r (.lst [V.int 0]) = H3 at xr hr0 ⊢
      show tSeq _ _ _ _ H3
      dsimp only [tSeq]
      refine forRv (n := (t.length : Int)) (fun H1 e1 Q' q' => ⟨_, rfl, mk t, rfl, by rw [mk_len]; exact sz_of (by omega), by rw [mk_len]; exact q' H1 (Ex.refl _)⟩) (by omega)
        (fun k σ2 H2 => ∃ y6 y7, σ2 = [some (tx u), some (tx t), some (.ref p), some (tx [c]), some (.ref q1), some (.ref r), y6, y7] ∧ Ex H' H2 ∧ H2 r = some (.lst ((eb (c :: u.drop (u.length - i)) t k).map V.int))) (fun H1 e1 => ⟨_, _, rfl, xr.trans e1, by rw [eb_zero]; exact e1 _ _ hr0⟩) (fun k σ2 H2 hk hp => ?_) (fun σ2 H2 hp => ?_)
      · obtain ⟨y6, y7, rfl, b1, b2⟩ := hp
        have hkt : k < t.length := by omega
        have hjt : t.length - 1 - k < t.length := by omega
        have ej : (t.length : Int) - 1 - k = ((t.length - 1 - k : Nat) : Int) := by omega
        rw [ej]
        have turn := eb_turn c (u.drop (u.length - i)) hkt
        rw [List.getElem?_eq_getElem hjt] at turn
        have fin : ∀ z : Int, z = (if some t[t.length - 1 - k] = some c then ((Mx.cnt (u.drop (u.length - i)) (t.drop (t.length - k)) : Nat) : Int) else 0) →
            (eb (c :: u.drop (u.length - i)) t k).map V.int ++ [V.int (((Mx.cnt (c :: u.drop (u.length - i)) (t.drop (t.length - k)) : Nat) : Int) + z)] = (eb (c :: u.drop (u.length - i)) t (k + 1)).map V.int := by
          intro z hz
          rw [eb_succ, List.map_append, turn, hz]
          rfl
        have lastr : atI ((eb (c :: u.drop (u.length - i)) t k).map V.int) (-1) = some (V.int ((Mx.cnt (c :: u.drop (u.length - i)) (t.drop (t.length - k)) : Nat) : Int)) := last_at (n := k) (by rw [List.length_map, eb_len]) (by rw [List.getElem?_map, eb_last]; rfl)
        refine ⟨_, rfl, _, rfl, mk t, _, t[t.length - 1 - k], rfl, rfl, by rw [mk_len]; exact sz_of (by omega), atI_nat (by rw [mk_list]; exact List.getElem?_eq_getElem hjt), _, rfl, rfl, _, rfl, ?_⟩
        refine ite2 (fun h => ?_) (fun h => ?_)
        · have h1 : t[t.length - 1 - k] = c := by
            have := (tx_inj (l := [t[t.length - 1 - k]]) (m := [c])).mp (of_decide_eq_true h)
            simpa using this
          have e : ((t.length - 1 - k : Nat) : Int) + 1 = ((t.length - k : Nat) : Int) := by omega
          refine ⟨_, rfl, _, rfl, _, 1, rfl, rfl, q1, _, _, _, rfl, rfl, .inl (.inl (b1 _ _ hqr)), by rw [e]; exact er_get _ _ (by omega), ?_⟩
          refine ⟨_, rfl, .inl ⟨rfl, _, .inl (.inl b2)⟩, _, rfl, 1, rfl, r, _, _, _, rfl, rfl, .inl (.inl b2), lastr, _, rfl, _, _, rfl, rfl, r, _, _, rfl, rfl, b2, by rw [List.length_map, eb_len]; exact sz_lt (by omega), ?_⟩
          refine ⟨_, _, rfl, Ex.mut b1 nr, ?_⟩
          rw [upd_same, ← fin _ (by rw [if_pos (by rw [h1])])]
        · have h1 : ¬ t[t.length - 1 - k] = c := fun z => h (decide_eq_true (by rw [z]))
          refine ⟨_, rfl, .inl ⟨rfl, _, .inl (.inl b2)⟩, _, rfl, 1, rfl, r, _, _, _, rfl, rfl, .inl (.inl b2), lastr, _, rfl, _, _, rfl, rfl, r, _, _, rfl, rfl, b2, by rw [List.length_map, eb_len]; exact sz_lt (by omega), ?_⟩
          refine ⟨_, _, rfl, Ex.mut b1 nr, ?_⟩
          rw [upd_same, ← fin 0 (by rw [if_neg (fun z => h1 (Option.some.inj z))])]
      · obtain ⟨y6, y7, rfl, b1, b2⟩ := hp
        rw [Int.toNat_natCast] at b2
        -- rows.append(row[::-1])
        refine ⟨_, rfl, .inl ⟨rfl, _, .inl (.inl (b1 _ _ a2.1))⟩, _, rfl, r, _, rfl, .inl (.inl b2), fun z nz => ?_⟩
        have ez : ((eb (c :: u.drop (u.length - i)) t t.length).map V.int).reverse = (er (c :: u.drop (u.length - i)) t).map V.int := by rw [← List.map_reverse, eb_rev]
        rw [ez]
        have hp3 : H2 p = some (.lst (qs.map V.ref)) := b1 _ _ a2.1
        have zp : z ≠ p := (ne_of_none hp3 nz).symm
        refine ⟨p, _, _, rfl, rfl, by rw [upd_ne zp.symm]; exact hp3, by rw [List.length_map, lq]; exact sz_lt (by omega), ?_⟩
        have ea : qs.map V.ref ++ [V.ref z] = (qs ++ [z]).map V.ref := by rw [List.map_append]; rfl
        rw [ea]
        refine ⟨qs ++ [z], _, _, _, _, _, rfl, ?_, ?_⟩
        · exact Ex.mut ((a1.trans b1).trans (Ex.new nz)) fp
        · exact a2.more (b1.trans (Ex.new nz)) zp (by rw [upd_same, ud])
    · obtain ⟨qs, y3, y4, y5, y6, y7, rfl, a1, a2⟩ := hp
      rw [hsz] at a2
      have lq := a2.2.1
      -- return rows[::-1]
      refine ⟨_, rfl, p, _, rfl, .inl (.inl a2.1), fun z nz => ?_⟩
      have er2 : (qs.map V.ref).reverse = qs.reverse.map V.ref := by rw [List.map_reverse]
      rw [er2]
      refine q _ z (a1.trans (Ex.new nz)) (fresh_back a1 nz) ⟨qs.reverse, upd_same, by rw [List.length_reverse, lq], fun i q hq => ?_⟩
      have hi : i < qs.length := by
        have := (List.getElem?_eq_some_iff.mp hq).1
        rwa [List.length_reverse] at this
      rw [List.getElem?_reverse hi] at hq
      obtain ⟨h1, h2⟩ := a2.2.2 _ q hq
      rw [upd_ne (ne_of_none h2 nz), h2]
      show some (HO.lst ((er (u.drop (u.length - (qs.length - 1 - i))) t).map V.int)) = _
      have e : u.length - (qs.length - 1 - i) = i := by omega
      rw [e]
end
end K01
set_option Elab.async false
set_option linter.all false
set_option maxRecDepth 100000
set_option maxHeartbeats 4000000
/-! Rx4: loops over enumerate and zip -/
namespace Rx
open PySem PySem.Spec PyProof.Rows L2 Evl Bx
theorem for_enumF {has : Hp → List V → Prop} {xs : List V} {g : TG} {tb : TS} {D : Ends} {σ : L2.St} {H : Hp} (Pv : Nat → L2.St → Hp → Prop) (h0 : Pv 0 σ H) (hq : ∀ i σ H, Pv i σ H → has H xs)
    (hs : ∀ (i : Nat) (x : V) (T : Addr) (σ : L2.St) (H : Hp), xs[i]? = some x → Pv i σ H → H T = none → g (.ref T) σ (upd H T (.tup [.int (i : Nat), x])) fun σ2 H2 => tb { D with nx := Pv (i + 1), ct := Pv (i + 1), bk := D.nx } σ2 H2) (hd : ∀ σ H, Pv xs.length σ H → D.nx σ H) :
    ∃ W : Nat → Nat → L2.St → Hp → Prop, (∃ m, W 0 m σ H) ∧ ∀ i m σ H, W i m σ H →
      ((Itf has).stop i H ∧ D.nx σ H) ∨ ((Itf has).go i H ∧ ∃ N : L2.St → Hp → Prop, (∀ σ' H', N σ' H' → ∃ m', m' < m ∧ W (i + 1) m' σ' H') ∧ ∀ v H', (Itf has).yld i H v H' → g v σ H' fun σ2 H2 => tb { D with nx := N, ct := N, bk := D.nx } σ2 H2) := by
  refine ⟨fun i m σ H => m = xs.length - i ∧ i ≤ xs.length ∧ Pv i σ H, ⟨xs.length, rfl, Nat.zero_le _, h0⟩, ?_⟩
  rintro i m σ H ⟨rfl, hi, p⟩
  have qx := hq i σ H p
  by_cases hlt : i < xs.length
  · have hx : xs[i]? = some xs[i] := List.getElem?_eq_getElem hlt
    refine .inr ⟨⟨xs, _, qx, hx⟩, Pv (i + 1), fun σ' H' p' => ⟨xs.length - (i + 1), by omega, rfl, hlt, p'⟩, fun v H' y => ?_⟩
    obtain ⟨T, x', rfl, hT, rfl, f1⟩ := y
    exact hs i x' T σ H (f1 xs qx) p hT
  · have e : i = xs.length := by omega
    subst e
    exact .inl ⟨⟨xs, qx, rfl⟩, hd σ H p⟩
theorem for_zipF {has1 has2 : Hp → List V → Prop} {xs ys : List V} {g : TG} {tb : TS} {D : Ends} {σ : L2.St} {H : Hp} (hl : xs.length = ys.length) (Pv : Nat → L2.St → Hp → Prop) (h0 : Pv 0 σ H) (hq : ∀ i σ H, Pv i σ H → has1 H xs ∧ has2 H ys)
    (hs : ∀ (i : Nat) (x y : V) (T : Addr) (σ : L2.St) (H : Hp), xs[i]? = some x → ys[i]? = some y → Pv i σ H → H T = none → g (.ref T) σ (upd H T (.tup [x, y])) fun σ2 H2 => tb { D with nx := Pv (i + 1), ct := Pv (i + 1), bk := D.nx } σ2 H2) (hd : ∀ σ H, Pv xs.length σ H → D.nx σ H) :
    ∃ W : Nat → Nat → L2.St → Hp → Prop, (∃ m, W 0 m σ H) ∧ ∀ i m σ H, W i m σ H →
      ((Itzf has1 has2).stop i H ∧ D.nx σ H) ∨ ((Itzf has1 has2).go i H ∧ ∃ N : L2.St → Hp → Prop, (∀ σ' H', N σ' H' → ∃ m', m' < m ∧ W (i + 1) m' σ' H') ∧ ∀ v H', (Itzf has1 has2).yld i H v H' → g v σ H' fun σ2 H2 => tb { D with nx := N, ct := N, bk := D.nx } σ2 H2) := by
  refine ⟨fun i m σ H => m = xs.length - i ∧ i ≤ xs.length ∧ Pv i σ H, ⟨xs.length, rfl, Nat.zero_le _, h0⟩, ?_⟩
  rintro i m σ H ⟨rfl, hi, p⟩
  obtain ⟨qx, qy⟩ := hq i σ H p
  by_cases hlt : i < xs.length
  · have hx : xs[i]? = some xs[i] := List.getElem?_eq_getElem hlt
    have hlt2 : i < ys.length := by omega
    have hy : ys[i]? = some ys[i] := List.getElem?_eq_getElem hlt2
    refine .inr ⟨⟨xs, ys, _, _, qx, qy, hx, hy⟩, Pv (i + 1), fun σ' H' p' => ⟨xs.length - (i + 1), by omega, rfl, hlt, p'⟩, fun v H' y => ?_⟩
    obtain ⟨T, x', y', rfl, hT, rfl, f1, f2⟩ := y
    exact hs i x' y' T σ H (f1 xs qx) (f2 ys qy) p hT
  · have e : i = xs.length := by omega
    subst e
    exact .inl ⟨⟨xs, ys, qx, qy, Nat.le_refl _, by omega, .inl rfl⟩, hd σ H p⟩
/-- for i, c in enumerate(a text): the pair's two names in the slots j and k -/
theorem forEnumS {K : PySem.W.Frag} {σ : L2.St} {H : Hp} {D : Ends} {tu : TS} {ta : TA} {j k : Nat} {l : List Nat} (h : EvA ta σ H [tx l]) (Pv : Nat → L2.St → Hp → Prop) (h0 : ∀ H1, Ex H H1 → Pv 0 σ H1)
    (hm : ∀ i σ' H' H2, Ex H' H2 → Pv i σ' H' → Pv i σ' H2)
    (hs : ∀ i c σ' H', l[i]? = some c → Pv i σ' H' → tu { D with nx := Pv (i + 1), ct := Pv (i + 1), bk := D.nx } ((σ'.set j (some (.int (i : Nat)))).set k (some (tx [c]))) H')
    (hd : ∀ σ' H', Pv l.length σ' H' → D.nx σ' H') : tFor (iEnumS ta) (gTup K 2 (gCons (gName j) (gCons (gName k) gNil))) tu D σ H :=
  h H (Ex.refl H) _ fun H1 e => ⟨mk l, rfl, by
    have hl : (l.map fun c => tx [c]) = (Sx.sgs (mk l)).map V.str := by rw [sgs_mk, List.map_map] <;> rfl
    have hz : ((Sx.sgs (mk l)).map V.str).length = l.length := by rw [← hl, List.length_map]
    refine for_enumF (xs := (Sx.sgs (mk l)).map V.str) Pv (h0 H1 e) (fun _ _ _ _ => rfl) (fun i x T σ' H' hx p hT => ?_) (fun σ' H' p => hd σ' H' (by rw [hz] at p; exact p))
    rw [← hl, List.getElem?_map] at hx
    cases hc : l[i]? with
    | none => rw [hc] at hx; cases hx
    | some c =>
      rw [hc] at hx
      obtain rfl : tx [c] = x := Option.some.inj hx
      exact ⟨T, _, rfl, .inl (.inl upd_same), rfl, _, _, rfl, _, _, rfl, rfl, hs i c σ' _ hc (hm i σ' H' _ (Ex.new hT) p)⟩⟩
/-- for i, q in enumerate(a tuple of numbers) -/
theorem forEnumT {K : PySem.W.Frag} {σ : L2.St} {H : Hp} {D : Ends} {tu : TS} {ta : TA} {j k : Nat} {a : Addr} {l : List Nat} (h : EvA ta σ H [.ref a]) (ht : H a = some (.tup (l.map fun q => V.int (q : Nat)))) (Pv : Nat → L2.St → Hp → Prop) (h0 : ∀ H1, Ex H H1 → Pv 0 σ H1)
    (hq : ∀ i σ' H', Pv i σ' H' → Ex H H') (hm : ∀ i σ' H' H2, Ex H' H2 → Pv i σ' H' → Pv i σ' H2)
    (hs : ∀ i q σ' H', l[i]? = some q → Pv i σ' H' → tu { D with nx := Pv (i + 1), ct := Pv (i + 1), bk := D.nx } ((σ'.set j (some (.int (i : Nat)))).set k (some (.int (q : Nat)))) H')
    (hd : ∀ σ' H', Pv l.length σ' H' → D.nx σ' H') : tFor (iEnumT K ta) (gTup K 2 (gCons (gName j) (gCons (gName k) gNil))) tu D σ H :=
  h H (Ex.refl H) _ fun H1 e => ⟨a, _, rfl, .inl (.inl (e _ _ ht)), by
    refine for_enumF (xs := l.map fun q => V.int (q : Nat)) Pv (h0 H1 e) (fun i σ' H' p => .inl (.inl (hq i σ' H' p _ _ ht))) (fun i x T σ' H' hx p hT => ?_) (fun σ' H' p => hd σ' H' (by rw [List.length_map] at p; exact p))
    rw [List.getElem?_map] at hx
    cases hc : l[i]? with
    | none => rw [hc] at hx; cases hx
    | some c =>
      rw [hc] at hx
      obtain rfl : V.int (c : Nat) = x := Option.some.inj hx
      exact ⟨T, _, rfl, .inl (.inl upd_same), rfl, _, _, rfl, _, _, rfl, rfl, hs i c σ' _ hc (hm i σ' H' _ (Ex.new hT) p)⟩⟩
/-- for c, q in zip(a text, a tuple of numbers) -/
theorem forZipST {K : PySem.W.Frag} {σ : L2.St} {H : Hp} {D : Ends} {tu : TS} {ta : TA} {j k : Nat} {a : Addr} {u l : List Nat} (h : EvA ta σ H [tx u, .ref a]) (ht : H a = some (.tup (l.map fun q => V.int (q : Nat)))) (hl : u.length = l.length) (Pv : Nat → L2.St → Hp → Prop) (h0 : ∀ H1, Ex H H1 → Pv 0 σ H1)
    (hq : ∀ i σ' H', Pv i σ' H' → Ex H H') (hm : ∀ i σ' H' H2, Ex H' H2 → Pv i σ' H' → Pv i σ' H2)
    (hs : ∀ i c q σ' H', u[i]? = some c → l[i]? = some q → Pv i σ' H' → tu { D with nx := Pv (i + 1), ct := Pv (i + 1), bk := D.nx } ((σ'.set j (some (tx [c]))).set k (some (.int (q : Nat)))) H')
    (hd : ∀ σ' H', Pv u.length σ' H' → D.nx σ' H') : tFor (iZipST K ta) (gTup K 2 (gCons (gName j) (gCons (gName k) gNil))) tu D σ H :=
  h H (Ex.refl H) _ fun H1 e => ⟨mk u, a, _, rfl, .inl (.inl (e _ _ ht)), by
    have hu : (u.map fun c => tx [c]) = (Sx.sgs (mk u)).map V.str := by rw [sgs_mk, List.map_map] <;> rfl
    have hz : ((Sx.sgs (mk u)).map V.str).length = u.length := by rw [← hu, List.length_map]
    refine for_zipF (xs := (Sx.sgs (mk u)).map V.str) (ys := l.map fun q => V.int (q : Nat)) (by rw [hz, List.length_map, hl]) Pv (h0 H1 e) (fun i σ' H' p => ⟨rfl, .inl (.inl (hq i σ' H' p _ _ ht))⟩) (fun i x y T σ' H' hx hy p hT => ?_) (fun σ' H' p => hd σ' H' (by rw [hz] at p; exact p))
    rw [← hu, List.getElem?_map] at hx
    rw [List.getElem?_map] at hy
    cases hc : u[i]? with
    | none => rw [hc] at hx; cases hx
    | some c =>
      cases hd : l[i]? with
      | none => rw [hd] at hy; cases hy
      | some q =>
        rw [hc] at hx
        rw [hd] at hy
        obtain rfl : tx [c] = x := Option.some.inj hx
        obtain rfl : V.int (q : Nat) = y := Option.some.inj hy
        exact ⟨T, _, rfl, .inl (.inl upd_same), rfl, _, _, rfl, _, _, rfl, rfl, hs i c q σ' _ hc hd (hm i σ' H' _ (Ex.new hT) p)⟩⟩
theorem ne_same {x y : V} (h : x = y) : V.bl (!decide (x = y)) = V.bl false := by rw [decide_eq_true h]; rfl
theorem eq_same {x y : V} (h : x = y) : V.bl (decide (x = y)) = V.bl true := by rw [decide_eq_true h]
end Rx
set_option Elab.async false
set_option linter.all false
set_option maxRecDepth 100000
set_option maxHeartbeats 4000000
namespace K01
open PySem PySem.Spec PyProof.Rows L2 Evl Bx
open Nx Rx
section
variable {P : Program} {w : World} {K : PySem.W.Frag} {mg : Str → Option Value} {base : Heap}
/-- places as a tuple -/
def plc (l : List Nat) : List V := l.map fun q => V.int (q : Nat)
def sp_reads (K : PySem.W.Frag) : Sp := fun vs H Q _ => ∃ (u t l : List Nat) (a : Addr), vs = [tx u, tx t, .ref a] ∧ u.length ≤ 1000 ∧ t.length ≤ 1000 ∧ H a = some (.tup (plc l)) ∧ isr t 0 u l ∧ ∀ H', Ex H H' → Q (.bl true) H'
theorem ok__reads (T : Tx K mg) : FnOk P w K mg base CX0 2 T.a__reads T.fd__reads ["word", "text", "value"] (sp_reads K) := by
  refine T.F__reads.ok sc__reads (fun vs H Q E h => ?_) (fun cdv A outer s H vs Q E hr h => ?_)
  · obtain ⟨_, _, _, _, rfl, _⟩ := h
    rfl
  · obtain ⟨u, t, l, a, rfl, lu, lt, hA, hi, q⟩ := h
    refine ⟨_, (pss_cons (ps_if (PW.pt (pw_or (pt_not (pt_val (pe_callB call_isi (by rfl) T.n_isinstance (by decide +kernel) (pa_cons (pv 2) (pa_cons (pe_bltn (v := .ty "tuple") (u := .type "tuple") (by rfl) T.n_tuple (by decide +kernel) rfl) pa_nil))))) (pw_or1 (pt_cmpR op_ne (pe_callB call_len_seq (by rfl) T.n_len (by decide +kernel) (pa_cons (pv 2) pa_nil)) (pe_callB call_len_str (by rfl) T.n_len (by decide +kernel) (pa_cons (pv 0) pa_nil)) (nomark _))))) (pss_one (ps_ret pe_bl)) pss_nil) (pss_cons (ps_set (i := 3) sc__reads.nd rfl (by first | exact Or.inl rfl | exact Or.inr rfl) pe_int) (pss_cons (ps_for PassesOwn.never rfl (Rx.pi_zipST (by rfl) T.n_zip (pa_cons (pv 0) (pa_cons (pv 2) pa_nil))) (pg_tup (by rfl) (pgs_cons (pg_name (i := 4) sc__reads.nd rfl (by first | exact Or.inl rfl | exact Or.inr rfl)) (pgs_cons (pg_name (i := 5) sc__reads.nd rfl (by first | exact Or.inl rfl | exact Or.inr rfl)) pgs_nil))) (pss_cons (ps_if (PW.pt (pw_or (pt_not (pt_val (pe_call (ok_is_whole T) (hr.mono (by decide)) (by rfl) T.g_is_whole T.F_is_whole.kp (b_is_whole T) .nil pass0 (pa_cons (pv 5) pa_nil)))) (pw_or (pt_not (pt_chain op_le op_lt (pv 3) (pv 5) (pe_callB call_len_str (by rfl) T.n_len (by decide +kernel) (pa_cons (pv 1) pa_nil)))) (pw_or1 (pt_cmpR op_ne (pe_ix ix_str (pv 1) (pv 5) (fun _ _ => rfl)) (pv 4) (nomark _)))))) (pss_one (ps_ret pe_bl)) pss_nil) (pss_one (ps_set (i := 3) sc__reads.nd rfl (by first | exact Or.inl rfl | exact Or.inr rfl) (pe_op op_add (pv 5) pe_int))))) (pss_one (ps_ret pe_bl))))), ?_⟩
    have hl := isr_len hi
    refine ⟨_, rfl, _, _, .type "tuple", _, true, rfl, .ty _, .base (.tup hA), kit_ty (by decide +kernel), true, rfl, iteF ?_⟩
    refine ⟨_, rfl, a, _, rfl, .inr (.inl (.inl hA)), _, rfl, mk u, rfl, by rw [mk_len]; exact sz_of (by omega), rfl, false, ne_same (by rw [mk_len, plc, List.length_map, hl]), iteF ?_⟩
    -- for letter, place in zip(word, value)
    dsimp only [tNext, tSeq, tAsg, tC, gName]
    refine forZipST (u := u) (l := l) (fun H1 e1 Q' q' => ⟨_, rfl, _, rfl, q' H1 (Ex.refl _)⟩) hA hl.symm (fun i σ' H' => ∃ (lo : Nat) (y4 y5 : Option V), σ' = [some (tx u), some (tx t), some (.ref a), some (.int (lo : Nat)), y4, y5] ∧ Ex H H' ∧ ∀ q, l[i]? = some q → lo ≤ q) (fun H1 e1 => ⟨0, _, _, rfl, e1, fun q _ => Nat.zero_le _⟩)
      (fun i σ' H' ⟨_, _, _, _, e, _⟩ => e) (fun i σ' H' H2 e ⟨lo, y4, y5, h1, h2, h3⟩ => ⟨lo, y4, y5, h1, h2.trans e, h3⟩) (fun i c p σ' H' hc hp ⟨lo, y4, y5, h1, h2, h3⟩ => ?_) (fun σ' H' ⟨lo, y4, y5, h1, h2, h3⟩ => q H' h2)
    subst h1
    obtain ⟨_, hpt, hpc⟩ := isr_at hi hp
    rw [hc, List.getElem?_eq_getElem hpt] at hpc
    have hlo := h3 p hp
    refine ⟨_, rfl, _, rfl, true, rfl, iteF ?_⟩
    refine ⟨_, rfl, _, rfl, _, _, rfl, rfl, _, rfl, ?_⟩
    rw [decide_eq_true (by omega : ((lo : Nat) : Int) ≤ ((p : Nat) : Int))]
    refine iteT ⟨_, rfl, mk t, rfl, by rw [mk_len]; exact sz_of (by omega), _, _, rfl, rfl, _, rfl, ?_⟩
    rw [mk_len, decide_eq_true (by omega : ((p : Nat) : Int) < ((t.length : Nat) : Int))]
    refine iteF ?_
    refine ⟨_, rfl, _, rfl, mk t, _, t[p], rfl, rfl, by rw [mk_len]; exact sz_of (by omega), atI_nat (by rw [mk_list]; exact List.getElem?_eq_getElem hpt), _, rfl, rfl, false, ne_same (by rw [Option.some.inj hpc]), iteF ?_⟩
    refine ⟨_, rfl, _, 1, rfl, rfl, p + 1, _, _, rfl, h2, fun q' hq' => isr_next hi hp hq'⟩
def sp_is_reading (K : PySem.W.Frag) : Sp := sp_reads K
theorem ok_is_reading (T : Tx K mg) : FnOk P w K mg base CX0 3 T.a_is_reading T.fd_is_reading ["word", "text", "value"] (fun vs H Q E => ∃ (u t l : List Nat) (a : Addr), Low u ∧ Low t ∧ vs = [tx u, tx t, .ref a] ∧ u.length ≤ 1000 ∧ t.length ≤ 1000 ∧ H a = some (.tup (plc l)) ∧ isr t 0 u l ∧ ∀ H', Ex H H' → Q (.bl true) H') := by
  refine T.F_is_reading.ok sc_is_reading (fun vs H Q E h => ?_) (fun cdv A outer s H vs Q E hr h => ?_)
  · obtain ⟨_, _, _, _, _, _, rfl, _⟩ := h
    rfl
  · obtain ⟨u, t, l, a, hu, ht, rfl, lu, lt, hA, hi, q⟩ := h
    refine ⟨_, (pss_cons (ps_expr (pe_call (ok_need_word T) (hr.mono (by decide)) (by rfl) T.g_need_word T.F_need_word.kp (b_need_word T) .nil pass0 (pa_cons (pv 0) pa_nil))) (pss_cons (ps_expr (pe_call (ok_need_text T) (hr.mono (by decide)) (by rfl) T.g_need_text T.F_need_text.kp (b_need_text T) .nil pass0 (pa_cons (pv 1) pa_nil))) (pss_one (ps_ret (pe_call (ok__reads T) (hr.mono (by decide)) (by rfl) T.g__reads T.F__reads.kp (b__reads T) .nil pass0 (pa_cons (pv 0) (pa_cons (pv 1) (pa_cons (pv 2) pa_nil)))))))), ?_⟩
    exact ⟨_, rfl, u, rfl, hu, _, rfl, t, rfl, ht, _, rfl, _, rfl, _, rfl, u, t, l, a, rfl, lu, lt, hA, hi, q⟩
end
end K01
set_option Elab.async false
set_option linter.all false
set_option maxRecDepth 100000
set_option maxHeartbeats 4000000
namespace K01
open PySem PySem.Spec PyProof.Rows L2 Evl Bx
open Nx Rx
section
variable {P : Program} {w : World} {K : PySem.W.Frag} {mg : Str → Option Value} {base : Heap}
theorem ne_diff {x y : V} (h : x ≠ y) : V.bl (!decide (x = y)) = V.bl true := by rw [decide_eq_false h]; rfl
theorem sign_ne {a b : Nat} (h : a ≠ b) : (V.str ⟨#[a]⟩ : V) ≠ V.str ⟨#[b]⟩ := fun z => h (by
  have := (tx_inj (l := [a]) (m := [b])).mp z
  simpa using this)
def sp_reading (K : PySem.W.Frag) : Sp := fun vs H Q _ => ∃ (u t : List Nat) (k : Nat), vs = [tx u, tx t, .int (k : Nat)] ∧ Low u ∧ Low t ∧ u.length ≤ 1000 ∧ t.length ≤ 1000 ∧ k < Mx.cnt u t ∧ ∀ H' a, Ex H H' → H a = none → H' a = some (.tup (plc (rd 0 u t k))) → Q (.ref a) H'
theorem ok_reading (T : Tx K mg) : FnOk P w K mg base CX0 3 T.a_reading T.fd_reading ["word", "text", "number"] (sp_reading K) := by
  refine T.F_reading.ok sc_reading (fun vs H Q E h => ?_) (fun cdv A outer s H vs Q E hr h => ?_)
  · obtain ⟨_, _, _, rfl, _⟩ := h
    rfl
  · obtain ⟨u, t, k, rfl, hu, ht, lu, lt, hk, q⟩ := h
    refine ⟨_, (pss_cons (ps_expr (pe_call (ok_need_word T) (hr.mono (by decide)) (by rfl) T.g_need_word T.F_need_word.kp (b_need_word T) .nil pass0 (pa_cons (pv 0) pa_nil))) (pss_cons (ps_expr (pe_call (ok_need_text T) (hr.mono (by decide)) (by rfl) T.g_need_text T.F_need_text.kp (b_need_text T) .nil pass0 (pa_cons (pv 1) pa_nil))) (pss_cons (ps_set (i := 3) sc_reading.nd rfl (by first | exact Or.inl rfl | exact Or.inr rfl) (pe_call (ok__end_counts T) (hr.mono (by decide)) (by rfl) T.g__end_counts T.F__end_counts.kp (b__end_counts T) .nil pass0 (pa_cons (pv 0) (pa_cons (pv 1) pa_nil)))) (pss_cons (ps_if (PW.pt (pw_or (pt_not (pt_val (pe_call (ok_is_count T) (hr.mono (by decide)) (by rfl) T.g_is_count T.F_is_count.kp (b_is_count T) .nil pass0 (pa_cons (pv 2) pa_nil)))) (pw_or1 (pt_cmpR op_ge (pv 2) (pe_ix ix_list (pe_ix ix_list (pv 3) pe_int (fun _ _ => rfl)) pe_int (fun _ _ => rfl)) (nomark _))))) (pss_one ps_never) pss_nil) (pss_cons (ps_set (i := 4) sc_reading.nd rfl (by first | exact Or.inl rfl | exact Or.inr rfl) (pe_lst pa_nil)) (pss_cons (ps_set (i := 5) sc_reading.nd rfl (by first | exact Or.inl rfl | exact Or.inr rfl) (pv 2)) (pss_cons (ps_set (i := 6) sc_reading.nd rfl (by first | exact Or.inl rfl | exact Or.inr rfl) pe_int) (pss_cons (ps_for PassesOwn.never rfl (pi_range1 (by rfl) T.n_range (pa_cons (pe_callB call_len_str (by rfl) T.n_len (by decide +kernel) (pa_cons (pv 0) pa_nil)) pa_nil)) (pg_name (i := 7) sc_reading.nd rfl (by first | exact Or.inl rfl | exact Or.inr rfl)) (pss_cons (ps_while PassesOwn.never (PW.pt (pw_or (pt_cmpR op_ne (pe_ix ix_str (pv 0) (pv 7) (fun _ _ => rfl)) (pe_ix ix_str (pv 1) (pv 6) (fun _ _ => rfl)) (nomark _)) (pw_or1 (pt_cmpR op_ge (pv 5) (pe_ix ix_list (pe_ix ix_list (pv 3) (pe_op op_add (pv 7) pe_int) (fun _ _ => rfl)) (pe_op op_add (pv 6) pe_int) (fun _ _ => rfl)) (nomark _))))) (pss_cons (ps_if (pt_cmpR op_eq (pe_ix ix_str (pv 0) (pv 7) (fun _ _ => rfl)) (pe_ix ix_str (pv 1) (pv 6) (fun _ _ => rfl)) (nomark _)) (pss_one (ps_set (i := 5) sc_reading.nd rfl (by first | exact Or.inl rfl | exact Or.inr rfl) (pe_op op_sub (pv 5) (pe_ix ix_list (pe_ix ix_list (pv 3) (pe_op op_add (pv 7) pe_int) (fun _ _ => rfl)) (pe_op op_add (pv 6) pe_int) (fun _ _ => rfl))))) pss_nil) (pss_one (ps_set (i := 6) sc_reading.nd rfl (by first | exact Or.inl rfl | exact Or.inr rfl) (pe_op op_add (pv 6) pe_int))))) (pss_cons (ps_expr (pe_bm PySem.F.plainAttrs_list PySem.F.slot_list_append PySem.F.type_list_append mt_append (pv 4) (pa_cons (pv 6) pa_nil))) (pss_one (ps_set (i := 6) sc_reading.nd rfl (by first | exact Or.inl rfl | exact Or.inr rfl) (pe_op op_add (pv 6) pe_int)))))) (pss_one (ps_ret (pe_tupleOf (by rfl) T.n_tuple (pv 4)))))))))))), ?_⟩
    refine ⟨_, rfl, u, rfl, hu, _, rfl, t, rfl, ht, _, rfl, _, rfl, u, t, rfl, lu, lt, fun H1 p e1 n1 g => ?_⟩
    obtain ⟨qs0, q0, g1, g2, g3⟩ := g.get (i := 0) (Nat.zero_le _)
    refine ⟨_, rfl, k, rfl, true, rfl, iteF ?_⟩
    refine ⟨_, rfl, _, rfl, p, _, 0, .ref q0, rfl, rfl, .inl (.inl g1), g2, q0, _, 0, _, rfl, rfl, .inl (.inl g3), er_get _ _ (Nat.zero_le _), _, _, rfl, rfl, _, rfl, ?_⟩
    rw [List.drop_zero, List.drop_zero, decide_eq_false (by omega : ¬ ((k : Nat) : Int) ≥ ((Mx.cnt u t : Nat) : Int))]
    refine iteF ?_
    -- places = []; left = number; place = 0
    refine ⟨by show 0 ≤ sizeLine; decide, fun pl npl => ?_⟩
    refine ⟨_, rfl, ?_⟩
    have hz : (mk u).length = u.length := mk_len u
    refine ⟨_, rfl, mk u, rfl, by rw [hz]; exact sz_of (by omega), ((mk u).length : Nat), rfl, by omega, by omega, ?_⟩
    rw [Int.toNat_natCast]
    have xpl : Ex H1 (upd H1 pl (.lst [])) := Ex.new npl
    refine for_range (lo := 0) (n := (mk u).length) (fun i σ2 H2 => ∃ (l0 : List Nat) (k' pos : Nat) (y7 : Option V), σ2 = [some (tx u), some (tx t), some (.int (k : Nat)), some (.ref p), some (.ref pl), some (.int (k' : Nat)), some (.int (pos : Nat)), y7] ∧ Ex H1 H2 ∧ H2 pl = some (.lst (plc l0)) ∧ l0.length = i ∧ l0 ++ rd pos (u.drop i) (t.drop pos) k' = rd 0 u t k ∧ k' < Mx.cnt (u.drop i) (t.drop pos))
      ⟨[], k, 0, none, rfl, xpl, upd_same, rfl, by rw [List.drop_zero, List.drop_zero]; rfl, by rw [List.drop_zero, List.drop_zero]; exact hk⟩ (fun i σ2 H2 hi hp => ?_) (fun σ2 H2 hp => ?_)
    · obtain ⟨l0, k0, pos0, y7, rfl, a1, a2, a3, a4, a5⟩ := hp
      rw [hz] at hi
      have e0 : (0 : Int) + (i : Nat) = (i : Nat) := Int.zero_add _
      rw [e0]
      have ud : u.drop i = u[i] :: u.drop (i + 1) := List.drop_eq_getElem_cons hi
      have atu : atI (mk u).cps.toList (i : Nat) = some u[i] := atI_nat (by rw [mk_list]; exact List.getElem?_eq_getElem hi)
      generalize u[i] = a at ud atu
      obtain ⟨qs1, q1, f1, f2, f3⟩ := g.get (i := i + 1) (by omega)
      rw [ud] at a4 a5
      generalize rd 0 u t k = R at a4 q ⊢
      -- while
      refine ⟨fun m σ3 H3 => ∃ (k' pos : Nat), m = t.length - pos ∧ σ3 = [some (tx u), some (tx t), some (.int (k : Nat)), some (.ref p), some (.ref pl), some (.int (k' : Nat)), some (.int (pos : Nat)), some (.int (i : Nat))] ∧ Ex H1 H3 ∧ H3 pl = some (.lst (plc l0)) ∧ l0 ++ rd pos (a :: u.drop (i + 1)) (t.drop pos) k' = R ∧ k' < Mx.cnt (a :: u.drop (i + 1)) (t.drop pos),
        ⟨t.length - pos0, k0, pos0, rfl, rfl, a1, a2, a4, a5⟩, fun m σ3 H3 hw => ?_⟩
      obtain ⟨k', pos, rfl, rfl, b1, b2, b4, b5⟩ := hw
      have hpos : pos < t.length := by
        apply Decidable.byContradiction
        intro z
        have zn : t.drop pos = [] := List.drop_eq_nil_of_le (by omega)
        rw [zn, Mx.cnt_e] at b5
        omega
      have td : t.drop pos = t[pos] :: t.drop (pos + 1) := List.drop_eq_getElem_cons hpos
      have att : atI (mk t).cps.toList (pos : Nat) = some t[pos] := atI_nat (by rw [mk_list]; exact List.getElem?_eq_getElem hpos)
      generalize t[pos] = b at td att
      rw [td, Mx.cnt_c] at b5
      rw [td] at b4
      have getc : atI ((er (u.drop (i + 1)) t).map V.int) (((pos : Nat) : Int) + 1) = some (V.int ((Mx.cnt (u.drop (i + 1)) (t.drop (pos + 1)) : Nat) : Int)) := er_get _ _ (j := pos + 1) (by omega)
      have ei1 : ((i : Nat) : Int) + 1 = ((i + 1 : Nat) : Int) := by omega
      by_cases hab : a = b
      · rw [if_pos hab] at b5
        refine ⟨_, rfl, _, rfl, mk u, _, a, rfl, rfl, by rw [mk_len]; exact sz_of (by omega), atu, _, rfl, _, rfl, mk t, _, b, rfl, rfl, by rw [mk_len]; exact sz_of (by omega), att, rfl, false, ne_same (by rw [hab]), iteF ?_⟩
        refine ⟨_, rfl, _, rfl, _, rfl, _, 1, rfl, rfl, p, _, _, .ref q1, rfl, rfl, .inl (.inl (b1 _ _ f1)), by rw [ei1]; exact f2, _, rfl, _, 1, rfl, rfl, q1, _, _, _, rfl, rfl, .inl (.inl (b1 _ _ f3)), getc, _, _, rfl, rfl, _, rfl, ?_⟩
        by_cases hc : Mx.cnt (u.drop (i + 1)) (t.drop (pos + 1)) ≤ k'
        · rw [decide_eq_true (by omega : ((k' : Nat) : Int) ≥ ((Mx.cnt (u.drop (i + 1)) (t.drop (pos + 1)) : Nat) : Int))]
          refine iteT ⟨fun σ4 H4 => σ4 = [some (tx u), some (tx t), some (.int (k : Nat)), some (.ref p), some (.ref pl), some (.int ((k' - Mx.cnt (u.drop (i + 1)) (t.drop (pos + 1)) : Nat) : Int)), some (.int ((pos + 1 : Nat) : Int)), some (.int (i : Nat))] ∧ H4 = H3, fun σ4 H4 ⟨h4, h5⟩ => ⟨t.length - (pos + 1), by omega, _, pos + 1, rfl, h4, by rw [h5]; exact b1, by rw [h5]; exact b2, ?_, ?_⟩, ?_⟩
          · rw [← b4]
            conv => rhs; unfold rd
            rw [if_pos hab, if_neg (by omega)]
          · omega
          · refine ⟨_, rfl, _, rfl, mk u, _, a, rfl, rfl, by rw [mk_len]; exact sz_of (by omega), atu, _, rfl, _, rfl, mk t, _, b, rfl, rfl, by rw [mk_len]; exact sz_of (by omega), att, rfl, true, eq_same (by rw [hab]), iteT ?_⟩
            refine ⟨_, rfl, _, rfl, _, rfl, _, 1, rfl, rfl, p, _, _, .ref q1, rfl, rfl, .inl (.inl (b1 _ _ f1)), by rw [ei1]; exact f2, _, rfl, _, 1, rfl, rfl, q1, _, _, _, rfl, rfl, .inl (.inl (b1 _ _ f3)), getc, _, _, rfl, rfl, ?_⟩
            refine ⟨_, rfl, _, 1, rfl, rfl, ?_, rfl⟩
            have es : ((k' : Nat) : Int) - ((Mx.cnt (u.drop (i + 1)) (t.drop (pos + 1)) : Nat) : Int) = ((k' - Mx.cnt (u.drop (i + 1)) (t.drop (pos + 1)) : Nat) : Int) := by omega
            rw [← es]
            rfl
        · rw [decide_eq_false (by omega : ¬ ((k' : Nat) : Int) ≥ ((Mx.cnt (u.drop (i + 1)) (t.drop (pos + 1)) : Nat) : Int))]
          refine iteF ?_
          -- places.append(place); place = place + 1
          refine ⟨_, rfl, .inl ⟨rfl, _, .inl (.inl b2)⟩, _, rfl, pl, _, _, rfl, rfl, b2, by rw [plc, List.length_map, a3]; exact sz_lt (by omega), ?_⟩
          refine ⟨_, rfl, _, 1, rfl, rfl, l0 ++ [pos], k', pos + 1, _, rfl, Ex.mut b1 npl, ?_, by rw [List.length_append, a3]; rfl, ?_, by omega⟩
          · rw [upd_same, plc, plc, List.map_append]
            rfl
          · rw [← b4, List.append_assoc]
            conv => rhs; unfold rd
            rw [if_pos hab, if_pos (by omega)]
            rfl
      · rw [if_neg hab] at b5
        refine ⟨_, rfl, _, rfl, mk u, _, a, rfl, rfl, by rw [mk_len]; exact sz_of (by omega), atu, _, rfl, _, rfl, mk t, _, b, rfl, rfl, by rw [mk_len]; exact sz_of (by omega), att, rfl, true, ne_diff (sign_ne hab), iteT (iteT ⟨fun σ4 H4 => σ4 = [some (tx u), some (tx t), some (.int (k : Nat)), some (.ref p), some (.ref pl), some (.int (k' : Nat)), some (.int ((pos + 1 : Nat) : Int)), some (.int (i : Nat))] ∧ H4 = H3, fun σ4 H4 ⟨h4, h5⟩ => ⟨t.length - (pos + 1), by omega, k', pos + 1, rfl, h4, by rw [h5]; exact b1, by rw [h5]; exact b2, ?_, by omega⟩, ?_⟩)⟩
        · rw [← b4]
          conv => rhs; unfold rd
          rw [if_neg hab]
        · refine ⟨_, rfl, _, rfl, mk u, _, a, rfl, rfl, by rw [mk_len]; exact sz_of (by omega), atu, _, rfl, _, rfl, mk t, _, b, rfl, rfl, by rw [mk_len]; exact sz_of (by omega), att, rfl, false, by rw [decide_eq_false (sign_ne hab)], iteF ?_⟩
          exact ⟨_, rfl, _, 1, rfl, rfl, rfl, rfl⟩
    · obtain ⟨l0, k', pos, y7, rfl, a1, a2, a3, a4, a5⟩ := hp
      rw [hz, List.drop_of_length_le (Nat.le_refl _), rd_nil, List.append_nil] at a4
      -- return tuple(places)
      refine ⟨_, rfl, .inl ⟨pl, _, rfl, .inl (.inl a2), fun z nz => ?_⟩⟩
      refine q _ z ((e1.trans a1).trans (Ex.new nz)) (fresh_back (e1.trans a1) nz) ?_
      rw [upd_same, a4]
end
end K01
set_option Elab.async false
set_option linter.all false
set_option maxRecDepth 100000
set_option maxHeartbeats 4000000
namespace K01
open PySem PySem.Spec PyProof.Rows L2 Evl Bx
open Nx Rx
/-- for i in range(a, b) -/
theorem forRg2 {σ : L2.St} {H : Hp} {D : Ends} {tu : TS} {ta : TA} {j : Nat} {a b : Nat} (h : EvA ta σ H [.int (a : Nat), .int (b : Nat)]) (ha : a ≤ b) (hb : b ≤ 100000) (Pv : Nat → L2.St → Hp → Prop) (h0 : ∀ H1, Ex H H1 → Pv 0 σ H1)
    (hs : ∀ i σ' H', a + i < b → Pv i σ' H' → tu { D with nx := Pv (i + 1), ct := Pv (i + 1), bk := D.nx } (σ'.set j (some (.int ((a + i : Nat) : Int)))) H')
    (hd : ∀ σ' H', Pv (b - a) σ' H' → D.nx σ' H') : tFor (iRng2 ta) (gName j) tu D σ H :=
  h H (Ex.refl H) _ fun H1 e => ⟨_, _, rfl, ⟨by omega, by omega, by omega, by omega⟩, by
    have ez : (((b : Nat) : Int) - ((a : Nat) : Int)).toNat = b - a := by omega
    rw [ez]
    refine for_range (lo := ((a : Nat) : Int)) (n := b - a) Pv (h0 H1 e) (fun i σ' H' hi p => ?_) hd
    have ei : ((a : Nat) : Int) + ((i : Nat) : Int) = ((a + i : Nat) : Int) := by omega
    rw [ei]
    exact hs i σ' H' (by omega) p⟩
section
variable {P : Program} {w : World} {K : PySem.W.Frag} {mg : Str → Option Value} {base : Heap}
def sp_number (K : PySem.W.Frag) : Sp := fun vs H Q _ => ∃ (u t l : List Nat) (a : Addr), vs = [tx u, tx t, .ref a] ∧ Low u ∧ Low t ∧ u.length ≤ 1000 ∧ t.length ≤ 1000 ∧ H a = some (.tup (plc l)) ∧ isr t 0 u l ∧ ∀ H', Ex H H' → Q (.int (num t 0 u l : Nat)) H'
theorem ok_reading_number (T : Tx K mg) : FnOk P w K mg base CX0 3 T.a_reading_number T.fd_reading_number ["word", "text", "places"] (sp_number K) := by
  refine T.F_reading_number.ok sc_reading_number (fun vs H Q E h => ?_) (fun cdv A outer s H vs Q E hr h => ?_)
  · obtain ⟨_, _, _, _, rfl, _⟩ := h
    rfl
  · obtain ⟨u, t, l, a, rfl, hu, ht, lu, lt, hA, hi, q⟩ := h
    refine ⟨_, (pss_cons (ps_expr (pe_call (ok_need_word T) (hr.mono (by decide)) (by rfl) T.g_need_word T.F_need_word.kp (b_need_word T) .nil pass0 (pa_cons (pv 0) pa_nil))) (pss_cons (ps_expr (pe_call (ok_need_text T) (hr.mono (by decide)) (by rfl) T.g_need_text T.F_need_text.kp (b_need_text T) .nil pass0 (pa_cons (pv 1) pa_nil))) (pss_cons (ps_if (pt_not (pt_val (pe_call (ok__reads T) (hr.mono (by decide)) (by rfl) T.g__reads T.F__reads.kp (b__reads T) .nil pass0 (pa_cons (pv 0) (pa_cons (pv 1) (pa_cons (pv 2) pa_nil)))))) (pss_one ps_never) pss_nil) (pss_cons (ps_set (i := 3) sc_reading_number.nd rfl (by first | exact Or.inl rfl | exact Or.inr rfl) (pe_call (ok__end_counts T) (hr.mono (by decide)) (by rfl) T.g__end_counts T.F__end_counts.kp (b__end_counts T) .nil pass0 (pa_cons (pv 0) (pa_cons (pv 1) pa_nil)))) (pss_cons (ps_set (i := 4) sc_reading_number.nd rfl (by first | exact Or.inl rfl | exact Or.inr rfl) pe_int) (pss_cons (ps_set (i := 5) sc_reading_number.nd rfl (by first | exact Or.inl rfl | exact Or.inr rfl) pe_int) (pss_cons (ps_for PassesOwn.never rfl (Rx.pi_enumT (by rfl) T.n_enumerate (pa_cons (pv 2) pa_nil)) (pg_tup (by rfl) (pgs_cons (pg_name (i := 6) sc_reading_number.nd rfl (by first | exact Or.inl rfl | exact Or.inr rfl)) (pgs_cons (pg_name (i := 7) sc_reading_number.nd rfl (by first | exact Or.inl rfl | exact Or.inr rfl)) pgs_nil))) (pss_cons (ps_for PassesOwn.never rfl (pi_range2 (by rfl) T.n_range (pa_cons (pv 5) (pa_cons (pv 7) pa_nil))) (pg_name (i := 8) sc_reading_number.nd rfl (by first | exact Or.inl rfl | exact Or.inr rfl)) (pss_one (ps_if (pt_cmpR op_eq (pe_ix ix_str (pv 1) (pv 8) (fun _ _ => rfl)) (pe_ix ix_str (pv 0) (pv 6) (fun _ _ => rfl)) (nomark _)) (pss_one (ps_set (i := 4) sc_reading_number.nd rfl (by first | exact Or.inl rfl | exact Or.inr rfl) (pe_op op_add (pv 4) (pe_ix ix_list (pe_ix ix_list (pv 3) (pe_op op_add (pv 6) pe_int) (fun _ _ => rfl)) (pe_op op_add (pv 8) pe_int) (fun _ _ => rfl))))) pss_nil))) (pss_one (ps_set (i := 5) sc_reading_number.nd rfl (by first | exact Or.inl rfl | exact Or.inr rfl) (pe_op op_add (pv 7) pe_int))))) (pss_one (ps_ret (pv 4)))))))))), ?_⟩
    have hl := isr_len hi
    refine ⟨_, rfl, u, rfl, hu, _, rfl, t, rfl, ht, _, rfl, _, rfl, _, rfl, u, t, l, a, rfl, lu, lt, hA, hi, fun H0 x0 => ⟨true, rfl, iteF ?_⟩⟩
    refine ⟨_, rfl, _, rfl, u, t, rfl, lu, lt, fun H1 p e1 n1 g => ?_⟩
    have hA1 : H1 a = some (.tup (plc l)) := e1 _ _ (x0 _ _ hA)
    -- for at, place in enumerate(places)
    dsimp only [tSeq, tAsg, tC, gName]
    refine forEnumT (l := l) (fun H2 e2 Q' q' => ⟨_, rfl, q' H2 (Ex.refl _)⟩) hA1 (fun i σ' H' => ∃ (fd lo : Nat) (y6 y7 y8 : Option V), σ' = [some (tx u), some (tx t), some (.ref a), some (.ref p), some (.int (fd : Nat)), some (.int (lo : Nat)), y6, y7, y8] ∧ Ex H1 H' ∧ fd + num t lo (u.drop i) (l.drop i) = num t 0 u l ∧ ∀ q, l[i]? = some q → lo ≤ q)
      (fun H2 e2 => ⟨0, 0, _, _, _, rfl, e2, by rw [List.drop_zero, List.drop_zero, Nat.zero_add], fun q _ => Nat.zero_le _⟩)
      (fun i σ' H' ⟨_, _, _, _, _, _, e, _⟩ => e) (fun i σ' H' H2 e ⟨fd, lo, y6, y7, y8, h1, h2, h3⟩ => ⟨fd, lo, y6, y7, y8, h1, h2.trans e, h3⟩) (fun i pq σ' H' hp ⟨fd, lo, y6, y7, y8, h1, h2, h3, h4⟩ => ?_) (fun σ' H' ⟨fd, lo, y6, y7, y8, h1, h2, h3, h4⟩ => ?_)
    · subst h1
      have hil : i < l.length := (List.getElem?_eq_some_iff.mp hp).1
      have hiu : i < u.length := by omega
      obtain ⟨_, hpt, hpc⟩ := isr_at hi hp
      have hlo := h4 pq hp
      have ud : u.drop i = u[i] :: u.drop (i + 1) := List.drop_eq_getElem_cons hiu
      have atu : atI (mk u).cps.toList (i : Nat) = some u[i] := atI_nat (by rw [mk_list]; exact List.getElem?_eq_getElem hiu)
      have ld : l.drop i = pq :: l.drop (i + 1) := by
        rw [List.drop_eq_getElem_cons hil]
        rw [List.getElem?_eq_getElem hil] at hp
        rw [Option.some.inj hp]
      generalize u[i] = c at ud atu
      rw [ud, ld] at h3
      have h3' : fd + (gap t c (u.drop (i + 1)) lo (pq - lo) + num t (pq + 1) (u.drop (i + 1)) (l.drop (i + 1))) = num t 0 u l := h3
      obtain ⟨qs1, q1, f1, f2, f3⟩ := g.get (i := i + 1) (by omega)
      have ei1 : ((i : Nat) : Int) + 1 = ((i + 1 : Nat) : Int) := by omega
      -- for lower in range(start, place)
      dsimp only [tSeq, tAsg, tC, gName]
      refine forRg2 (a := lo) (b := pq) (fun H2 e2 Q' q' => ⟨_, rfl, _, rfl, q' H2 (Ex.refl _)⟩) hlo (by omega) (fun j σ2 H2 => ∃ (y8 : Option V), σ2 = [some (tx u), some (tx t), some (.ref a), some (.ref p), some (.int ((fd + gap t c (u.drop (i + 1)) lo j : Nat) : Int)), some (.int (lo : Nat)), some (.int (i : Nat)), some (.int (pq : Nat)), y8] ∧ Ex H1 H2)
        (fun H2 e2 => ⟨_, rfl, h2.trans e2⟩) (fun j σ2 H2 hj ⟨y8, g1, g2⟩ => ?_) (fun σ2 H2 ⟨y8, g1, g2⟩ => ?_)
      · subst g1
        have hjt : lo + j < t.length := by omega
        have att : atI (mk t).cps.toList ((lo + j : Nat) : Int) = some t[lo + j] := atI_nat (by rw [mk_list]; exact List.getElem?_eq_getElem hjt)
        have gl := gap_last t c (u.drop (i + 1)) lo j
        rw [List.getElem?_eq_getElem hjt] at gl
        generalize t[lo + j] = b at att gl
        refine ⟨_, rfl, _, rfl, mk t, _, b, rfl, rfl, by rw [mk_len]; exact sz_of (by omega), att, _, rfl, _, rfl, mk u, _, c, rfl, rfl, by rw [mk_len]; exact sz_of (by omega), atu, rfl, _, rfl, ?_⟩
        refine ite2 (fun h => ?_) (fun h => ?_)
        · have h1 : b = c := by
            have := (tx_inj (l := [b]) (m := [c])).mp (of_decide_eq_true h)
            simpa using this
          rw [if_pos (by rw [h1])] at gl
          have getc : atI ((er (u.drop (i + 1)) t).map V.int) (((lo + j : Nat) : Int) + 1) = some (V.int ((Mx.cnt (u.drop (i + 1)) (t.drop (lo + j + 1)) : Nat) : Int)) := er_get _ _ (j := lo + j + 1) (by omega)
          refine ⟨_, rfl, _, rfl, _, rfl, _, 1, rfl, rfl, p, _, _, .ref q1, rfl, rfl, .inl (.inl (g2 _ _ f1)), by rw [ei1]; exact f2, _, rfl, _, 1, rfl, rfl, q1, _, _, _, rfl, rfl, .inl (.inl (g2 _ _ f3)), getc, _, _, rfl, rfl, some (.int ((lo + j : Nat) : Int)), ?_, g2⟩
          rw [gl, ← Nat.add_assoc]
          rfl
        · have h1 : ¬ some b = some c := fun z => h (decide_eq_true (by rw [Option.some.inj z]))
          rw [if_neg h1] at gl
          exact ⟨some (.int ((lo + j : Nat) : Int)), by rw [gl]; rfl, g2⟩
      · subst g1
        refine ⟨_, rfl, _, 1, rfl, rfl, fd + gap t c (u.drop (i + 1)) lo (pq - lo), pq + 1, _, _, _, rfl, g2, by omega, fun q' hq' => isr_next hi hp hq'⟩
    · subst h1
      rw [List.drop_of_length_le (Nat.le_of_eq (show l.length = l.length from rfl)), num_nil] at h3
      refine ⟨_, rfl, ?_⟩
      have e : fd = num t 0 u l := by omega
      rw [e]
      exact q H' ((x0.trans e1).trans h2)
end
end K01
set_option Elab.async false
set_option linter.all false
set_option maxRecDepth 100000
set_option maxHeartbeats 4000000
namespace Bx
open PySem PySem.Spec PyProof.Rows L2 Evl PySem.StrLaws
theorem occ_full (s sub : Str) (hi : Nat) : ∀ (l : List Nat) (st : Array Nat × Nat), 1 ≤ st.fst.size → (forIn l st (occBody s sub hi 1)).run.fst = st.fst
  | [], st, _ => rfl
  | a :: l, st, h => by
    rw [List.forIn_cons]
    unfold occBody
    rw [if_neg (fun z => by
      have := z.1.1.1
      omega)]
    exact occ_full s sub hi l _ h
theorem occ_hit (s sub : Str) (hi k : Nat) (post : List Nat) (hk : k + sub.length ≤ hi ∧ Builtin.Str.subAt s sub k = true) : ∀ (pre : List Nat) (free : Nat), (∀ i ∈ pre ++ k :: post, free ≤ i) →
    (∀ i ∈ pre, ¬ (i + sub.length ≤ hi ∧ Builtin.Str.subAt s sub i = true)) → (forIn (pre ++ k :: post) ((#[] : Array Nat), free) (occBody s sub hi 1)).run.fst = #[k]
  | [], free, hf, _ => by
    rw [List.nil_append, List.forIn_cons]
    unfold occBody
    rw [if_pos ⟨⟨⟨by simp, hf k (by simp)⟩, hk.1⟩, hk.2⟩]
    exact occ_full s sub hi post _ (by simp)
  | a :: pre, free, hf, hn => by
    rw [List.cons_append, List.forIn_cons]
    unfold occBody
    rw [if_neg (fun z => hn a (by simp) ⟨z.1.2, z.2⟩)]
    exact occ_hit s sub hi k post hk pre free (fun i hi' => hf i (by rw [List.cons_append]; exact List.mem_cons_of_mem _ hi')) fun i hi' => hn i (List.mem_cons_of_mem _ hi')
/-- where a letter stands first -/
theorem index_one {L : List Nat} {c k : Nat} (hk : L[k]? = some c) (hn : ∀ j, j < k → L[j]? ≠ some c) : Builtin.Str.occurrences (mk L) (mk [c]) 0 (mk L).length 1 = [k] := by
  rw [occ_eq]
  have lt : k < L.length := (List.getElem?_eq_some_iff.mp hk).1
  have e : List.range' 0 ((mk L).length + 1 - 0) = List.range' 0 k ++ k :: List.range' (k + 1) (L.length - k) := by
    rw [mk_len, Nat.sub_zero]
    have e1 : L.length + 1 = k + (1 + (L.length - k)) := by omega
    rw [e1, ← List.range'_append_1, Nat.zero_add, Nat.add_comm 1, List.range'_succ]
  rw [e, occ_hit (mk L) (mk [c]) (mk L).length k _ ((subAt_one (mk L) c k).mpr hk) _ 0 (fun _ _ => Nat.zero_le _) fun i hi z => ?_]
  have := (subAt_one (mk L) c i).mp z
  refine hn i ?_ this
  have := List.mem_range'_1.mp hi
  omega
theorem lower_low {l : List Nat} (h : Low l) : Txt.lower (mk l) = mk l := by
  rw [lower_ascii fun c hc => by
    have := h c hc
    omega]
  have e : (mk l).cps.map lo1 = (mk l).cps := by
    apply Array.ext'
    rw [Array.toList_map]
    show l.map lo1 = l
    conv => rhs; rw [← List.map_id l]
    apply List.map_congr_left
    intro c hc
    have := h c hc
    unfold lo1
    rw [if_neg (by omega)]
    rfl
  rw [e]
end Bx
set_option Elab.async false
set_option linter.all false
set_option maxRecDepth 100000
set_option maxHeartbeats 4000000
namespace Bx
open PySem PySem.Spec PyProof.Rows L2 Evl
theorem joinL_nil : ∀ ps : List (List Nat), TL.joinL [] ps = ps.flatten
  | [] => rfl
  | [p] => by simp [TL.joinL]
  | p :: q :: r => by
    show p ++ ([] ++ TL.joinL [] (q :: r)) = _
    rw [joinL_nil (q :: r)]
    rfl
theorem join_mk (ps : List (List Nat)) : Txt.join (mk []) (ps.map mk) = mk ps.flatten := by
  rw [TL.join_eq]
  have h := TL.tl_join (mk []) (ps.map mk)
  rw [List.map_map] at h
  have e : (ps.map (TL.tl ∘ mk)) = ps := by
    conv => rhs; rw [← List.map_id ps]
    exact List.map_congr_left fun _ _ => rfl
  rw [e] at h
  have h2 : TL.tl (Str.join (mk []) (ps.map mk)) = ps.flatten := by
    rw [h]
    exact joinL_nil ps
  rw [mk_eq (Str.join (mk []) (ps.map mk))]
  exact congrArg mk h2
theorem sing_flat (t : List Nat) : (t.map fun c => [c]).flatten = t := by
  induction t with
  | nil => rfl
  | cons c t ih => simp only [List.map_cons, List.flatten_cons, ih]; rfl
theorem join_signs (t : List Nat) : Txt.join (mk []) (t.map fun c => mk [c]) = mk t := by
  have h := join_mk (t.map fun c => [c])
  rw [List.map_map, sing_flat] at h
  exact h
theorem len_signs (t : List Nat) : ((t.map fun c => mk [c]).map (·.length)).sum = t.length := by
  induction t with
  | nil => rfl
  | cons c t ih =>
    simp only [List.map_cons, List.sum_cons, List.length_cons, ih]
    rw [mk_len]
    simp
    omega
/-! ### the draws of a law -/
/-- a generator's list: what is left of a great seed, the small one, the number of draws, at most n -/
def Gen (H : Hp) (g : Addr) (n : Nat) : Prop := ∃ b s c : Int, H g = some (.lst [.int b, .int s, .int c]) ∧ 0 ≤ b ∧ b < 2 ^ 3000 ∧ 0 ≤ s ∧ s < 2147483647 ∧ 0 ≤ c ∧ c ≤ n
theorem Gen.ex {H H' : Hp} {g : Addr} {n : Nat} (h : Gen H g n) (e : Ex H H') : Gen H' g n := let ⟨b, s, c, h1, r⟩ := h; ⟨b, s, c, e _ _ h1, r⟩
theorem Gen.up {H : Hp} {g : Addr} {n m : Nat} (h : Gen H g n) (e : n ≤ m) : Gen H g m := let ⟨b, s, c, h1, h2, h3, h4, h5, h6, h7⟩ := h; ⟨b, s, c, h1, h2, h3, h4, h5, h6, by omega⟩
theorem Gen.there {H : Hp} {g : Addr} {n : Nat} (h : Gen H g n) : H g ≠ none := fun e => by
  obtain ⟨b, s, c, h1, _⟩ := h
  rw [h1] at e
  cases e
theorem Gen.ne {H : Hp} {g p : Addr} {n : Nat} (h : Gen H g n) (e : H p = none) : g ≠ p := fun z => h.there (by rw [z]; exact e)
theorem Gen.oth {H : Hp} {g p : Addr} {n : Nat} {o : HO} (h : Gen H g n) (e : g ≠ p) : Gen (upd H p o) g n := let ⟨b, s, c, h1, r⟩ := h; ⟨b, s, c, by rw [upd_ne e]; exact h1, r⟩
theorem bits_le {i : Int} {n : Nat} (h0 : 0 < n) (h : i.natAbs < 2 ^ n) : Builtin.Int.intBits i ≤ n := by
  unfold Builtin.Int.intBits
  split
  · omega
  · have := PySem.Flt.log2_lt_of h0 h
    omega
theorem mid_abs {i : Int} (h : i.natAbs < 2 ^ 200) : i.natAbs < 2 ^ 9000 := Nat.lt_of_lt_of_le h (Nat.pow_le_pow_right (by decide) (by decide))
theorem Xg.ne {g : Addr} {H H' : Hp} {p : Addr} {o : HO} (e : Xg g H H') (h : H p = some o) (n : p ≠ g) : H' p = some o := e p o n h
theorem Xg.mut {g : Addr} {H H' : Hp} {p : Addr} {o : HO} (e : Xg g H H') (h : H p = none) : Xg g H (L2.upd H' p o) := fun a u n ha => by
  rw [upd_ne (ne_of_none ha h)]
  exact e a u n ha
theorem Xg.ex {g : Addr} {H H1 H2 : Hp} (a : Xg g H H1) (b : Ex H1 H2) : Xg g H H2 := a.trans (Xg.of b)
end Bx
set_option Elab.async false
set_option linter.all false
set_option maxRecDepth 100000
set_option maxHeartbeats 4000000
namespace K01
open PySem PySem.Spec PyProof.Rows L2 Evl Bx
section
variable {P : Program} {w : World} {K : PySem.W.Frag} {mg : Str → Option Value} {base : Heap}
/-! ### draws -/
def sp__law_hash (K : PySem.W.Frag) : Sp := fun vs H Q _ => ∃ s i : Int, vs = [.int s, .int i] ∧ 0 ≤ s ∧ s < 2147483647 ∧ 0 ≤ i ∧ i ≤ 2 ^ 60 ∧ ∀ r : Int, 0 ≤ r → r < 2147483647 → Q (.int r) H
theorem ok__law_hash (T : Tx K mg) : FnOk P w K mg base CX0 1 T.a__law_hash T.fd__law_hash ["_law_seed", "_law_index"] (sp__law_hash K) := by
  refine T.F__law_hash.ok sc__law_hash (fun vs H Q E h => ?_) (fun cdv A outer s H vs Q E hr h => ?_)
  · obtain ⟨_, _, rfl, _⟩ := h
    rfl
  · obtain ⟨s0, i, rfl, s1, s2, i1, i2, q⟩ := h
    refine ⟨_, (pss_cons (ps_set (i := 2) sc__law_hash.nd rfl (by first | exact Or.inl rfl | exact Or.inr rfl) (pe_op op_mod (pe_callTy call_int1 (by rfl) T.n_int (by decide +kernel) (pa_cons (pe_op op_add (pe_op op_add (pe_op op_add (pe_op op_mulW (pv 0) pe_int) (pe_op op_mulW (pe_op op_mulW pe_int (pv 1)) (pv 1))) (pe_op op_mulW pe_int (pv 1))) pe_int) pa_nil)) pe_int)) (pss_cons (ps_set (i := 2) sc__law_hash.nd rfl (by first | exact Or.inl rfl | exact Or.inr rfl) (pe_op op_mod (pe_callTy call_int1 (by rfl) T.n_int (by decide +kernel) (pa_cons (pe_op op_add (pe_op op_add (pe_op op_mulW (pv 2) (pv 2)) (pe_op op_mulW pe_int (pv 1))) pe_int) pa_nil)) pe_int)) (pss_one (ps_ret (pe_op op_mod (pe_callTy call_int1 (by rfl) T.n_int (by decide +kernel) (pa_cons (pe_op op_mulW (pv 2) pe_int) pa_nil)) pe_int))))), ?_⟩
    refine ⟨_, rfl, _, _, rfl, rfl, mul_ok (small_abs (by omega)) (small_abs (by decide)), _, rfl, _, _, rfl, rfl, mul_ok (small_abs (by decide)) (small_abs (by omega)), _, rfl, _, _, rfl, rfl, mul_ok (mid_abs (by omega)) (small_abs (by omega)), _, _, rfl, rfl, _, rfl, _, _, rfl, rfl, mul_ok (small_abs (by decide)) (small_abs (by omega)), _, _, rfl, rfl, _, _, rfl, rfl, .inl ⟨_, rfl, ?_⟩⟩
    refine ⟨_, _, rfl, rfl, (by show (0 : Int) < 2147483629; decide), ?_⟩
    generalize hx : (s0 * 1140671 + 27644437 * i * i + 131 * i + 19 : Int) % 2147483629 = x
    have x1 : 0 ≤ x := by rw [← hx]; exact Int.emod_nonneg _ (by decide)
    have x2 : x < 2147483629 := by rw [← hx]; exact Int.emod_lt_of_pos _ (by decide)
    refine ⟨_, rfl, _, rfl, _, _, rfl, rfl, mul_ok (small_abs (by omega)) (small_abs (by omega)), _, rfl, _, _, rfl, rfl, mul_ok (small_abs (by decide)) (small_abs (by omega)), _, _, rfl, rfl, _, _, rfl, rfl, .inl ⟨_, rfl, ?_⟩⟩
    refine ⟨_, _, rfl, rfl, (by show (0 : Int) < 2147483587; decide), ?_⟩
    generalize hy : (x * x + 62089 * i + 32416187 : Int) % 2147483587 = y
    have y1 : 0 ≤ y := by rw [← hy]; exact Int.emod_nonneg _ (by decide)
    have y2 : y < 2147483587 := by rw [← hy]; exact Int.emod_lt_of_pos _ (by decide)
    refine ⟨_, rfl, _, _, rfl, rfl, mul_ok (small_abs (by omega)) (small_abs (by decide)), .inl ⟨_, rfl, ?_⟩⟩
    refine ⟨_, _, rfl, rfl, (by show (0 : Int) < 2147483647; decide), ?_⟩
    exact q _ (Int.emod_nonneg _ (by decide)) (Int.emod_lt_of_pos _ (by decide))
end
end K01
set_option Elab.async false
set_option linter.all false
set_option maxRecDepth 100000
set_option maxHeartbeats 4000000
namespace K01
open PySem PySem.Spec PyProof.Rows L2 Evl Bx
section
variable {P : Program} {w : World} {K : PySem.W.Frag} {mg : Str → Option Value} {base : Heap}
def sp__law_random (K : PySem.W.Frag) : Sp := fun vs H Q _ => ∃ (g : Addr) (bd : Int) (n : Nat), vs = [.ref g, .int bd] ∧ 0 < bd ∧ bd < 2 ^ 200 ∧ Gen H g n ∧ n ≤ 2 ^ 50 ∧
  ∀ (r : Int) H', 0 ≤ r → r < bd → Xg g H H' → Gen H' g (n + 10) → Q (.int r) H'
theorem grow_lt (i : Nat) (hi : i ≤ 20) : (2 : Nat) ^ (32 * i) < 2 ^ 9000 := Nat.pow_lt_pow_right (by decide) (by omega)
theorem ok__law_random (T : Tx K mg) : FnOk P w K mg base CX0 2 T.a__law_random T.fd__law_random ["_law_generator_here", "_law_bound"] (sp__law_random K) := by
  refine T.F__law_random.ok sc__law_random (fun vs H Q E h => ?_) (fun cdv A outer s H vs Q E hr h => ?_)
  · obtain ⟨_, _, _, rfl, _⟩ := h
    rfl
  · obtain ⟨g, bd, n, rfl, b1, b2, ⟨b, s0, c, hg, g1, g2, g3, g4, g5, g6⟩, n50, q⟩ := h
    refine ⟨_, (pss_cons (ps_if (pt_cmpR op_gt (pe_ix ix_list (pv 0) pe_int (fun _ _ => rfl)) pe_int (nomark _)) (pss_cons (ps_set (i := 2) sc__law_random.nd rfl (by first | exact Or.inl rfl | exact Or.inr rfl) (pe_op op_mod (pe_callTy call_int1 (by rfl) T.n_int (by decide +kernel) (pa_cons (pe_ix ix_list (pv 0) pe_int (fun _ _ => rfl)) pa_nil)) (pv 1))) (pss_cons (ps_asg (pe_op op_fdivW (pe_ix ix_list (pv 0) pe_int (fun _ _ => rfl)) (pv 1)) (pg_sub (pv 0) pe_int set_list)) (pss_one (ps_ret (pv 2))))) pss_nil) (pss_cons (ps_set (i := 2) sc__law_random.nd rfl (by first | exact Or.inl rfl | exact Or.inr rfl) pe_int) (pss_cons (ps_for PassesOwn.never rfl (pi_range1 (by rfl) T.n_range (pa_cons (pe_op op_add pe_int (pe_op op_fdivW (pe_bits (pv 1)) pe_int)) pa_nil)) (pg_name (i := 3) sc__law_random.nd rfl (by first | exact Or.inl rfl | exact Or.inr rfl)) (pss_cons (ps_asg (pe_op op_add (pe_ix ix_list (pv 0) pe_int (fun _ _ => rfl)) pe_int) (pg_sub (pv 0) pe_int set_list)) (pss_one (ps_set (i := 2) sc__law_random.nd rfl (by first | exact Or.inl rfl | exact Or.inr rfl) (pe_op op_add (pe_op op_mulW (pv 2) pe_int) (pe_call (ok__law_hash T) (hr.mono (by decide)) (by rfl) T.g__law_hash T.F__law_hash.kp (b__law_hash T) .nil pass0 (pa_cons (pe_ix ix_list (pv 0) pe_int (fun _ _ => rfl)) (pa_cons (pe_ix ix_list (pv 0) pe_int (fun _ _ => rfl)) pa_nil)))))))) (pss_one (ps_ret (pe_op op_mod (pe_callTy call_int1 (by rfl) T.n_int (by decide +kernel) (pa_cons (pv 2) pa_nil)) (pv 1))))))), ?_⟩
    refine ⟨_, rfl, g, _, _, .int b, rfl, rfl, .inl (.inl hg), atI_nat (j := 0) rfl, _, 0, rfl, rfl, _, rfl, ite2 (fun h => ?_) (fun h => ?_)⟩
    · -- a great seed is left
      refine ⟨_, rfl, g, _, _, .int b, rfl, rfl, .inl (.inl hg), atI_nat (j := 0) rfl, .inl ⟨_, rfl, ?_⟩⟩
      refine ⟨_, rfl, _, _, rfl, rfl, b1, ?_⟩
      refine ⟨_, rfl, g, _, _, .int b, rfl, rfl, .inl (.inl hg), atI_nat (j := 0) rfl, _, rfl, _, _, rfl, rfl, wide_div b1 (b := 200) (by omega) (by decide) (by decide), ?_⟩
      refine ⟨_, rfl, g, _, _, 0, rfl, rfl, hg, ixN_nat (j := 0) (by simp), ?_⟩
      refine ⟨_, rfl, q _ _ (Int.emod_nonneg _ (by omega)) (Int.emod_lt_of_pos _ b1) (Xg.refl g H).upd ⟨b / bd, s0, c, upd_same, Int.ediv_nonneg g1 (by omega), ?_, g3, g4, g5, by omega⟩⟩
      exact Int.lt_of_le_of_lt (Int.ediv_le_self _ g1) g2
    · -- the hash
      have hb := bits_le (i := bd) (n := 200) (by decide) (by omega)
      refine ⟨_, rfl, _, rfl, _, _, rfl, rfl, ⟨by decide, by decide⟩, _, _, rfl, rfl, ?_⟩
      have hd : ((Builtin.Int.intBits bd : Nat) : Int) / 30 ≤ 6 := by omega
      have hd0 : 0 ≤ ((Builtin.Int.intBits bd : Nat) : Int) / 30 := by omega
      refine ⟨_, rfl, by omega, by omega, ?_⟩
      have hm : (1 + ((Builtin.Int.intBits bd : Nat) : Int) / 30).toNat ≤ 7 := by omega
      generalize (1 + ((Builtin.Int.intBits bd : Nat) : Int) / 30).toNat = m at hm
      refine for_range (lo := 0) (n := m) (fun i σ H2 => ∃ (dr : Int) (y3 : Option V), σ = [some (.ref g), some (.int bd), some (.int dr), y3] ∧ 0 ≤ dr ∧ dr < 2 ^ (32 * i) ∧ Xg g H H2 ∧ ∃ c2 : Int, H2 g = some (.lst [.int b, .int s0, .int c2]) ∧ 0 ≤ c2 ∧ c2 ≤ n + i) ⟨0, none, rfl, by decide, by decide, Xg.refl g H, c, hg, g5, by omega⟩ (fun i σ H2 hi hp => ?_) (fun σ H2 hp => ?_)
      · obtain ⟨dr, y3, rfl, d0, d1, xg, c2, hg2, c20, c21⟩ := hp
        refine ⟨_, rfl, g, _, _, .int c2, rfl, rfl, .inl (.inl hg2), atI_nat (j := 2) rfl, _, _, rfl, rfl, ?_⟩
        refine ⟨_, rfl, g, _, _, 2, rfl, rfl, hg2, ixN_nat (j := 2) (by simp), ?_⟩
        have hg3 : upd H2 g (.lst [.int b, .int s0, .int (c2 + 1)]) g = some (.lst [.int b, .int s0, .int (c2 + 1)]) := upd_same
        have xg3 : Xg g H (upd H2 g (.lst [.int b, .int s0, .int (c2 + 1)])) := xg.upd
        show _
        have dn : dr.natAbs < 2 ^ 9000 := Nat.lt_of_lt_of_le (m := 2 ^ (32 * i)) (by
          have e : ((2 ^ (32 * i) : Nat) : Int) = (2 : Int) ^ (32 * i) := by rw [Int.natCast_pow]; rfl
          have : (dr.natAbs : Int) < ((2 ^ (32 * i) : Nat) : Int) := by rw [e, Int.natAbs_of_nonneg d0]; exact d1
          omega) (Nat.le_of_lt (grow_lt i (by omega)))
        refine ⟨_, rfl, _, _, rfl, rfl, mul_ok dn (small_abs (by decide)), _, rfl, g, _, _, .int s0, rfl, rfl, .inl (.inl hg3), atI_nat (j := 1) rfl, _, rfl, g, _, _, .int (c2 + 1), rfl, rfl, .inl (.inl hg3), atI_nat (j := 2) rfl, s0, c2 + 1, rfl, g3, g4, by omega, by omega, fun r r1 r2 => ?_⟩
        refine ⟨_, _, rfl, rfl, dr * 2147483587 + r, some (.int (0 + (i : Int))), rfl, ?_, ?_, xg3, c2 + 1, hg3, by omega, by omega⟩
        · have : 0 ≤ dr * 2147483587 := Int.mul_nonneg d0 (by decide)
          omega
        · have e : (2 : Int) ^ (32 * (i + 1)) = 2 ^ (32 * i) * 4294967296 := by
            rw [Nat.mul_add, Int.pow_add]
            rfl
          rw [e]
          generalize (2 : Int) ^ (32 * i) = z at d1 ⊢
          omega
      · obtain ⟨dr, y3, rfl, d0, d1, xg, c2, hg2, c20, c21⟩ := hp
        refine ⟨_, rfl, .inl ⟨_, rfl, ?_⟩⟩
        exact ⟨_, rfl, _, _, rfl, rfl, b1, q _ _ (Int.emod_nonneg _ (by omega)) (Int.emod_lt_of_pos _ b1) xg ⟨b, s0, c2, hg2, g1, g2, g3, g4, c20, by omega⟩⟩
/-! ### cells, generators -/
def sp__law_cell (K : PySem.W.Frag) : Sp := fun vs H Q _ => ∃ (a : Addr) (ns : List Int) (k : Nat), vs = [.ref a, .int (k : Nat)] ∧ SqL K H a (ns.map V.int) ∧ k ≤ 1000 ∧ ∀ (v : Int) H', Ex H H' → Q (.int v) H'
theorem cut_ints (ns : List Int) (lo hi : Option Int) : cutV (ns.map V.int) lo hi = ((ns.drop (HT.sIx ns.length 0 lo)).take (HT.sIx ns.length ns.length hi - HT.sIx ns.length 0 lo)).map V.int := by
  unfold cutV
  rw [List.length_map, List.map_take, List.map_drop]
theorem ok__law_cell (T : Tx K mg) : FnOk P w K mg base CX0 1 T.a__law_cell T.fd__law_cell ["_law_script", "_law_index"] (sp__law_cell K) := by
  refine T.F__law_cell.ok sc__law_cell (fun vs H Q E h => ?_) (fun cdv A outer s H vs Q E hr h => ?_)
  · obtain ⟨_, _, _, rfl, _⟩ := h
    rfl
  · obtain ⟨a, ns, k, rfl, hs, k1, q⟩ := h
    refine ⟨_, (pss_cons (ps_if (pt_cmpR op_lt (pv 1) (pe_callB call_len_seq (by rfl) T.n_len (by decide +kernel) (pa_cons (pv 0) pa_nil)) (nomark _)) (pss_one (ps_ret (pe_ix ix_list (pv 0) (pv 1) (fun _ _ => rfl)))) pss_nil) (pss_one (ps_ret (pe_op op_mod (pe_callB (cr_sum rfl) (by rfl) T.n_sum (by decide +kernel) (pa_cons (pe_slice sl_list (pv 0) po_none (po_some pe_int)) pa_nil)) pe_int)))), ?_⟩
    refine ⟨_, rfl, _, rfl, a, _, rfl, .inl hs, _, _, rfl, rfl, _, rfl, ite2 (fun h => ?_) (fun h => ?_)⟩
    · have h1 := of_decide_eq_true h
      rw [List.length_map] at h1
      have lt : k < ns.length := by omega
      exact ⟨_, rfl, _, rfl, a, _, _, .int ns[k], rfl, rfl, hs, atI_nat (by rw [List.getElem?_map, List.getElem?_eq_getElem lt]; rfl), q _ H (Ex.refl H)⟩
    · refine ⟨_, rfl, 1, rfl, a, _, rfl, hs, fun p np => ?_⟩
      rw [cut_ints]
      refine ⟨p, _, rfl, .inl (.inl upd_same), _, _, rfl, rfl, (by show (0 : Int) < 1000003; decide), q _ _ (Ex.new np)⟩
def sp__law_generator (K : PySem.W.Frag) : Sp := fun vs H Q _ => ∃ (a : Addr) (ns : List Int) (k : Nat), vs = [.ref a, .int (k : Nat)] ∧ SqL K H a (ns.map V.int) ∧ k ≤ 1000 ∧ ∀ (g : Addr) H', Ex H H' → H g = none → Gen H' g (1000 * k) → Q (.ref g) H'
theorem great : ((10 : Int) ^ 60) ^ 10 < 2 ^ 3000 := by decide +kernel
theorem ok__law_generator (T : Tx K mg) : FnOk P w K mg base CX0 2 T.a__law_generator T.fd__law_generator ["_law_script", "_law_index"] (sp__law_generator K) := by
  refine T.F__law_generator.ok sc__law_generator (fun vs H Q E h => ?_) (fun cdv A outer s H vs Q E hr h => ?_)
  · obtain ⟨_, _, _, rfl, _⟩ := h
    rfl
  · obtain ⟨a, ns, k, rfl, hs, k1, q⟩ := h
    refine ⟨_, (pss_cons (ps_set (i := 2) sc__law_generator.nd rfl (by first | exact Or.inl rfl | exact Or.inr rfl) (pe_call (ok__law_cell T) (hr.mono (by decide)) (by rfl) T.g__law_cell T.F__law_cell.kp (b__law_cell T) .nil pass0 (pa_cons (pv 0) (pa_cons (pv 1) pa_nil)))) (pss_one (ps_ret (pe_lst (pa_cons (pe_op op_mod (pe_callTy call_int1 (by rfl) T.n_int (by decide +kernel) (pa_cons (pe_callB (call_max2 rfl) (by rfl) T.n_max (by decide +kernel) (pa_cons (pe_op op_sub (pv 2) (pe_op Rx.op_powB pe_int pe_int)) (pa_cons pe_int pa_nil))) pa_nil)) (pe_op Rx.op_powB (pe_op Rx.op_powB pe_int pe_int) pe_int)) (pa_cons (pe_op op_mod (pe_callTy call_int1 (by rfl) T.n_int (by decide +kernel) (pa_cons (pv 2) pa_nil)) pe_int) (pa_cons (pe_op op_mulW pe_int (pv 1)) pa_nil))))))), ?_⟩
    refine ⟨_, rfl, _, rfl, a, ns, k, rfl, hs, k1, fun v H1 e1 => ?_⟩
    refine ⟨_, rfl, _, _, rfl, rfl, ⟨by decide, by decide +kernel⟩, _, _, rfl, rfl, _, _, rfl, .inl ⟨_, rfl, ?_⟩⟩
    refine ⟨_, _, rfl, rfl, ⟨by decide, by decide +kernel⟩, _, _, rfl, rfl, ⟨by decide, by decide +kernel⟩, _, _, rfl, rfl, ?_, ?_⟩
    · show (0 : Int) < (10 ^ 60) ^ 10
      decide +kernel
    refine ⟨_, rfl, .inl ⟨_, rfl, _, _, rfl, rfl, (by show (0 : Int) < 2147483647; decide), _, rfl, _, _, rfl, rfl, mul_ok (small_abs (by decide)) (small_abs (by omega)), ?_⟩⟩
    refine ⟨by show 3 ≤ sizeLine; decide, fun p np => ?_⟩
    refine q p _ (e1.trans (Ex.new np)) (fresh_back e1 np) ⟨_, _, _, upd_same, ?_, ?_, ?_, ?_, by omega, by omega⟩
    · exact Int.emod_nonneg _ (by
        show ((10 : Int) ^ 60) ^ 10 ≠ 0
        decide +kernel)
    · refine Int.lt_trans (Int.emod_lt_of_pos _ ?_) great
      show (0 : Int) < (10 ^ 60) ^ 10
      decide +kernel
    · exact Int.emod_nonneg _ (by decide)
    · exact Int.emod_lt_of_pos _ (by decide)
end
end K01
set_option Elab.async false
set_option linter.all false
set_option maxRecDepth 100000
set_option maxHeartbeats 4000000
namespace K01
open PySem PySem.Spec PyProof.Rows L2 Evl Bx
section
variable {P : Program} {w : World} {K : PySem.W.Frag} {mg : Str → Option Value} {base : Heap}
/-! ### drawn texts -/
def sp__law_text (K : PySem.W.Frag) : Sp := fun vs H Q _ => ∃ (g : Addr) (L : List Nat) (m n : Nat), vs = [.ref g, tx L, .int (m : Nat)] ∧ 1 ≤ L.length ∧ L.length ≤ 1000 ∧ m ≤ 1000 ∧ Gen H g n ∧ n ≤ 2 ^ 40 ∧
  ∀ (t : List Nat) H', t.length = m → (∀ c ∈ t, c ∈ L) → Xg g H H' → Gen H' g (n + 10 * m) → Q (tx t) H'
theorem ok__law_text (T : Tx K mg) : FnOk P w K mg base CX0 3 T.a__law_text T.fd__law_text ["_law_generator_here", "_law_letters", "_law_size"] (sp__law_text K) := by
  refine T.F__law_text.ok sc__law_text (fun vs H Q E h => ?_) (fun cdv A outer s H vs Q E hr h => ?_)
  · obtain ⟨_, _, _, _, rfl, _⟩ := h
    rfl
  · obtain ⟨g, L, m, n, rfl, l1, l2, m1, gn, n1, q⟩ := h
    refine ⟨_, (pss_one (ps_ret (pe_join pe_str (pe_lc (own := [("_law_turn", 3)]) (g := (gName 3)) (tt := tYes) rfl sc__law_text.nd (pi_range1 (by rfl) T.n_range (pa_cons (pv 2) pa_nil)) (blkOk_by (own := [("_law_turn", 3)]) (N := N__law_text) (sc := defScope s__law_text) (by decide +kernel)) (fun _ _ _ _ _ => (pg_name (i := 3) sc__law_text.nd rfl (by first | exact Or.inl rfl | exact Or.inr rfl))) (fun _ _ _ _ _ => pts_nil) (fun _ _ _ _ _ => (pe_ix ix_str (pv 1) (pe_call (ok__law_random T) (hr.mono (by decide)) (by rfl) T.g__law_random T.F__law_random.kp (b__law_random T) .nil pass0 (pa_cons (pv 0) (pa_cons (pe_callB call_len_str (by rfl) T.n_len (by decide +kernel) (pa_cons (pv 1) pa_nil)) pa_nil))) (fun _ _ => rfl))))))), ?_⟩
    refine ⟨⟨_, rfl⟩, _, rfl, (m : Nat), rfl, by omega, by omega, fun D nD => ?_⟩
    rw [Int.toNat_natCast]
    have gD : g ≠ D := gn.ne nD
    refine lc_range (lo := 0) (n := m) (fun i H2 => ∃ t : List Nat, t.length = i ∧ (∀ c ∈ t, c ∈ L) ∧ Xg g H H2 ∧ Gen H2 g (n + 10 * i) ∧ H2 D = some (.lst ((t.map fun c => mk [c]).map V.str))) ⟨[], rfl, by simp, Xg.of (Ex.new nD), gn.oth gD, upd_same⟩ (fun i H2 hi hp => ?_) (fun H2 hp => ?_)
    · obtain ⟨t, tl, tm, xg, gn2, hD⟩ := hp
      refine ⟨rfl, ?_⟩
      refine ⟨_, rfl, _, rfl, _, rfl, mk L, rfl, by rw [mk_len]; exact sz_of (by omega), g, _, n + 10 * i, rfl, by rw [mk_len]; omega, by rw [mk_len]; omega, gn2, by omega, fun r H3 r0 r1 xg3 gn3 => ?_⟩
      rw [mk_len] at r1
      obtain ⟨k, rfl⟩ := Int.eq_ofNat_of_zero_le r0
      have rl : k < L.length := by omega
      refine ⟨mk L, _, L[k], rfl, rfl, by rw [mk_len]; exact sz_of (by omega), atI_nat (by rw [mk_list]; exact List.getElem?_eq_getElem rl), ?_⟩
      have hD3 := xg3 D _ gD.symm hD
      refine ⟨_, hD3, by rw [List.length_map, List.length_map, tl]; exact sz_lt (by omega), t ++ [L[k]], by rw [List.length_append, tl]; rfl, fun c hc => ?_, (xg.trans xg3).mut nD, ?_, ?_⟩
      · rcases List.mem_append.mp hc with e | e
        · exact tm c e
        · rw [List.mem_singleton] at e
          rw [e]
          exact List.getElem_mem rl
      · have e : n + 10 * (i + 1) = n + 10 * i + 10 := by omega
        rw [e]
        exact gn3.oth gD
      · rw [upd_same, List.map_append, List.map_append]
        rfl
    · obtain ⟨t, tl, tm, xg, gn2, hD⟩ := hp
      refine ⟨mk [], D, t.map fun c => mk [c], rfl, rfl, .inl (.inl (.inl hD)), ?_, ?_⟩
      · rw [Bx.len_signs, List.length_map, mk_len]
        simp
        omega
      · rw [join_signs]
        exact q t H2 tl tm xg gn2
def sp__law_alphabet (K : PySem.W.Frag) : Sp := fun vs H Q _ => ∃ (g : Addr) (m n : Nat), vs = [.ref g, .int (m : Nat)] ∧ 1 ≤ m ∧ m ≤ 4 ∧ Gen H g n ∧ n ≤ 2 ^ 40 ∧
  ∀ (L : List Nat) H', Alph L → m ≤ L.length → Xg g H H' → Gen H' g (n + 60) → Q (tx L) H'
def abc : List Nat := [97, 98, 99, 100, 101, 102, 103, 104, 105, 106, 107, 108, 109, 110, 111, 112, 113, 114, 115, 116, 117, 118, 119, 120, 121, 122]
theorem abc_at (k : Nat) (h : k < 26) : abc[k]? = some (97 + k) := by
  have : ∀ k, k < 26 → abc[k]? = some (97 + k) := by decide +kernel
  exact this k h
theorem ok__law_alphabet (T : Tx K mg) : FnOk P w K mg base CX0 3 T.a__law_alphabet T.fd__law_alphabet ["_law_generator_here", "_law_least"] (sp__law_alphabet K) := by
  refine T.F__law_alphabet.ok sc__law_alphabet (fun vs H Q E h => ?_) (fun cdv A outer s H vs Q E hr h => ?_)
  · obtain ⟨_, _, _, rfl, _⟩ := h
    rfl
  · obtain ⟨g, m, n, rfl, m1, m4, gn, n1, q⟩ := h
    refine ⟨_, (pss_cons (ps_set (i := 2) sc__law_alphabet.nd rfl (by first | exact Or.inl rfl | exact Or.inr rfl) (pe_op op_add (pv 1) (pe_call (ok__law_random T) (hr.mono (by decide)) (by rfl) T.g__law_random T.F__law_random.kp (b__law_random T) .nil pass0 (pa_cons (pv 0) (pa_cons (pe_op op_sub pe_int (pv 1)) pa_nil))))) (pss_cons (ps_set (i := 3) sc__law_alphabet.nd rfl (by first | exact Or.inl rfl | exact Or.inr rfl) (pe_call (ok__law_random T) (hr.mono (by decide)) (by rfl) T.g__law_random T.F__law_random.kp (b__law_random T) .nil pass0 (pa_cons (pv 0) (pa_cons pe_int pa_nil)))) (pss_cons (ps_set (i := 4) sc__law_alphabet.nd rfl (by first | exact Or.inl rfl | exact Or.inr rfl) pe_str) (pss_cons (ps_for PassesOwn.never rfl (pi_range1 (by rfl) T.n_range (pa_cons (pv 2) pa_nil)) (pg_name (i := 5) sc__law_alphabet.nd rfl (by first | exact Or.inl rfl | exact Or.inr rfl)) (pss_cons (ps_set (i := 3) sc__law_alphabet.nd rfl (by first | exact Or.inl rfl | exact Or.inr rfl) (pe_op op_add (pe_op op_add (pv 3) pe_int) (pe_call (ok__law_random T) (hr.mono (by decide)) (by rfl) T.g__law_random T.F__law_random.kp (b__law_random T) .nil pass0 (pa_cons (pv 0) (pa_cons pe_int pa_nil))))) (pss_one (ps_set (i := 4) sc__law_alphabet.nd rfl (by first | exact Or.inl rfl | exact Or.inr rfl) (pe_op op_add_str (pv 4) (pe_ix ix_str pe_str (pv 3) (fun _ _ => rfl))))))) (pss_one (ps_ret (pv 4))))))), ?_⟩
    refine ⟨_, rfl, _, rfl, _, rfl, 5, _, rfl, rfl, g, _, n, rfl, by omega, by omega, gn, by omega, fun r H1 r0 r1 x1 g1 => ?_⟩
    refine ⟨_, _, rfl, rfl, ?_⟩
    refine ⟨_, rfl, g, 10, n + 10, rfl, by decide, by decide, g1, by omega, fun r2 H2 r20 r21 x2 g2 => ?_⟩
    -- the letters
    have hmany : ((m : Int) + r).toNat ≤ 4 := by omega
    have hmany1 : m ≤ ((m : Int) + r).toNat := by omega
    refine ⟨_, rfl, (m : Int) + r, rfl, by omega, by omega, ?_⟩
    generalize ((m : Int) + r).toNat = k at hmany hmany1
    refine for_range (lo := 0) (n := k) (fun i σ H3 => ∃ (st : Nat) (L : List Nat) (y5 : Option V), σ = [some (.ref g), some (.int (m : Nat)), some (.int ((m : Int) + r)), some (.int (st : Nat)), some (tx L), y5] ∧ st ≤ 9 + 3 * i ∧ L.length = i ∧ L.Pairwise (· < ·) ∧ (∀ c ∈ L, 97 ≤ c ∧ c ≤ 97 + st) ∧ Xg g H H3 ∧ Gen H3 g (n + 20 + 10 * i)) ⟨r2.toNat, [], none, ?_, by omega, rfl, List.Pairwise.nil, by simp, x1.trans x2, g2⟩ (fun i σ H3 hi hp => ?_) (fun σ H3 hp => ?_)
    · have e : ((r2.toNat : Nat) : Int) = r2 := by omega
      rw [e]
      rfl
    · obtain ⟨st, L, y5, rfl, s1, ll, lp, lm, x3, g3⟩ := hp
      refine ⟨_, rfl, _, 1, rfl, rfl, _, rfl, g, 3, n + 20 + 10 * i, rfl, by decide, by decide, g3, by omega, fun r3 H4 r30 r31 x4 g4 => ?_⟩
      refine ⟨_, _, rfl, rfl, ?_⟩
      have es : (st : Int) + 1 + r3 = ((st + 1 + r3.toNat : Nat) : Int) := by omega
      have sb : st + 1 + r3.toNat < 26 := by omega
      refine ⟨_, rfl, _, rfl, mk abc, _, 97 + (st + 1 + r3.toNat), by rfl, rfl, by decide, ?_, _, _, rfl, rfl, ?_, ?_⟩
      · rw [es]
        exact atI_nat (by rw [mk_list]; exact abc_at _ sb)
      · rw [mk_len]
        show _ + 1 ≤ _
        exact sz_of (by omega)
      · have ea : (⟨#[97 + (st + 1 + r3.toNat)]⟩ : Str) = mk [97 + (st + 1 + r3.toNat)] := rfl
        rw [ea, mk_app]
        refine ⟨st + 1 + r3.toNat, L ++ [97 + (st + 1 + r3.toNat)], _, by rw [← es]; rfl, by omega, by rw [List.length_append, ll]; rfl, ?_, fun c hc => ?_, x3.trans x4, g4⟩
        · rw [List.pairwise_append]
          refine ⟨lp, List.pairwise_singleton _ _, fun a ha b hb => ?_⟩
          rw [List.mem_singleton] at hb
          have := lm a ha
          omega
        · rcases List.mem_append.mp hc with e | e
          · have := lm c e
            omega
          · rw [List.mem_singleton] at e
            omega
    · obtain ⟨st, L, y5, rfl, s1, ll, lp, lm, x3, g3⟩ := hp
      refine ⟨_, rfl, q L H3 ⟨fun c hc => ?_, lp, by omega, by omega⟩ (by omega) x3 (g3.up (by omega))⟩
      have := lm c hc
      omega
end
end K01
set_option Elab.async false
set_option linter.all false
set_option maxRecDepth 100000
set_option maxHeartbeats 4000000
/-! Rx5: sorted of a list of tuples of ints that ascends -/
namespace PySem.W
open PySem PySem.Calls PyProof.Rows
/-- one empty tuple can be sorted -/
theorem SortsAt.lone {prog : Program} {w : World} {A : Around} {s : Shared} {v : Value} (e : ∃ as, Reads s.heap v (.tuple []) as) (hu : A.units + 2 < cLine) : SortsAt prog w A s (dataKind s.heap [.tuple []]) [v] := by
  have hal : AllAlike [PyData.tuple []] := by
    intro d hd d' hd'
    rw [List.mem_singleton.mp hd, List.mem_singleton.mp hd']
    simp [alike, alikeAll]
  refine ⟨fun x hx => ?_, tuples' true, ?_, fun h2 => absurd h2 (by simp)⟩
  · obtain ⟨as, r⟩ := e
    rw [List.mem_singleton.mp hx]
    exact ⟨_, dataKind_some hal (List.mem_singleton.mpr rfl) r⟩
  · intro E x y a b Q ha hb hq
    obtain ⟨d, as, hd, ra, rfl⟩ := dataKind_inv ha
    obtain ⟨d', as', hd', rb, rfl⟩ := dataKind_inv hb
    have hdd := hal d hd d' hd'
    have e1 := List.mem_singleton.mp hd
    have e2 := List.mem_singleton.mp hd'
    subst e1 e2
    have hq' : Q (dataLt (.tuple []) (.tuple [])) s := hq
    rw [dataLt_tuple] at hq'
    cases ra with
    | @tuple l o xs n _ _ h1 h2 h3 h4 =>
      cases rb with
      | @tuple l' o' xs' n' _ _ k1 k2 k3 k4 =>
        have n1 : xs.size = ([] : List PyData).length := by simpa using SeqAt.ReadsAll.length _ _ _ h4
        have n2 : xs'.size = ([] : List PyData).length := by simpa using SeqAt.ReadsAll.length _ _ _ k4
        refine kat_lt h1 h3 k1 k3 (katLex_alike [] [] 0 _ _ _ _ h4 k4 (by simp [alikeAll]) (by
          have z : PyData.depthAll [] = 0 := by simp [PyData.depthAll]
          rw [z]
          omega) (fun hb _ x r t ex => nomatch ex) (by rw [n1, n2]) hq')
end PySem.W
namespace Rx
open PySem PySem.Spec PyProof.Rows L2
section
variable {X : Cx}
def encT (p : Addr × List Int) : PyData := .tuple (p.2.map .int)
theorem dataLt_ints : ∀ (ns ms : List Int), PyProof.Rows.lexLt itemOrd (PySem.W.keyToksAll (ns.map .int)) (PySem.W.keyToksAll (ms.map .int)) = HT.lexLt ns ms
  | [], [] => PyProof.Rows.lex_irrefl _
  | [], m :: ms => by
    show PyProof.Rows.lexLt itemOrd (PySem.W.keyToksAll []) (PySem.W.keyToksAll (PyData.int m :: ms.map .int)) = true
    simp only [PySem.W.keyToksAll]
    rw [PyProof.Rows.lex_cons]
    rfl
  | n :: ns, [] => by
    show PyProof.Rows.lexLt itemOrd (PySem.W.keyToksAll (PyData.int n :: ns.map .int)) (PySem.W.keyToksAll []) = false
    simp only [PySem.W.keyToksAll]
    rw [PyProof.Rows.lex_cons]
    rfl
  | n :: ns, m :: ms => by
    show PyProof.Rows.lexLt itemOrd (PySem.W.keyToksAll (PyData.int n :: ns.map .int)) (PySem.W.keyToksAll (PyData.int m :: ms.map .int)) = _
    rw [PySem.W.dataLt_cons (by simp [PySem.W.alike]), dataLt_ints ns ms, HT.lexLt_cons, PySem.W.dataLt_int]
    simp only [PyData.eqv, beq_iff_eq]
theorem le_of (p q : Addr × List Int) : PySem.W.dataLe false encT p q = !HT.lexLt q.2 p.2 := by
  show (!PySem.W.dataLt (.tuple (q.2.map .int)) (.tuple (p.2.map .int))) = _
  rw [PySem.W.dataLt_tuple, dataLt_ints]
/-- sorted(xs), xs a list of tuples of ints that ascends: a new list, the same -/
def rSortAsc (K : PySem.W.Frag) : List V → Hp → VK → Prop := fun vs H Q => ∃ (a : Addr) (L : List (Addr × List Int)), vs = [V.ref a] ∧ SqL K H a (L.map fun p => V.ref p.1) ∧ (∀ p ∈ L, SqT K H p.1 (p.2.map V.int)) ∧ L.Pairwise (fun p q => HT.lexLt q.2 p.2 = false) ∧
  ((∀ p ∈ L, p.2 ≠ []) ∨ ∃ t, L = [(t, [])]) ∧ ∀ p, H p = none → Q (.ref p) (upd H p (.lst (L.map fun p => V.ref p.1)))
theorem reads_ints {h : Heap} : ∀ {ns : List Int} {us : List Value}, Vals (ns.map V.int) us → ∃ as, ReadsAll h us (ns.map .int) as
  | [], _, r => by
    cases r
    exact ⟨[], .nil⟩
  | n :: ns, _, r => by
    cases r with
    | cons r1 r2 =>
      obtain ⟨t, rfl⟩ := r1
      obtain ⟨as, h⟩ := reads_ints (h := h) r2
      exact ⟨[] ++ as, .cons (.int _ _) h⟩
theorem each_refs : ∀ {L : List (Addr × List Int)} {us : List Value} {Rl : Value → Addr × List Int → Prop}, Vals (L.map fun p => V.ref p.1) us → (∀ p ∈ L, Rl (.ref p.1) p) → PySem.W.EachIs Rl us L
  | [], _, _, r, _ => by
    cases r
    exact .nil
  | p :: L, _, _, r, h => by
    cases r with
    | cons r1 r2 =>
      cases r1
      exact .cons (h p List.mem_cons_self) (each_refs r2 fun q hq => h q (List.mem_cons_of_mem _ hq))
theorem each_back : ∀ {L : List (Addr × List Int)} {us : List Value}, PySem.W.EachIs (fun v p => v = Value.ref p.1) us L → Vals (L.map fun p => V.ref p.1) us
  | _, _, .nil => .nil
  | _, _, .cons h t => .cons (by rw [h]; rfl) (each_back t)
theorem depth_le1 (ns : List Int) : (PyData.tuple (ns.map .int)).depth ≤ 1 := by
  show PyData.depthAll (ns.map .int) + 1 ≤ 1
  rw [PySem.W.depth_ints]
  exact Nat.le_refl 1
theorem cr_sortAsc (hu : X.A.units + 64 < cLine) : CallR X (.builtin "sorted") (rSortAsc X.K) := by
  intro pins s σ H vs us Q I r h
  obtain ⟨a, L, rfl, hs, ht, hp, hk, q⟩ := h
  obtain ⟨its, rv, hl, hz⟩ := I.list hs
  obtain ⟨u, rfl, ru⟩ := vals1 r
  obtain rfl : u = Value.ref a := ru
  have hz' : L.length ≤ sizeLine := by rw [List.length_map] at hz; exact hz
  have e : PySem.W.EachIs (fun v (p : Addr × List Int) => v = Value.ref p.1) its L := each_refs rv fun p _ => rfl
  have er : PySem.W.EachIs (fun v p => ∃ as, Reads s.heap v (encT p) as) its L := each_refs rv fun p hm => by
    obtain ⟨jts, rj, tj, _⟩ := I.tuple (ht p hm)
    obtain ⟨as, ra⟩ := reads_ints (h := s.heap) rj
    obtain ⟨o, ho, hc, n, hd⟩ := tj
    exact ⟨as, .tuple ho hc hd (by simpa using ra)⟩
  have hal : PySem.W.AllAlike (L.map encT) := PySem.W.AllAlike.of fun p p' => by
    show PySem.W.alike (.tuple (p.2.map .int)) (.tuple (p'.2.map .int)) = true
    rw [PySem.W.alike]
    exact PySem.W.alike_ints _ _
  have ms : L.mergeSort (PySem.W.dataLe false encT) = L := List.mergeSort_of_pairwise (hp.imp fun {p p'} hq => by
    rw [le_of, hq]
    rfl)
  have fin : ∀ out : List Value, PySem.W.EachIs (fun v (p : Addr × List Int) => v = Value.ref p.1) out L → EP X pins σ Q (.ref (s.heap.objs.size + 1)) { s with heap := PyProof.Rows.sortedAll s.heap its out.toArray } := by
    intro out eo
    obtain ⟨ep, he'⟩ := PyProof.Rows.sortedAll_at s.heap its out.toArray
    refine ⟨.ref _, upd H (s.heap.objs.size + 1) (.lst (L.map fun p => V.ref p.1)), I.laid (t' := s.toks) (fun _ _ => PyProof.Rows.sortedAll_old) (Nat.le_succ _) ⟨hz, out, ep, each_back eo, by simpa using he'⟩, rfl, q _ (I.hok.fresh (Nat.le_succ _))⟩
  rcases hk with hk | ⟨t, rfl⟩
  · refine PySem.W.sorted_data (R := fun v (p : Addr × List Int) => v = Value.ref p.1) (bs := L) (enc := encT) hl.isList e er hal (.inl fun d hd => ?_) hz' (fun p _ => ?_) fun out _ eo => fin out (by rw [ms] at eo; exact eo)
    · obtain ⟨p, hm, rfl⟩ := List.mem_map.mp hd
      have := hk p hm
      cases hp2 : p.2 with
      | nil => exact absurd hp2 this
      | cons x xs => exact ⟨.int x, xs.map .int, by show PyData.tuple (p.2.map .int) = _; rw [hp2]; rfl⟩
    · have := depth_le1 p.2
      show X.A.units + 2 + (PyData.tuple (p.2.map .int)).depth < cLine
      omega
  · have hs1 : its = [Value.ref t] := by
      cases e with
      | cons h1 h2 =>
        cases h2
        rw [h1]
    subst hs1
    have er' : ∃ as, Reads (PySem.W.sortingHeap (PySem.W.copyHeap s.heap [Value.ref t]) (s.heap.objs.size + 1) [Value.ref t]) (Value.ref t) (.tuple []) as := by
      cases er with
      | cons h1 h2 =>
        obtain ⟨as, r1⟩ := h1
        exact ⟨as, PyProof.Rows.Reads.keeps (fun _ _ => PySem.W.sorting_copy_old) r1⟩
    refine PySem.W.sorted_vals hl.isList (PySem.W.SortsAt.lone (s := { s with heap := PySem.W.sortingHeap (PySem.W.copyHeap s.heap [Value.ref t]) (s.heap.objs.size + 1) [Value.ref t] }) er' (by show X.A.units + 1 + 1 + 2 < cLine; omega)) hz' (fin _ ?_)
    have h1 := PySem.W.sortVals_length (κ := PySem.W.dataKind (PySem.W.sortingHeap (PySem.W.copyHeap s.heap [Value.ref t]) (s.heap.objs.size + 1) [Value.ref t]) [PyData.tuple []]) false (ks := [Value.ref t]) (vs := [Value.ref t]) rfl
    have h2 := fun v => PySem.W.sortVals_mem (κ := PySem.W.dataKind (PySem.W.sortingHeap (PySem.W.copyHeap s.heap [Value.ref t]) (s.heap.objs.size + 1) [Value.ref t]) [PyData.tuple []]) false (ks := [Value.ref t]) (vs := [Value.ref t]) (v := v)
    generalize PySem.W.sortVals _ false [Value.ref t] [Value.ref t] = o at h1 h2 ⊢
    match o, h1, h2 with
    | [v], _, h2 =>
      have := List.mem_singleton.mp (h2 v List.mem_cons_self)
      exact .cons this .nil
end
end Rx
set_option linter.all false
/-! Nx3: the list of all readings -/
namespace Nx
open Mx
/-- the places from lo on at which a stands, ascending -/
def plcs (t : List Nat) (a lo : Nat) : List Nat := ((List.range (t.length - lo)).map fun j => lo + j).filter fun q => decide (t[q]? = some a)
theorem plcs_mem {t : List Nat} {a lo q : Nat} : q ∈ plcs t a lo ↔ lo ≤ q ∧ t[q]? = some a := by
  unfold plcs
  rw [List.mem_filter, List.mem_map]
  constructor
  · rintro ⟨⟨j, _, rfl⟩, h⟩
    exact ⟨Nat.le_add_right _ _, of_decide_eq_true h⟩
  · rintro ⟨h1, h2⟩
    have := (List.getElem?_eq_some_iff.mp h2).1
    exact ⟨⟨q - lo, List.mem_range.mpr (by omega), by omega⟩, decide_eq_true h2⟩
/-- where the next place may be -/
def nxt (lo : Nat) (p : List Nat) : Nat := match p.getLast? with
  | some q => q + 1
  | none => lo
/-- all readings of w with places from lo on -/
def rds (t : List Nat) : Nat → List Nat → List (List Nat)
  | _, [] => [[]]
  | lo, a :: u => (plcs t a lo).flatMap fun q => (rds t (q + 1) u).map fun p => q :: p
theorem rds_nil (t : List Nat) (lo : Nat) : rds t lo [] = [[]] := rfl
theorem rds_cons (t : List Nat) (lo a : Nat) (u : List Nat) : rds t lo (a :: u) = (plcs t a lo).flatMap fun q => (rds t (q + 1) u).map fun p => q :: p := rfl
theorem nxt_cons (lo q : Nat) (p : List Nat) : nxt lo (q :: p) = nxt (q + 1) p := by
  unfold nxt
  cases p with
  | nil => rfl
  | cons x p =>
    rw [List.getLast?_cons_cons]
    cases h : (x :: p).getLast? with
    | none => simp at h
    | some y => rfl
theorem rds_snoc (t : List Nat) (a : Nat) : ∀ (w : List Nat) (lo : Nat), rds t lo (w ++ [a]) = (rds t lo w).flatMap fun p => (plcs t a (nxt lo p)).map fun q => p ++ [q]
  | [], lo => by
    show (plcs t a lo).flatMap (fun q => (rds t (q + 1) []).map fun p => q :: p) = [[]].flatMap _
    rw [List.flatMap_singleton]
    show (plcs t a lo).flatMap (fun q => [[q]]) = (plcs t a lo).map fun q => [q]
    induction plcs t a lo with
    | nil => rfl
    | cons x l ih => rw [List.flatMap_cons, ih, List.map_cons]; rfl
  | b :: w, lo => by
    show (plcs t b lo).flatMap (fun q => (rds t (q + 1) (w ++ [a])).map fun p => q :: p) = ((plcs t b lo).flatMap fun q => (rds t (q + 1) w).map fun p => q :: p).flatMap _
    rw [List.flatMap_assoc]
    congr 1
    funext q
    rw [rds_snoc t a w (q + 1), List.map_flatMap, List.flatMap_map]
    congr 1
    funext p
    rw [List.map_map, nxt_cons]
    rfl
/-- they are the readings -/
theorem rds_isr (t : List Nat) : ∀ (w : List Nat) (lo : Nat) (p : List Nat), p ∈ rds t lo w ↔ isr t lo w p
  | [], lo, p => by
    rw [rds_nil, List.mem_singleton]
    exact Iff.rfl
  | a :: u, lo, p => by
    rw [rds_cons, List.mem_flatMap]
    constructor
    · rintro ⟨q, hq, hp⟩
      obtain ⟨p', hp', rfl⟩ := List.mem_map.mp hp
      obtain ⟨h1, h2⟩ := plcs_mem.mp hq
      exact ⟨h1, h2, (rds_isr t u (q + 1) p').mp hp'⟩
    · intro h
      cases p with
      | nil => exact h.elim
      | cons q p =>
        exact ⟨q, plcs_mem.mpr ⟨h.1, h.2.1⟩, List.mem_map.mpr ⟨p, (rds_isr t u (q + 1) p).mpr h.2.2, rfl⟩⟩
theorem plcs_up (t : List Nat) (a lo : Nat) : (plcs t a lo).Pairwise (· < ·) := by
  unfold plcs
  refine List.Pairwise.filter _ ?_
  rw [List.pairwise_map]
  exact List.pairwise_lt_range.imp fun h => by omega
theorem flat_up {α β : Type} {R : β → β → Prop} {S : α → α → Prop} (f : α → List β) : ∀ {l : List α}, l.Pairwise S → (∀ x ∈ l, (f x).Pairwise R) → (∀ x ∈ l, ∀ y ∈ l, S x y → ∀ b ∈ f x, ∀ c ∈ f y, R b c) → (l.flatMap f).Pairwise R
  | [], _, _, _ => List.Pairwise.nil
  | x :: l, h, h1, h2 => by
    rw [List.flatMap_cons, List.pairwise_append]
    have hx := List.pairwise_cons.mp h
    refine ⟨h1 x List.mem_cons_self, flat_up f hx.2 (fun y hy => h1 y (List.mem_cons_of_mem _ hy)) (fun y hy z hz => h2 y (List.mem_cons_of_mem _ hy) z (List.mem_cons_of_mem _ hz)), fun b hb c hc => ?_⟩
    obtain ⟨y, hy, hc⟩ := List.mem_flatMap.mp hc
    exact h2 x List.mem_cons_self y (List.mem_cons_of_mem _ hy) (hx.1 y hy) b hb c hc
/-- in order -/
theorem rds_up (t : List Nat) : ∀ (w : List Nat) (lo : Nat), (rds t lo w).Pairwise (· < ·)
  | [], lo => List.pairwise_singleton _ _
  | a :: u, lo => by
    refine flat_up _ (plcs_up t a lo) (fun q _ => ?_) fun q _ q' _ h b hb c hc => ?_
    · rw [List.pairwise_map]
      exact (rds_up t u (q + 1)).imp fun h => List.cons_lt_cons_self.mpr h
    · obtain ⟨b', _, rfl⟩ := List.mem_map.mp hb
      obtain ⟨c', _, rfl⟩ := List.mem_map.mp hc
      exact List.Lex.rel h
/-! ### how many -/
theorem sum_filter {P : Nat → Bool} (f : Nat → Nat) : ∀ l : List Nat, ((l.filter P).map f).sum = (l.map fun q => if P q = true then f q else 0).sum
  | [] => rfl
  | x :: l => by
    rw [List.filter_cons, List.map_cons, List.sum_cons, ← sum_filter f l]
    split
    · rw [List.map_cons, List.sum_cons]
    · rw [Nat.zero_add]
theorem plcs_sum (t : List Nat) (a lo : Nat) (u : List Nat) : ((plcs t a lo).map fun q => cnt u (t.drop (q + 1))).sum = gap t a u lo (t.length - lo) := by
  unfold plcs gap
  rw [sum_filter, List.map_map]
  congr 1
  apply List.map_congr_left
  intro j _
  simp
theorem gap_all (t : List Nat) (a : Nat) (u : List Nat) : ∀ (n lo : Nat), t.length - lo = n → gap t a u lo n = cnt (a :: u) (t.drop lo)
  | 0, lo, h => by
    rw [gap_zero, List.drop_eq_nil_of_le (by omega), cnt_e]
  | n + 1, lo, h => by
    have hl : lo < t.length := by omega
    rw [gap_first, gap_all t a u n (lo + 1) (by omega), back a u hl, List.getElem?_eq_getElem hl]
    by_cases z : a = t[lo]
    · rw [if_pos z, if_pos (by rw [z])]; omega
    · rw [if_neg z, if_neg (fun y => z (Option.some.inj y).symm)]; omega
theorem len_flat {α β : Type} (f : α → List β) (l : List α) : (l.flatMap f).length = (l.map fun x => (f x).length).sum := by
  induction l with
  | nil => rfl
  | cons x l ih => rw [List.flatMap_cons, List.length_append, ih, List.map_cons, List.sum_cons]
theorem rds_len (t : List Nat) : ∀ (w : List Nat) (lo : Nat), (rds t lo w).length = cnt w (t.drop lo)
  | [], lo => by rw [cnt_nil]; rfl
  | a :: u, lo => by
    rw [rds_cons, len_flat]
    have e : (fun q => ((rds t (q + 1) u).map fun p => q :: p).length) = fun q => cnt u (t.drop (q + 1)) := by
      funext q
      rw [List.length_map, rds_len t u (q + 1)]
    rw [e, plcs_sum, gap_all t a u _ lo rfl]
end Nx
set_option linter.all false
/-! Nx4: how many readings have a place -/
namespace Nx
open Mx
theorem sum_split (f : Nat → Nat) (n : Nat) : ∀ m : Nat, ((List.range (n + m)).map f).sum = ((List.range n).map f).sum + ((List.range m).map fun j => f (n + j)).sum
  | 0 => by simp
  | m + 1 => by
    rw [← Nat.add_assoc, List.range_succ, List.map_append, List.sum_append, sum_split f n m, List.range_succ, List.map_append, List.sum_append]
    simp
    omega
def us2 (t : List Nat) (lo q : Nat) (w : List Nat) (i : Nat) : Nat := if w[i]? = t[q]? then cnt (w.take i) ((t.take q).drop lo) * cnt (w.drop (i + 1)) (t.drop (q + 1)) else 0
theorem us2_zero (w t : List Nat) (q i : Nat) : us2 t 0 q w i = us w t q i := by
  unfold us2 us
  rw [List.drop_zero]
def hits (t : List Nat) (lo : Nat) (w : List Nat) (q : Nat) : Nat := ((rds t lo w).filter fun p => decide (q ∈ p)).length
theorem isr_ge {t : List Nat} : ∀ {lo : Nat} {w p : List Nat} {q : Nat}, isr t lo w p → q ∈ p → lo ≤ q
  | _, [], p, q, h, hq => by
    have : p = [] := h
    rw [this] at hq
    simp at hq
  | _, _ :: _, [], _, h, _ => h.elim
  | lo, a :: u, x :: p, q, ⟨h1, h2, h3⟩, hq => by
    rcases List.mem_cons.mp hq with e | e
    · rw [e]; exact h1
    · have := isr_ge h3 e
      omega
theorem hits_low {t : List Nat} {lo q : Nat} (w : List Nat) (h : q < lo) : hits t lo w q = 0 := by
  unfold hits
  rw [List.length_eq_zero_iff, List.filter_eq_nil_iff]
  intro p hp hq
  have := isr_ge ((rds_isr t w lo p).mp hp) (of_decide_eq_true hq)
  omega
theorem filter_flat {α β : Type} (P : β → Bool) (f : α → List β) (l : List α) : ((l.flatMap f).filter P).length = (l.map fun x => ((f x).filter P).length).sum := by
  induction l with
  | nil => rfl
  | cons x l ih => rw [List.flatMap_cons, List.filter_append, List.length_append, ih, List.map_cons, List.sum_cons]
theorem hits_step (t : List Nat) (lo a : Nat) (u : List Nat) (q : Nat) : hits t lo (a :: u) q = ((plcs t a lo).map fun x => if x = q then cnt u (t.drop (q + 1)) else hits t (x + 1) u q).sum := by
  unfold hits
  rw [rds_cons, filter_flat]
  congr 1
  apply List.map_congr_left
  intro x _
  rw [List.filter_map, List.length_map]
  by_cases e : x = q
  · subst e
    rw [if_pos rfl]
    have z : (rds t (x + 1) u).filter ((fun p => decide (x ∈ p)) ∘ fun p => x :: p) = rds t (x + 1) u := by
      rw [List.filter_eq_self]
      intro p _
      simp
    rw [z, rds_len]
  · rw [if_neg e]
    congr 2
    funext p
    have : (q = x) = False := eq_false (fun z => e z.symm)
    simp [this]
theorem ite_sum {c : Prop} [Decidable c] (f : Nat → Nat) (l : List Nat) : (if c then (l.map f).sum else 0) = (l.map fun i => if c then f i else 0).sum := by
  by_cases h : c
  · simp only [if_pos h]
  · simp only [if_neg h]
    rw [sum_map_zero]
theorem sum_mul (f : Nat → Nat) (c : Nat) : ∀ l : List Nat, (l.map fun i => f i * c).sum = (l.map f).sum * c
  | [] => by simp
  | x :: l => by rw [List.map_cons, List.sum_cons, sum_mul f c l, List.map_cons, List.sum_cons, Nat.add_mul]
theorem hits_all (t : List Nat) (q : Nat) (hq : q < t.length) : ∀ (w : List Nat) (lo : Nat), lo ≤ q → hits t lo w q = ((List.range w.length).map fun i => us2 t lo q w i).sum
  | [], lo, _ => by
    unfold hits
    rw [rds_nil]
    simp
  | a :: u, lo, hlo => by
    rw [hits_step]
    have e1 : ((plcs t a lo).map fun x => if x = q then cnt u (t.drop (q + 1)) else hits t (x + 1) u q).sum = ((List.range ((q - lo) + (1 + (t.length - q - 1)))).map fun j => if t[lo + j]? = some a then (if lo + j = q then cnt u (t.drop (q + 1)) else hits t (lo + j + 1) u q) else 0).sum := by
      unfold plcs
      rw [sum_filter, List.map_map]
      have e : t.length - lo = (q - lo) + (1 + (t.length - q - 1)) := by omega
      rw [e]
      congr 1
      apply List.map_congr_left
      intro j _
      simp
    rw [e1, sum_split, sum_split]
    have s2 : ((List.range 1).map fun j => if t[lo + (q - lo + j)]? = some a then (if lo + (q - lo + j) = q then cnt u (t.drop (q + 1)) else hits t (lo + (q - lo + j) + 1) u q) else 0).sum = us2 t lo q (a :: u) 0 := by
      have e : lo + (q - lo + 0) = q := by omega
      show (if t[lo + (q - lo + 0)]? = some a then (if lo + (q - lo + 0) = q then cnt u (t.drop (q + 1)) else hits t (lo + (q - lo + 0) + 1) u q) else 0) + 0 = _
      rw [e, if_pos rfl, Nat.add_zero]
      unfold us2
      rw [List.take_zero, cnt_nil, Nat.one_mul]
      show _ = if some a = t[q]? then cnt u (t.drop (q + 1)) else 0
      by_cases z : t[q]? = some a
      · rw [if_pos z, if_pos z.symm]
      · rw [if_neg z, if_neg (fun y => z y.symm)]
    have s3 : ((List.range (t.length - q - 1)).map fun j => if t[lo + (q - lo + (1 + j))]? = some a then (if lo + (q - lo + (1 + j)) = q then cnt u (t.drop (q + 1)) else hits t (lo + (q - lo + (1 + j)) + 1) u q) else 0).sum = 0 := by
      refine Eq.trans (map_sum_congr (g := fun _ => 0) fun j _ => ?_) (sum_map_zero _)
      have n1 : ¬ lo + (q - lo + (1 + j)) = q := by omega
      rw [if_neg n1, hits_low u (by omega)]
      split <;> rfl
    have s1 : ((List.range (q - lo)).map fun j => if t[lo + j]? = some a then (if lo + j = q then cnt u (t.drop (q + 1)) else hits t (lo + j + 1) u q) else 0).sum = ((List.range u.length).map fun i => us2 t lo q (a :: u) (i + 1)).sum := by
      have c1 : ((List.range (q - lo)).map fun j => if t[lo + j]? = some a then (if lo + j = q then cnt u (t.drop (q + 1)) else hits t (lo + j + 1) u q) else 0).sum = ((List.range (q - lo)).map fun j => ((List.range u.length).map fun i => if t[lo + j]? = some a then us2 t (lo + j + 1) q u i else 0).sum).sum := by
        apply map_sum_congr
        intro j hj
        have n1 : ¬ lo + j = q := by omega
        rw [if_neg n1, hits_all t q hq u (lo + j + 1) (by omega), ite_sum]
      rw [c1, sum_swap (fun j i => if t[lo + j]? = some a then us2 t (lo + j + 1) q u i else 0) u.length (q - lo)]
      apply map_sum_congr
      intro i _
      have tk : (t.take q).length - lo = q - lo := by rw [List.length_take]; omega
      have g := gap_all (t.take q) a (u.take i) (q - lo) lo tk
      unfold us2
      show _ = if u[i]? = t[q]? then cnt (a :: u.take i) ((t.take q).drop lo) * cnt (u.drop (i + 1)) (t.drop (q + 1)) else 0
      rw [← g]
      unfold gap
      by_cases z : u[i]? = t[q]?
      · simp only [if_pos z]
        rw [← sum_mul]
        apply map_sum_congr
        intro j hj
        rw [List.getElem?_take_of_lt (by omega)]
        split
        · rfl
        · rw [Nat.zero_mul]
      · simp only [if_neg z]
        refine Eq.trans (map_sum_congr (g := fun _ => 0) fun j _ => ?_) (sum_map_zero _)
        split <;> rfl
    rw [s1, s2, s3, List.length_cons, List.range_succ_eq_map, List.map_cons, List.sum_cons, List.map_map]
    have e : ((fun i => us2 t lo q (a :: u) i) ∘ Nat.succ) = fun i => us2 t lo q (a :: u) (i + 1) := rfl
    rw [e]
    omega
theorem hits_used (t w : List Nat) (q : Nat) (hq : q < t.length) : hits t 0 w q = used w t q := by
  rw [hits_all t q hq w 0 (Nat.zero_le _)]
  unfold used
  apply map_sum_congr
  intro i _
  exact us2_zero w t q i
end Nx
set_option Elab.async false
set_option linter.all false
set_option maxRecDepth 100000
set_option maxHeartbeats 8000000
namespace K01
open PySem PySem.Spec PyProof.Rows L2 Evl Bx
open Nx Rx
def nts (p : List Nat) : List Int := p.map fun q => ((q : Nat) : Int)
/-- a list of tuples of places -/
def TupL (H : Hp) (p : Addr) (L : List (Addr × List Int)) (R : List (List Nat)) : Prop := H p = some (.lst (L.map fun e => V.ref e.1)) ∧ (∀ e ∈ L, H e.1 = some (.tup (e.2.map V.int))) ∧ L.map (·.2) = R.map nts
theorem TupL.ex {H H' : Hp} {p : Addr} {L : List (Addr × List Int)} {R : List (List Nat)} (a : TupL H p L R) (e : Ex H H') : TupL H' p L R := ⟨e _ _ a.1, fun x hx => e _ _ (a.2.1 x hx), a.2.2⟩
theorem TupL.len {H : Hp} {p : Addr} {L : List (Addr × List Int)} {R : List (List Nat)} (a : TupL H p L R) : L.length = R.length := by
  have := congrArg List.length a.2.2
  simpa using this
theorem lex_rev : ∀ {l m : List Nat}, l < m → HT.lexLt (nts m) (nts l) = false
  | [], [], h => by cases h
  | [], _ :: _, _ => rfl
  | _ :: _, [], h => by cases h
  | a :: l, b :: m, h => by
    show HT.lexLt (((b : Nat) : Int) :: nts m) (((a : Nat) : Int) :: nts l) = false
    rw [HT.lexLt_cons]
    cases h with
    | rel h =>
      rw [if_neg (by omega)]
      exact decide_eq_false (by omega)
    | cons h =>
      rw [if_pos rfl]
      exact lex_rev h
theorem flat_tk {α β : Type} (f : α → List β) (l : List α) (j : Nat) : ((l.take j).flatMap f).length ≤ (l.flatMap f).length := by
  conv => rhs; rw [← List.take_append_drop j l, List.flatMap_append, List.length_append]
  omega
theorem shaped_tup (ns : List Int) : SeqAt.shaped (.tuple (ns.map PyData.int)) = true := (flat_shaped _ fun d hd => by
  obtain ⟨n, _, rfl⟩ := List.mem_map.mp hd
  exact ⟨rfl, rfl⟩).2
section
variable {P : Program} {w : World} {K : PySem.W.Frag} {mg : Str → Option Value} {base : Heap}
def sp_readings (K : PySem.W.Frag) : Sp := fun vs H Q _ => ∃ (u t : List Nat), vs = [tx u, tx t] ∧ u.length ≤ 4 ∧ t.length ≤ 12 ∧ ∀ H' p L, Ex H H' → H p = none → TupL H' p L (rds t 0 u) → Q (.ref p) H'
theorem rds_small {u t : List Nat} (lu : u.length ≤ 4) (lt : t.length ≤ 12) : (rds t 0 u).length ≤ 20736 := by
  rw [rds_len, List.drop_zero]
  refine Nat.le_trans (cnt_pow t u) ?_
  have h1 : t.length ^ u.length ≤ 12 ^ u.length := Nat.pow_le_pow_left lt _
  have h2 : (12 : Nat) ^ u.length ≤ 12 ^ 4 := Nat.pow_le_pow_right (by decide) lu
  exact Nat.le_trans h1 (Nat.le_trans h2 (by decide))
theorem ok__law_readings (T : Tx K mg) : FnOk P w K mg base CX0 1 T.a__law_readings T.fd__law_readings ["_law_word", "_law_text_here"] (sp_readings K) := by
  refine T.F__law_readings.ok sc__law_readings (fun vs H Q E h => ?_) (fun cdv A outer s H vs Q E hr h => ?_)
  · obtain ⟨_, _, rfl, _⟩ := h
    rfl
  · obtain ⟨u, t, rfl, lu, lt, q⟩ := h
    refine ⟨_, (pss_cons (ps_set (i := 2) sc__law_readings.nd rfl (by first | exact Or.inl rfl | exact Or.inr rfl) (pe_lst (pa_cons (pe_tup pa_nil) pa_nil))) (pss_cons (ps_for PassesOwn.never rfl (pi_str (pv 0)) (pg_name (i := 3) sc__law_readings.nd rfl (by first | exact Or.inl rfl | exact Or.inr rfl)) (pss_cons (ps_set (i := 4) sc__law_readings.nd rfl (by first | exact Or.inl rfl | exact Or.inr rfl) (pe_lst pa_nil)) (pss_cons (ps_for PassesOwn.never rfl (pi_list (pv 2)) (pg_name (i := 5) sc__law_readings.nd rfl (by first | exact Or.inl rfl | exact Or.inr rfl)) (pss_cons (ps_set (i := 6) sc__law_readings.nd rfl (by first | exact Or.inl rfl | exact Or.inr rfl) (pe_ifExp (pt_cmpR (op_neD hr.units) (pv 5) (pe_tup pa_nil) (nomark _)) (pe_op op_add (pe_ix ix_tup (pv 5) (pe_un un_neg pe_int) (fun _ _ => rfl)) pe_int) pe_int)) (pss_one (ps_set (i := 4) sc__law_readings.nd rfl (by first | exact Or.inl rfl | exact Or.inr rfl) (pe_op op_cat (pv 4) (pe_lc (own := [("_law_place", 7)]) (g := (gName 7))  rfl sc__law_readings.nd (pi_range2 (by rfl) T.n_range (pa_cons (pv 6) (pa_cons (pe_callB call_len_str (by rfl) T.n_len (by decide +kernel) (pa_cons (pv 1) pa_nil)) pa_nil))) (blkOk_by (own := [("_law_place", 7)]) (N := N__law_readings) (sc := defScope s__law_readings) (by decide +kernel)) (fun _ _ _ _ _ => (pg_name (i := 7) sc__law_readings.nd rfl (by first | exact Or.inl rfl | exact Or.inr rfl))) (fun _ _ _ _ _ => (pts_one (pt_cmpR op_eq (pe_ix ix_str (pv 1) (pv 7) (fun _ _ => rfl)) (pv 3) (nomark _)))) (fun _ _ _ _ _ => (pe_op (op_catA : OpR _ _ (rCatA K)) (pv 5) (pe_tup (pa_cons (pv 7) pa_nil)))))))))) (pss_one (ps_set (i := 2) sc__law_readings.nd rfl (by first | exact Or.inl rfl | exact Or.inr rfl) (pv 4)))))) (pss_one (ps_ret (pe_callB (Rx.cr_sortAsc hr.units) (by rfl) T.n_sorted (by decide +kernel) (pa_cons (pv 2) pa_nil)))))), ?_⟩
    -- found = [()]
    refine ⟨by show 0 ≤ sizeLine; decide, fun z0 nz0 => ?_⟩
    refine ⟨by show 1 ≤ sizeLine; decide, fun p0 np0 => ?_⟩
    have x0 : Ex H (upd (upd H z0 (.tup [])) p0 (.lst [V.ref z0])) := (Ex.new nz0).trans (Ex.new np0)
    have d0 : z0 ≠ p0 := fun e => by rw [← e, upd_same] at np0; cases np0
    have t0 : TupL (upd (upd H z0 (.tup [])) p0 (.lst [V.ref z0])) p0 [(z0, [])] (rds t 0 []) := ⟨upd_same, fun e he => by
      rw [List.mem_singleton.mp he]
      show upd (upd H z0 (.tup [])) p0 (.lst [V.ref z0]) z0 = _
      rw [upd_ne d0, upd_same]
      rfl, rfl⟩
    have fp0 : H p0 = none := fresh_back (Ex.new nz0) np0
    generalize upd (upd H z0 (.tup [])) p0 (.lst [V.ref z0]) = H0 at x0 t0 ⊢
    dsimp only [tNext, tSeq, tAsg, tC, gName]
    -- for letter in word
    refine forS (l := u) (ev_var rfl) (fun i σ' H' => ∃ pf L y3 y4 y5 y6 y7, σ' = [some (tx u), some (tx t), some (.ref pf), y3, y4, y5, y6, y7] ∧ Ex H H' ∧ H pf = none ∧ TupL H' pf L (rds t 0 (u.take i))) (fun H1 e1 => ⟨p0, _, _, _, _, _, _, rfl, x0.trans e1, fp0, t0.ex e1⟩) (fun i a σ' H' ha ⟨pf, L, y3, y4, y5, y6, y7, h1, h2, h3, h4⟩ => ?_) (fun σ' H' ⟨pf, L, y3, y4, y5, y6, y7, h1, h2, h3, h4⟩ => ?_)
    · subst h1
      have hiu : i < u.length := (List.getElem?_eq_some_iff.mp ha).1
      have eu : u.take (i + 1) = u.take i ++ [a] := by
        rw [List.take_add_one, ha]
        rfl
      have er : rds t 0 (u.take (i + 1)) = (rds t 0 (u.take i)).flatMap fun p => (plcs t a (nxt 0 p)).map fun q => p ++ [q] := by rw [eu, rds_snoc]
      have isr1 : ∀ p ∈ rds t 0 (u.take i), isr t 0 (u.take i) p := fun p hp => (rds_isr t _ 0 p).mp hp
      have sm := rds_small (u := u.take (i + 1)) (t := t) (by rw [List.length_take]; omega) lt
      rw [er] at sm ⊢
      have lenL := h4.len
      generalize rds t 0 (u.take i) = R at h4 isr1 sm lenL ⊢
      -- wider = []
      refine ⟨by show 0 ≤ sizeLine; decide, fun pw npw => ?_⟩
      have xw : Ex H' (upd H' pw (.lst [])) := Ex.new npw
      have tw : TupL (upd H' pw (.lst [])) pw [] ((R.take 0).flatMap fun p => (plcs t a (nxt 0 p)).map fun q => p ++ [q]) := ⟨upd_same, fun e he => by simp at he, by simp⟩
      have fpw : H pw = none := fresh_back h2 npw
      generalize upd H' pw (.lst []) = H1 at xw tw ⊢
      -- for places in found
      refine ⟨_, rfl, pf, rfl, ⟨_, .inl (.inl (xw _ _ h4.1))⟩, ?_⟩
      refine for_list (xs := L.map fun e => V.ref e.1) (fun j σ2 H2 => ∃ pw W y5 y6 y7, σ2 = [some (tx u), some (tx t), some (.ref pf), some (tx [a]), some (.ref pw), y5, y6, y7] ∧ Ex H' H2 ∧ H pw = none ∧ TupL H2 pw W ((R.take j).flatMap fun p => (plcs t a (nxt 0 p)).map fun q => p ++ [q])) ⟨pw, [], _, _, _, rfl, xw, fpw, tw⟩ (fun j σ2 H2 _ ⟨_, _, _, _, _, _, e, _, _⟩ => .inl (.inl (e _ _ h4.1))) (fun j x σ2 H2 hx hp => ?_) (fun σ2 H2 hp => ?_)
      · obtain ⟨pw, W, y5, y6, y7, rfl, a1, a2, a3⟩ := hp
        rw [List.getElem?_map] at hx
        cases hL : L[j]? with
        | none => rw [hL] at hx; cases hx
        | some e0 =>
        rw [hL] at hx
        obtain rfl : V.ref e0.1 = x := Option.some.inj hx
        have hjL : j < L.length := (List.getElem?_eq_some_iff.mp hL).1
        have hjR : j < R.length := by omega
        have hR : R[j]? = some R[j] := List.getElem?_eq_getElem hjR
        generalize R[j] = p at hR
        have e2 : e0.2 = nts p := by
          have := congrArg (fun l => l[j]?) h4.2.2
          simp only [List.getElem?_map, hL, hR] at this
          exact Option.some.inj this
        have ht0 : H' e0.1 = some (.tup ((nts p).map V.int)) := by rw [← e2]; exact h4.2.1 e0 (List.mem_of_getElem? hL)
        have htk : R.take (j + 1) = R.take j ++ [p] := by rw [List.take_add_one, hR]; rfl
        have ip := isr1 p (List.mem_of_getElem? hR)
        have bound : nxt 0 p ≤ t.length := by
          unfold nxt
          cases hl : p.getLast? with
          | none => exact Nat.zero_le _
          | some z =>
            have := (isr_at ip (i := p.length - 1) (q := z) (by rw [← List.getLast?_eq_getElem?]; exact hl)).2.1
            show z + 1 ≤ t.length
            omega
        -- first
        refine q_asg (v := .int (nxt 0 p : Nat)) (fun Ha ea Qa qa => ?_) fun Hb eb => ?_
        · have ht1 := ea _ _ (a1 _ _ ht0)
          refine ⟨_, rfl, by show 0 ≤ sizeLine; decide, fun z nz => ?_⟩
          have ht2 : upd Ha z (.tup []) e0.1 = some (.tup ((nts p).map V.int)) := by rw [upd_ne (ne_of_none ht1 nz)]; exact ht1
          refine ⟨.tuple ((nts p).map .int), .tuple ([].map .int), .tup (.inl (.inl ht2)) (dpAll_ints _), .tup (.inl (.inl upd_same)) (dpAll_ints []), shaped_tup _, shaped_tup [], _, rfl, ?_⟩
          have ev : PyData.eqv (.tuple ((nts p).map .int)) (.tuple (([] : List Int).map .int)) = decide (nts p = []) := eqvAll_ints (nts p) []
          rw [ev]
          by_cases hp0 : p = []
          · subst hp0
            refine iteF ?_
            exact qa _ (Ex.new nz)
          · have hi0 : nts p ≠ [] := by
              unfold nts
              simpa using hp0
            rw [decide_eq_false hi0]
            refine iteT ?_
            have hl : p.getLast? = some (p.getLast hp0) := List.getLast?_eq_some_getLast hp0
            have hn : nxt 0 p = p.getLast hp0 + 1 := by unfold nxt; rw [hl]
            have hpl : 0 < p.length := List.length_pos_iff.mpr hp0
            refine ⟨_, rfl, 1, rfl, e0.1, _, _, .int (p.getLast hp0 : Nat), rfl, rfl, .inl (.inl ht2), last_at (n := p.length - 1) (by rw [List.length_map, nts, List.length_map]; omega) (by rw [List.getElem?_map, nts, List.getElem?_map, ← List.getLast?_eq_getElem?, hl]; rfl), _, 1, rfl, rfl, ?_⟩
            have := qa _ (Ex.new nz (o := .tup []))
            rw [hn] at this
            exact this
        · -- wider = wider + [..]
          have x1 : Ex H' Hb := a1.trans eb
          have ht1 := x1 _ _ ht0
          have a4 := a3.ex eb
          refine ⟨_, rfl, _, rfl, _, rfl, mk t, rfl, by rw [mk_len]; exact sz_of (by omega), _, _, rfl, ⟨by omega, by omega, by rw [mk_len]; omega, by rw [mk_len]; omega⟩, fun D nD => ?_⟩
          have en : (((mk t).length : Nat) : Int) - ((nxt 0 p : Nat) : Int) = ((t.length - nxt 0 p : Nat) : Int) := by rw [mk_len]; omega
          rw [en, Int.toNat_natCast]
          refine lc_range (lo := ((nxt 0 p : Nat) : Int)) (n := t.length - nxt 0 p) (fun k H3 => ∃ L', Ex Hb H3 ∧ TupL H3 D L' ((((List.range k).map fun j => nxt 0 p + j).filter fun q => decide (t[q]? = some a)).map fun q => p ++ [q])) ⟨[], Ex.new nD, upd_same, fun e he => by simp at he, by simp⟩ (fun k H3 hk hp => ?_) (fun H3 hp => ?_)
          · obtain ⟨L', b1, b2⟩ := hp
            have ek : ((nxt 0 p : Nat) : Int) + (k : Nat) = ((nxt 0 p + k : Nat) : Int) := by omega
            rw [ek]
            have hkt : nxt 0 p + k < t.length := by omega
            have att : atI (mk t).cps.toList ((nxt 0 p + k : Nat) : Int) = some t[nxt 0 p + k] := atI_nat (by rw [mk_list]; exact List.getElem?_eq_getElem hkt)
            have ef : (((List.range (k + 1)).map fun j => nxt 0 p + j).filter fun q => decide (t[q]? = some a)) = (((List.range k).map fun j => nxt 0 p + j).filter fun q => decide (t[q]? = some a)) ++ (if t[nxt 0 p + k] = a then [nxt 0 p + k] else []) := by
              rw [List.range_succ, List.map_append, List.filter_append]
              congr 1
              show List.filter _ [nxt 0 p + k] = _
              rw [List.filter_cons, List.filter_nil, List.getElem?_eq_getElem hkt]
              by_cases z : t[nxt 0 p + k] = a
              · rw [if_pos z, if_pos (decide_eq_true (by rw [z]))]
              · rw [if_neg z, if_neg (fun y => z (Option.some.inj (of_decide_eq_true y)))]
            have lL' := b2.len
            have lk : L'.length ≤ k := by
              rw [lL', List.length_map]
              refine Nat.le_trans (List.length_filter_le _ _) ?_
              rw [List.length_map, List.length_range]
              exact Nat.le_refl k
            refine ⟨rfl, ?_⟩
            refine ⟨_, rfl, _, rfl, mk t, _, t[nxt 0 p + k], rfl, rfl, by rw [mk_len]; exact sz_of (by omega), att, _, rfl, rfl, _, rfl, ?_⟩
            refine ite2 (fun h => ?_) (fun h => ?_)
            · have hc : t[nxt 0 p + k] = a := by
                have := (tx_inj (l := [t[nxt 0 p + k]]) (m := [a])).mp (of_decide_eq_true h)
                simpa using this
              rw [if_pos hc] at ef
              have ht3 := b1 _ _ ht1
              refine ⟨_, rfl, _, rfl, by show 1 ≤ sizeLine; decide, fun z nz => ?_⟩
              have ht4 : upd H3 z (.tup [V.int ((nxt 0 p + k : Nat) : Int)]) e0.1 = some (.tup ((nts p).map V.int)) := by rw [upd_ne (ne_of_none ht3 nz)]; exact ht3
              have fin : ∀ (b : Addr) (H4 : Hp), Ex H3 H4 → H4 b = some (.tup ((nts (p ++ [nxt 0 p + k])).map V.int)) → ∃ acc, H4 D = some (.lst acc) ∧ acc.length < sizeLine ∧ ∃ L', Ex Hb (upd H4 D (.lst (acc ++ [.ref b]))) ∧ TupL (upd H4 D (.lst (acc ++ [.ref b]))) D L' ((((List.range (k + 1)).map fun j => nxt 0 p + j).filter fun q => decide (t[q]? = some a)).map fun q => p ++ [q]) := by
                intro b H4 e4 hb
                have hD := e4 _ _ b2.1
                have bD : b ≠ D := fun z => by
                  rw [z, hD] at hb
                  cases hb
                refine ⟨_, hD, by rw [List.length_map]; exact sz_lt (by omega), L' ++ [(b, nts (p ++ [nxt 0 p + k]))], Ex.mut (b1.trans e4) nD, ?_, fun e he => ?_, ?_⟩
                · rw [upd_same, List.map_append]
                  rfl
                · rcases List.mem_append.mp he with e' | e'
                  · have h5 := e4 _ _ (b2.2.1 e e')
                    have eD : e.1 ≠ D := fun z => by
                      rw [z, hD] at h5
                      cases h5
                    rw [upd_ne eD]
                    exact h5
                  · rw [List.mem_singleton] at e'
                    subst e'
                    rw [upd_ne bD]
                    exact hb
                · rw [List.map_append, b2.2.2, ef, List.map_append, List.map_append]
                  rfl
              have ei : nts (p ++ [nxt 0 p + k]) = nts p ++ [((nxt 0 p + k : Nat) : Int)] := by
                unfold nts
                rw [List.map_append]
                rfl
              refine ⟨e0.1, z, _, _, rfl, rfl, .inl (.inl ht4), .inl (.inl upd_same), by
                rw [List.length_map, nts, List.length_map, isr_len ip, List.length_take]
                exact sz_of (by show _ + 1 ≤ _; omega), fun hx0 => ?_, fun _ hy0 => by simp at hy0, fun _ _ z2 nz2 => ?_⟩
              · refine fin z _ (Ex.new nz) ?_
                rw [upd_same, ei]
                have : nts p = [] := by simpa using hx0
                rw [this]
                rfl
              · refine fin z2 _ ((Ex.new nz).trans (Ex.new nz2)) ?_
                rw [upd_same, ei, List.map_append]
                rfl
            · have hc : ¬ t[nxt 0 p + k] = a := fun z => h (decide_eq_true (by rw [z]))
              rw [if_neg hc, List.append_nil] at ef
              exact ⟨L', b1, by rw [ef]; exact b2⟩
          · obtain ⟨L', b1, b2⟩ := hp
            have a5 := a4.ex b1
            have eP : (((List.range (t.length - nxt 0 p)).map fun j => nxt 0 p + j).filter fun q => decide (t[q]? = some a)) = plcs t a (nxt 0 p) := rfl
            rw [eP] at b2
            have eT : ((R.take (j + 1)).flatMap fun p => (plcs t a (nxt 0 p)).map fun q => p ++ [q]) = ((R.take j).flatMap fun p => (plcs t a (nxt 0 p)).map fun q => p ++ [q]) ++ (plcs t a (nxt 0 p)).map fun q => p ++ [q] := by
              rw [htk, List.flatMap_append, List.flatMap_singleton]
            have lw := a5.len
            have l' := b2.len
            have bd := flat_tk (fun p => (plcs t a (nxt 0 p)).map fun q => p ++ [q]) R (j + 1)
            rw [eT, List.length_append] at bd
            refine ⟨pw, D, _, _, rfl, rfl, a5.1, b2.1, by rw [List.length_map, List.length_map]; exact sz_of (by omega), fun z nz => ?_⟩
            have xz : Ex H3 (upd H3 z (.lst ((W.map fun e => V.ref e.1) ++ L'.map fun e => V.ref e.1))) := Ex.new nz
            refine ⟨z, W ++ L', _, _, _, rfl, (x1.trans b1).trans xz, fresh_back (h2.trans (x1.trans b1)) nz, ?_, fun e he => ?_, ?_⟩
            · rw [upd_same, List.map_append]
            · rcases List.mem_append.mp he with e' | e'
              · exact xz _ _ (a5.2.1 e e')
              · exact xz _ _ (b2.2.1 e e')
            · rw [eT, List.map_append, List.map_append, a5.2.2, b2.2.2]
      · obtain ⟨pw, W, y5, y6, y7, rfl, a1, a2, a3⟩ := hp
        rw [List.length_map, lenL, List.take_of_length_le (Nat.le_refl _)] at a3
        exact ⟨_, rfl, pw, W, _, _, _, _, _, rfl, h2.trans a1, a2, a3⟩
    · subst h1
      rw [List.take_of_length_le (Nat.le_refl _)] at h4
      -- return sorted(found)
      have up := rds_up t u 0
      have sub : ∀ e ∈ L, ∃ p ∈ rds t 0 u, e.2 = nts p := fun e he => by
        have : e.2 ∈ L.map (·.2) := List.mem_map.mpr ⟨e, he, rfl⟩
        rw [h4.2.2] at this
        obtain ⟨p, hp, e⟩ := List.mem_map.mp this
        exact ⟨p, hp, e.symm⟩
      refine ⟨_, rfl, pf, L, rfl, .inl (.inl h4.1), fun e he => .inl (.inl (h4.2.1 e he)), ?_, ?_, fun z nz => ?_⟩
      · have : (L.map (·.2)).Pairwise fun n m => HT.lexLt m n = false := by
          rw [h4.2.2, List.pairwise_map]
          refine up.imp fun {b c} h => ?_
          exact lex_rev h
        rw [List.pairwise_map] at this
        exact this
      · by_cases hu0 : u = []
        · subst hu0
          right
          have l1 := h4.len
          rw [rds_nil] at l1
          match L, l1, h4 with
          | [(z, n)], _, h4 =>
            have : [n] = [nts []] := h4.2.2
            exact ⟨z, by rw [List.singleton_inj.mp this]; rfl⟩
        · left
          intro e he
          obtain ⟨p, hp, e2⟩ := sub e he
          rw [e2]
          have := isr_len ((rds_isr t u 0 p).mp hp)
          intro z
          have zl : (nts p).length = 0 := by rw [z]; rfl
          unfold nts at zl
          rw [List.length_map, this] at zl
          exact hu0 (List.length_eq_zero_iff.mp zl)
      · refine q _ z L (h2.trans (Ex.new nz)) (fresh_back h2 nz) ⟨upd_same, fun e he => ?_, h4.2.2⟩
        exact Ex.new nz _ _ (h4.2.1 e he)
end
end K01
set_option Elab.async false
set_option linter.all false
set_option maxRecDepth 100000
set_option maxHeartbeats 4000000
/-! Gx: promises of defs that hold where no repr is under way around the call: what repr of a list or a tuple wants -/
namespace Gx
open PySem PySem.Spec PyProof.Rows L2
structure FnG (P : Program) (w : World) (K : PySem.W.Frag) (mg : Str → Option Value) (base : Heap) (CX : CXT) (k : Nat) (f : Addr) (fd : FuncData) (ps : List Str) (sp : Sp) : Prop where
  len : ∀ vs H Q E, sp vs H Q E → vs.length = ps.length
  go : ∀ (A : Around) (o : List Env) (s : Shared) (H : Hp) (as : Args) (us : List Value) (vs : List V) (Q : VK) (E : XK), A.guards = some [] → Room k A → Env0 P w K mg base A o s H →
    BindsTo s fd as (ps.zip us) → Vals vs us → sp vs H Q E → codeAny (model P w) A (.call (.ref f) as) (CR CX o P w H s Q E) s
section
variable {P : Program} {w : World} {K : PySem.W.Frag} {mg : Str → Option Value} {base : Heap}
theorem FnG.of {CX : CXT} {k : Nat} {f : Addr} {fd : FuncData} {ps : List Str} {sp : Sp} (F : FnOk P w K mg base CX k f fd ps sp) : FnG P w K mg base CX k f fd ps sp :=
  ⟨F.len, fun A o s H as us vs Q E _ hr e hb r h => F.run A o s H as us vs Q E hr e hb r h⟩
theorem okG {x qual : Str} {st : Stmt} {f : Addr} {fd : FuncData} {N ps : List Str} {k : Nat} {sp : Sp} (F : Fun K x qual st f fd) (S : FnScope N ps (defScope st)) (len : ∀ vs H Q E, sp vs H Q E → vs.length = ps.length)
    (body : ∀ (cdv : Value) (A : Around) (o : List Env) (s : Shared) (H : Hp) (vs : List V) (Q : VK) (E : XK), A.guards = some [] → Room k (A.deeper (envOfC qual (defScope st) s.heap.objs.size f cdv)) → sp vs H Q E →
      ∃ t, PSs (cxOf CX0 P w K mg base N qual (defScope st) f cdv A o s H E).nox (defBody st) t ∧ t { nx := fun _ H' => Q .non H', rt := Q } (start N vs) H) : FnG P w K mg base CX0 (k + 1) f fd ps sp := by
  obtain ⟨c1, c2, c3, c4, c5, c6, cdv, c7, c8, rfl, look, isCode⟩ := F.ex
  refine ⟨len, fun A o s H as us vs Q E gA room env bound vals promise => ?_⟩
  have many := len _ _ _ _ promise
  have inK : K.In s.heap := env.mod.kin.keeps fun b u e => (env.bs b u e).1
  have free : s.heap.NoLimit := env.mod.nolimit.keeps fun b u e => (env.bs b u e).1
  have kinds : ∀ y ∈ ps.zip us, (defScope st).names.lookup y.1 = some .local ∨ ((defScope st).names.lookup y.1 = some .cell ∧ ((cellsFrom (s.heap.objs.size + 1) (defScope st).names []).lookup y.1).isSome = true) := by
    rintro ⟨n, v⟩ hy
    exact (S.par n (List.of_mem_zip hy).1).imp id fun q => ⟨q, PySem.W.cellsFrom_some _ _ _ (.inl q)⟩
  apply codeAny_call_function room.depth (inK _ _ look) rfl S.co S.gen rfl (PySem.W.codeRec_of inK isCode)
  apply bound
  refine wpAny_newFunctionEnv_cells S.kind kinds fun en isEn s1 made => ?_
  subst isEn
  refine ⟨free.keeps made.toInCall.keep, codeAny_func ?_⟩
  obtain ⟨t, isT, reads⟩ := body cdv A o s H vs Q E gA (room.deeper _) promise
  have I := inv_start (CX := CX0) (P := P) (w := w) (K := K) (mg := mg) (base := base) (E := E) S room.hd env many vals made
  have done : ∀ {σ' : L2.St} {H' : Hp} {v : V} {u : Value} {s' : Shared}, Inv (cxOf CX0 P w K mg base N qual (defScope st) f cdv A o s H E) [] σ' H' s' → RelV v u → Q v H' → CE o P w H s Q u s' := fun J r q => ⟨_, _, J.os, J.bare, J.base, J.hok, r, q⟩
  refine wpAny_mono (isT.nox.run [] s1 (start N vs) H _ I reads) (fun flow s' ends => ?_) fun _ _ h => h
  match flow, ends with
  | .ret u, ⟨_, _, _, J, r, q⟩ => exact done J r q
  | .next, ⟨_, _, J, q⟩ => exact done (v := V.non) (u := Value.none) J rfl q
  | .brk, ⟨_, _, _, q⟩ => exact q.elim
  | .cont, ⟨_, _, _, q⟩ => exact q.elim
end
section
variable {X : Cx} {CX : CXT} {k : Nat} {f : Addr} {fd : FuncData} {ps ks : List Str} {sp : Sp} {dvs : List V} {ds : List Value} {E : XK} {x : Str} {p pos : Pos} {e : Expr} {es : List Expr} {t tk : TA} {kws : List Keyword}
  {g : List Value → List Value → List Value} {gV : List V → List V → List V}
theorem back {pins : List (Addr × Obj)} {σ : L2.St} {H : Hp} {s : Shared} {Q : VK} {as : Args} (hx : Passes CX X E) (I : Inv X pins σ H s)
    (h : codeAny (model X.prog X.w) X.A (.call (.ref f) as) (CR CX X.stack X.prog X.w H s Q E) s) : codeAny (model X.prog X.w) X.A (.call (.ref f) as) (fun r s' => match r with | .ok (.ret u) => EP X pins σ Q u s' | .ok _ => False | .error e => X.xe e s') s := by
  refine codeAny_mono h fun r s' q => ?_
  match r, q with
  | .error e, q => exact hx pins σ H s e s' I q
  | .ok (.ret u), q => exact I.after q
  | .ok .next, q => exact q.elim
  | .ok .brk, q => exact q.elim
  | .ok .cont, q => exact q.elim
theorem pe_callG (F : FnG X.prog X.w X.K X.mg X.base CX k f fd ps sp) (hr : Room k X.A) (hq : X.A.guards = some []) (hg : Gl X x) (hm : X.mg x = some (.ref f)) (hk : PySem.W.keepIn X.K (.ref f) = true) (hb : Binds X.K fd ps ds) (hd : Vals dvs ds) (hx : Passes CX X E)
    (ha : PA X (e :: es) t) (hdb : (x == ("__debug__" : Str)) = false := by decide) (he : starEach (e :: es) X.env = (false, eval e X.env) :: starEach es X.env := by rfl) (hpl : (backTo pos (starEach es X.env)).any (·.1) = false := by rfl) :
    PE X (.Call (.Name x p) (e :: es) [] pos) (tCall sp dvs E t) := ⟨fun pins s σ H Q I h => by
  apply wpAny_Call_Name_kw
  refine ld_glob I hg hm ?_ hdb
  refine PySem.W.callWith_K (h₀ := X.base) I.ok.mod.kin hk (thn (ha.run pos pins s σ H _ I h) fun us s1 r1 => ?_) he hpl
  obtain ⟨vs, H1, I1, rv, q⟩ := r1
  have all := rv.append hd
  refine ⟨I1.kIn, wpAny_call ?_⟩
  refine codeAny_mono (back hx I1 (F.go X.A X.stack s1 H1 ⟨us, []⟩ (us ++ ds) (vs ++ dvs) Q E hq hr I1.env0 (hb s1 us I1.kIn ?_) all q)) fun r s' z => ?_
  · rw [← all.length]
    exact F.len _ _ _ _ q
  · match r, z with
    | .error e, z => exact z
    | .ok (.ret u), z => exact z⟩
theorem run_keys {pins : List (Addr × Obj)} {σ : L2.St} {H : Hp} {s : Shared} {Q : VK} {us ws : List Value} {vs zs : List V} (F : FnG X.prog X.w X.K X.mg X.base CX k f fd ps sp) (hr : Room k X.A) (hq : X.A.guards = some []) (hb : KBinds X.K fd ps ks g gV) (hx : Passes CX X E)
    (I : L2.Inv X pins σ H s) (r : Vals vs us) (rz : Vals zs ws) (h : sp (gV vs zs) H Q E) : wpAny (model X.prog X.w) X.A (call (.ref f) us (ks.zip ws)) (EP X pins σ Q) X.xe s := by
  have all := hb.rel r rz
  refine wpAny_call (codeAny_mono (back hx I (F.go X.A X.stack s H ⟨us, ks.zip ws⟩ (g us ws) (gV vs zs) Q E hq hr I.env0 (hb.to s us ws I.kIn ?_) all h)) fun r s' z => ?_)
  · rw [← all.length]
    exact F.len _ _ _ _ h
  · match r, z with
    | .error e, z => exact z
    | .ok (.ret u), z => exact z
theorem pe_callKG (F : FnG X.prog X.w X.K X.mg X.base CX k f fd ps sp) (hr : Room k X.A) (hq : X.A.guards = some []) (hg : Gl X x) (hm : X.mg x = some (.ref f)) (hk : PySem.W.keepIn X.K (.ref f) = true) (hb : KBinds X.K fd ps ks g gV) (hx : Passes CX X E)
    (ha : PA X (e :: es) t) (hkw : PK X kws tk) (hall : (backToKw pos (keywordEach kws X.env)).all (·.1.isSome) = true := by rfl) (hks : (backToKw pos (keywordEach kws X.env)).filterMap (·.1) = ks := by rfl)
    (hdb : (x == ("__debug__" : Str)) = false := by decide) (he : starEach (e :: es) X.env = (false, eval e X.env) :: starEach es X.env := by rfl)
    (hpl : ((backTo pos (starEach (e :: es) X.env)).any (·.1) || (backToKw pos (keywordEach kws X.env)).any (·.1.isNone)) = false := by rfl) :
    PE X (.Call (.Name x p) (e :: es) kws pos) (tCallK sp gV E t tk) := ⟨fun pins s σ H Q I h => by
  apply wpAny_Call_Name_kw
  refine ld_glob I hg hm ?_ hdb
  refine PySem.W.callWith_KW (h₀ := X.base) I.ok.mod.kin hk hall (thn (ha.run pos pins s σ H _ I h) fun us s1 r1 => ?_) hpl he
  obtain ⟨vs, H1, I1, rv, q⟩ := r1
  refine thn (hkw.run pos pins s1 σ H1 _ I1 q) fun ws s2 r2 => ?_
  obtain ⟨zs, H2, I2, rz, q2⟩ := r2
  refine ⟨I2.kIn, ?_⟩
  rw [hks]
  exact run_keys F hr hq hb hx I2 rv rz q2⟩
theorem pe_callK0G (F : FnG X.prog X.w X.K X.mg X.base CX k f fd ps sp) (hr : Room k X.A) (hq : X.A.guards = some []) (hg : Gl X x) (hm : X.mg x = some (.ref f)) (hk : PySem.W.keepIn X.K (.ref f) = true) (hb : KBinds X.K fd ps ks g gV) (hx : Passes CX X E)
    (hkw : PK X kws tk) (hall : (backToKw pos (keywordEach kws X.env)).all (·.1.isSome) = true := by rfl) (hks : (backToKw pos (keywordEach kws X.env)).filterMap (·.1) = ks := by rfl)
    (hdb : (x == ("__debug__" : Str)) = false := by decide)
    (hpl : ((backTo pos (starEach [] X.env)).any (·.1) || (backToKw pos (keywordEach kws X.env)).any (·.1.isNone)) = false := by rfl) :
    PE X (.Call (.Name x p) [] kws pos) (Rx.tCallK0 sp gV E tk) := ⟨fun pins s σ H Q I h => by
  apply wpAny_Call_Name_kw
  refine ld_glob I hg hm ?_ hdb
  refine PySem.W.callWith_KW0 (h₀ := X.base) I.ok.mod.kin hk hall (thn (hkw.run pos pins s σ H _ I h) fun ws s2 r2 => ?_) hpl
  obtain ⟨zs, H2, I2, rz, q2⟩ := r2
  refine ⟨I2.kIn, ?_⟩
  rw [hks]
  exact run_keys (us := []) (vs := []) F hr hq hb hx I2 .nil rz q2⟩
theorem pe_call0G (F : FnG X.prog X.w X.K X.mg X.base CX k f fd ps sp) (hr : Room k X.A) (hq : X.A.guards = some []) (hg : Gl X x) (hm : X.mg x = some (.ref f)) (hk : PySem.W.keepIn X.K (.ref f) = true) (hb : Binds X.K fd ps ds) (hd : Vals dvs ds) (hx : Passes CX X E)
    (hdb : (x == ("__debug__" : Str)) = false := by decide) : PE X (.Call (.Name x p) [] [] pos) (tCall sp dvs E tNil) := ⟨fun pins s σ H Q I h => by
  apply wpAny_Call_Name_kw
  refine ld_glob I hg hm ?_ hdb
  refine PySem.W.callWith_K0 I.kIn hk (wpAny_call ?_)
  have h' : sp ([] ++ dvs) H Q E := h
  refine codeAny_mono (back hx I (F.go X.A X.stack s H ⟨[], []⟩ ([] ++ ds) ([] ++ dvs) Q E hq hr I.env0 (hb s [] I.kIn ?_) hd h')) fun r s' z => ?_
  · rw [← (show Vals ([] ++ dvs) ([] ++ ds) from hd).length]
    exact F.len _ _ _ _ h'
  · match r, z with
    | .error e, z => exact z
    | .ok (.ret u), z => exact z⟩
/-! ### repr -/
mutual
theorem dp_plain {K : PySem.W.Frag} {H : Hp} : ∀ {v : V} {d : PyData}, Dp K H v d → d.hasDict = false
  | _, _, .non => rfl
  | _, _, .bl _ => rfl
  | _, _, .int _ => rfl
  | _, _, .str _ => rfl
  | _, _, .lst _ h => by
    simp only [PyData.hasDict]
    exact dpAll_plain h
  | _, _, .tup _ h => by
    simp only [PyData.hasDict]
    exact dpAll_plain h
theorem dpAll_plain {K : PySem.W.Frag} {H : Hp} : ∀ {vs : List V} {ds : List PyData}, DpAll K H vs ds → PyData.hasDictAll ds = false
  | _, _, .nil => rfl
  | _, _, .cons a b => by
    simp only [PyData.hasDictAll, dp_plain a, dpAll_plain b, Bool.or_self]
end
def rRepr (K : PySem.W.Frag) : List V → Hp → VK → Prop := fun xs H Q => ∃ x d, xs = [x] ∧ Dp K H x d ∧ d.showable = true ∧ d.shown.length ≤ sizeLine ∧ d.depth ≤ 60 ∧ Q (.str d.shown) H
theorem cr_repr (hq : X.A.guards = some []) (hu : X.A.units + 64 < cLine) : CallR X (.builtin "repr") (rRepr X.K) := by
  intro pins s σ H xs us Q I r h
  obtain ⟨x, d, rfl, hd, hs, hz, h6, q⟩ := h
  obtain ⟨u, rfl, rx⟩ := vals1 r
  obtain ⟨as, rd⟩ := Dp.reads I d x u hd rx
  have np := dp_plain hd
  have out : ∀ h' tk tk', (∀ b o, s.heap.get? b = some o → h'.get? b = some o) → EP X pins σ Q (.str d.shown tk) { s with heap := h', toks := tk' } := fun h' tk tk' hk => ⟨.str d.shown, H, I.kept hk, ⟨tk, rfl⟩, q⟩
  have out0 : ∀ tk tk', EP X pins σ Q (.str d.shown tk) { s with toks := tk' } := fun tk tk' => ⟨.str d.shown, H, I.tok _, ⟨tk, rfl⟩, q⟩
  cases hd with
  | non => cases (show u = Value.none from rx); exact PySem.P.repr_of_none (out0 _ _)
  | bl b => cases (show u = Value.bool b from rx); exact PySem.P.repr_of_bool (out0 _ _)
  | int i =>
    obtain ⟨t, rfl⟩ := (show ∃ t, u = Value.int i t from rx)
    exact PySem.P.repr_of_int (of_decide_eq_true (by simpa only [PyData.showable] using hs)) (out0 _ _)
  | str z =>
    obtain ⟨t, rfl⟩ := (show ∃ t, u = Value.str z t from rx)
    exact PySem.P.repr_of_str (out0 _ _) hz
  | lst a b =>
    cases (show u = Value.ref _ from rx)
    exact repr_of_reads' rd hs (fun e => by rw [np] at e; cases e) hq (by omega) (fun _ _ e => e) (fun h' u tk hk => out h' u tk hk) hz
  | tup a b =>
    cases (show u = Value.ref _ from rx)
    exact repr_of_reads' rd hs (fun e => by rw [np] at e; cases e) hq (by omega) (fun _ _ e => e) (fun h' u tk hk => out h' u tk hk) hz
end
end Gx
set_option Elab.async false
set_option linter.all false
set_option maxRecDepth 100000
set_option maxHeartbeats 4000000
/-! Ty1: a tuple is no dict -/
namespace Ty
open PySem PySem.Spec PyProof.Rows L2
open SeqAt MeetsSeq AutoSeq1
theorem dict_declines (b l : Addr) (es : Array DictEntry) (ep : Nat) (items : Array Value) (n2 : Nat) (dd dd2 : Option Addr) (sl sl2 : Array (Option Value)) :
    Meets (Builtin.«dict.__eq__» ⟨[.ref b, .ref l], []⟩) (fun _ R s => s.heap.get? b = some { cls := .type "dict", dict := dd, data := .dict es ep, slots := sl } ∧ s.heap.get? l = some { cls := .type "tuple", dict := dd2, data := .seq items n2, slots := sl2 } ∧ R (.ok (.ret .notImplemented)) s) := by
  refine .of_wp fun prog w A R s h => ?_
  obtain ⟨hb, hl, h⟩ := h
  unfold Builtin.«dict.__eq__»
  refine wpAny_bind (wpAny_of_eq (a := (Value.ref b, Value.ref l)) rfl ?_)
  try dsimp only
  refine wpAny_bind (wpAny_isInstance (T := "tuple") (U := "dict") (b := false) ⟨_, hl, rfl⟩ F.sub_tuple_dict ?_)
  rw [if_pos (show (!false) = true from rfl)]
  exact wpAny_bind (wpAny_rule (wpAny_pure ⟨_, rfl, h⟩))
theorem tuple_declines (l b : Addr) (items : Array Value) (n : Nat) (es : Array DictEntry) (ep : Nat) (dd dd2 : Option Addr) (sl sl2 : Array (Option Value)) :
    Meets (Builtin.«tuple.__eq__» ⟨[.ref l, .ref b], []⟩) (fun _ R s => s.heap.get? l = some { cls := .type "tuple", dict := dd, data := .seq items n, slots := sl } ∧ s.heap.get? b = some { cls := .type "dict", dict := dd2, data := .dict es ep, slots := sl2 } ∧ R (.ok (.ret .notImplemented)) s) :=
  .of_wp fun prog w A R s h => by
    obtain ⟨hp, g, d, tk, os⟩ := s
    obtain ⟨hl, hb, h⟩ := h
    have f1 := F.sub_dict_tuple
    wp_walk using wpAny_loadPart' hl, wpAny_loadPart' hb
    exact ⟨_, rfl, h⟩
section
variable {A : Around} {s : Shared}
theorem tuple_dict {l b : Addr} {items : Array Value} {od : Obj} {es : Array DictEntry} {ep : Nat} (hl : s.heap.IsTuple l items) (hb : s.heap.get? b = some od) (hc : od.cls = .type "dict") (hd : od.data = .dict es ep) (hu : A.units < cLine) : RcAt A s (.ref l) (.ref b) false := by
  obtain ⟨⟨cls, dd, data, sl⟩, ho, hc1, n, hd1⟩ := id hl
  obtain ⟨cls2, dd2, data2, sl2⟩ := od
  simp only at hc hd hc1 hd1
  subst hc hd hc1 hd1
  have hne : l ≠ b := fun e => by
    subst e
    have z := congrArg Obj.cls (Option.some.inj (ho.symm.trans hb))
    exact absurd z (by simp)
  refine fun prog w E Q h => ?_
  exact rc_eq_decline_or (k := false) ⟨_, ho, rfl⟩ ⟨_, hb, rfl⟩ (by decide) F.sub_dict_tuple F.slot_tuple_eq F.slot_dict_eq_refl
    (fun _ hq => call_meets F.slot_tuple_eq ⟨_, ho, rfl⟩ F.entry_tuple_eq (F.args_tuple_eq_2 _ _) (tuple_declines l b items n es ep dd dd2 sl sl2) ⟨ho, hb, hq⟩)
    (fun _ hq => call_meets F.slot_dict_eq_refl ⟨_, hb, rfl⟩ F.entry_dict_eq (F.args_dict_eq_2 _ _) (dict_declines b l es ep items n dd2 dd sl2 sl) ⟨hb, ho, hq⟩)
    (fun _ hq => wpAny_isSame_ref_other' hne ho hb (by simp) hq) (.inr hu) h
end
/-- x == y of data, or of a tuple and a dict -/
def rEqO (K : PySem.W.Frag) : R2 := fun x y H Q => rEqD K x y H Q ∨ ∃ a xs b kvs, x = .ref a ∧ y = .ref b ∧ SqT K H a xs ∧ H b = some (.dK kvs) ∧ Q (.bl false) H
theorem op_eqO {X : Cx} (hu : X.A.units + 64 < cLine) : OpR X (compareOp .Eq) (rEqO X.K) := by
  intro pins s σ H x y v u Q I rx ry h
  rcases h with h | ⟨a, xs, b, kvs, rfl, rfl, hx, hy, q⟩
  · exact op_eqD hu pins s σ H x y v u Q I rx ry h
  · cases (show v = Value.ref a from rx)
    cases (show u = Value.ref b from ry)
    obtain ⟨its, r, ht, _⟩ := I.tuple hx
    obtain ⟨_, _, _, _, o, es, ep, h2, ex, h3, _⟩ := (show ObjOk X.prog X.w H s.heap b (.dK kvs) from I.hok b _ hy)
    exact tuple_dict ht h2 ex.1 h3 (by omega) X.prog X.w X.xe _ ⟨.bl false, H, I, rfl, q⟩
end Ty
set_option Elab.async false
set_option linter.all false
set_option maxRecDepth 100000
set_option maxHeartbeats 4000000
/-! Ty2: a tuple turned about -/
namespace HT
open PySem PySem.Spec PyProof.Rows
section
variable {prog : Program} {w : World} {A : Around} {E : Value → Shared → Prop} {s : Shared}
theorem applied_back {sl : Addr} {vl vu vs : Value} {n : Nat} {Q : Int × Int × Nat → Shared → Prop} (hs : s.heap.IsSliceOf sl vl vu vs) (pl : IsPart vl none) (pu : IsPart vu none) (ps : IsPart vs (some (-1)))
    (h : Q ((n : Int) - 1, -1, n) s) : wpAny (model prog w) A (Builtin.Slice.sliceApplied (.ref sl) (pure (n : Int))) Q E s := by
  obtain ⟨os, hos, hcs, hds⟩ := id hs
  unfold Builtin.Slice.sliceApplied Builtin.Slice.sliceFields
  refine wpAny_bind (wpAny_bind (wpAny_field hos hds (x := vl) rfl (wpAny_bind (wpAny_field hos hds (x := vu) rfl (wpAny_bind (wpAny_field hos hds (x := vs) rfl (wpAny_pure ?_)))))))
  refine wpAny_bind (slicePart_ ps ?_)
  show wpAny _ _ (if ((-1 : Int) == 0) = true then _ else _) _ _ s
  rw [if_neg (by decide)]
  refine wpAny_bind (slicePart_ pl (wpAny_bind (slicePart_ pu (wpAny_bind (wpAny_pure ?_)))))
  show wpAny _ _ (pure ((n : Int) - 1, (-1 : Int), Builtin.Slice.slicePlaces ((n : Int) - 1) (-1) (-1))) _ _ s
  have e : Builtin.Slice.slicePlaces ((n : Int) - 1) (-1) (-1) = n := by
    unfold Builtin.Slice.slicePlaces
    have h1 : ¬ ((-1 : Int) > 0) := by decide
    simp only [h1, if_false]
    by_cases z : (n : Int) - 1 > -1
    · rw [if_pos z, show (-(-1) : Int) = 1 by decide, Int.ediv_one]
      omega
    · rw [if_neg z]
      omega
  rw [e]
  exact wpAny_pure h
theorem pick_back (xs : Array Value) : ((List.range xs.size).filterMap fun (m : Nat) => xs[(((xs.size : Int) - 1) + (m : Int) * (-1)).toNat]?).toArray = xs.toList.reverse.toArray := by
  have e : ((List.range xs.size).filterMap fun (m : Nat) => xs[(((xs.size : Int) - 1) + (m : Int) * (-1)).toNat]?) = ((List.range xs.size).map fun m => xs.size - 1 - m).filterMap (xs[·]?) := by
    rw [List.filterMap_map]
    congr 1
    funext m
    show _ = xs[xs.size - 1 - m]?
    congr 1
    omega
  rw [e, PySem.W.krv_range, List.filterMap_reverse, PySem.W.krv_all]
theorem getItem_tuple_back {t sl : Addr} {items : Array Value} {vl vu vs : Value} {Q : Value → Shared → Prop} (ht : IsTup s.heap t items) (hs : s.heap.IsSliceOf sl vl vu vs) (pl : IsPart vl none) (pu : IsPart vu none) (ps : IsPart vs (some (-1)))
    (h : Q (.ref s.heap.objs.size) { s with heap := s.heap.push { cls := .type "tuple", data := .seq items.toList.reverse.toArray } })
    (hsz : items.size ≤ sizeLine) : wpAny (model prog w) A (getItem (.ref t) (.ref sl)) Q E s := by
  have ok : sizeOk (.seq items.toList.reverse.toArray) := by
    show items.toList.reverse.toArray.size ≤ sizeLine
    rw [List.size_toArray, List.length_reverse, Array.length_toList]
    exact hsz
  obtain ⟨os, hos, hcs, hds⟩ := id hs
  have isSlice : s.TypeIs (.ref sl) "slice" := ⟨os, hos, hcs⟩
  unfold getItem
  try with_reducible refine wpAny_holding ?_
  first | refine wpAny_bind (wpAny_pure ?_) | skip
  refine wpAny_bind (wpAny_sequenceKey ht.typeIs (by decide) ?_)
  refine wpAny_bind (wpAny_callSpecial?_slot (name := Str.ofString "__getitem__") ht.typeIs slot_tuple_getitem (wpAny_call_entry slot_tuple_getitem ht.typeIs entry_tuple_getitem ?_ (args_tuple_getitem _ _)))
  show wpAny _ _ (Builtin.Tuple.tupleItemsOf (.ref t) >>= _) _ _ s
  refine wpAny_bind (tupleItemsOf_ ht (wpAny_bind (wpAny_typeOf isSlice ?_)))
  rw [if_pos (by decide)]
  refine wpAny_bind (applied_back hs pl pu ps ?_)
  show wpAny _ _ (if ((((items.size : Int) - 1) == 0 && (-1 : Int) == 1 && items.size == items.size) = true) then _ else _) _ _ s
  rw [if_neg (by
    intro q
    rw [Bool.and_eq_true, Bool.and_eq_true] at q
    exact absurd q.1.2 (by decide)), pick_back]
  first
    | exact wpAny_bind (m := Builtin.Tuple.tupleExact _) (wpAny_newObj_type (wpAny_pure ⟨_, rfl, wpAny_pure h⟩) ok)
    | exact wpAny_bind (m := Builtin.Tuple.tupleExact _) (wpAny_newObj_type (wpAny_bind (wpAny_pure (wpAny_pure ⟨_, rfl, wpAny_pure h⟩))) ok)
    | exact wpAny_bind (wpAny_bind (m := Builtin.Tuple.tupleExact _) (wpAny_newObj_type (wpAny_pure (wpAny_pure ⟨_, rfl, wpAny_pure h⟩)) ok))
    | exact wpAny_bind (wpAny_bind (m := Builtin.Tuple.tupleExact _) (wpAny_newObj_type (wpAny_pure ⟨_, rfl, wpAny_pure h⟩) ok))
end
end HT
namespace Ty
open PySem PySem.Spec PyProof.Rows L2
def tRevT (K : PySem.W.Frag) (te : TE) (th : TO) : TE := fun σ H Q => te σ H fun x H1 => th σ H1 fun o H2 => ∃ a xs, x = .ref a ∧ o = some (-1) ∧ SqT K H2 a xs ∧ ∀ p, H2 p = none → Q (.ref p) (upd H2 p (.tup xs.reverse))
theorem pe_revT {X : Cx} {e k : Expr} {te : TE} {th : TO} {p3 pos : Pos} (he : PE X e te) (hk : PO X (some k) th) : PE X (.Subscript e (.Slice none none (some k) p3) pos) (tRevT X.K te th) := by
  refine ⟨fun pins s σ H Q I h => ?_⟩
  refine Subscript_ (thn (he.run pins s σ H _ I h) fun v s1 ⟨x, H1, I1, r1, q1⟩ => ?_)
  refine wpAny_Slice (thn (po_none.run pins s1 σ H1 (fun o H2 => o = none ∧ H2 = H1) I1 ⟨rfl, rfl⟩) fun vl s2 ⟨l, H2, I2, pl, el, e2⟩ => ?_)
  subst el e2
  refine thn (po_none.run pins s2 σ H2 (fun o H3 => o = none ∧ H3 = H2) I2 ⟨rfl, rfl⟩) fun vu s3 ⟨u, H3, I3, pu, eu, e3⟩ => ?_
  subst eu e3
  refine thn (hk.run pins s3 σ H3 _ I3 q1) fun vs s4 ⟨o, H4, I4, ps, q2⟩ => ?_
  obtain ⟨a, xs, rfl, rfl, hx, q⟩ := q2
  cases (show v = Value.ref a from r1)
  have I5 : L2.Inv X pins σ H4 { s4 with heap := s4.heap.push { cls := .type "slice", data := .fields #[vl, vu, vs] } } := I4.kept (t' := s4.toks) fun b ob q => Heap.get?_push_of_some _ q
  obtain ⟨its, r, ht, hz⟩ := I5.tuple hx
  have len := r.length
  show wpAny (model X.prog X.w) X.A (subscriptTail e (.Slice none none (some k) p3) (.ref a) (.ref s4.heap.objs.size)) (EP X pins σ Q) X.xe { s4 with heap := s4.heap.push { cls := .type "slice", data := .fields #[vl, vu, vs] } }
  refine tail_any (ops := [.ref a, .ref s4.heap.objs.size]) ht.typeIs (PyProof.Rows.slot_tuple_getitem.lookup) ?_ (by with_unfolding_all rfl)
  refine HT.getItem_tuple_back ht (Heap.IsSliceOf.new _ vl vu vs) pl pu ps ?_ (by rw [List.size_toArray]; omega)
  refine ⟨.ref _, _, I5.laid (t' := s4.toks) (o := .tup xs.reverse) (fun b ob q => Heap.get?_push_of_some _ q) (Nat.le_refl _) ?_, rfl, q _ (I5.hok.fresh (Nat.le_refl _))⟩
  exact ⟨by rw [List.length_reverse]; exact hz, _, r.reverse, ⟨_, Heap.get?_push_size _ rfl, rfl, _, rfl⟩⟩
end Ty
set_option Elab.async false
set_option linter.all false
set_option maxRecDepth 100000
set_option maxHeartbeats 4000000
/-! Dx: data that are compared, by short words -/
namespace Dx
open PySem PySem.Spec PyProof.Rows L2 Evl Bx
abbrev dT (ts : List (List Nat)) : PyData := .list (ts.map fun t => .str (mk t))
abbrev dI (ns : List Int) : PyData := .list (ns.map .int)
abbrev uT (ts : List (List Nat)) : PyData := .tuple (ts.map fun t => .str (mk t))
abbrev uI (ns : List Int) : PyData := .tuple (ns.map .int)
section
variable {K : PySem.W.Frag} {H : Hp} {p : Addr}
theorem dpAll_txs : ∀ ts : List (List Nat), DpAll K H (ts.map tx) (ts.map fun t => .str (mk t))
  | [] => .nil
  | t :: ts => .cons (.str _) (dpAll_txs ts)
theorem dp_txs {ts : List (List Nat)} (h : H p = some (.lst (ts.map tx))) : Dp K H (.ref p) (dT ts) := .lst (.inl (.inl h)) (dpAll_txs ts)
theorem dp_ints {ns : List Int} (h : H p = some (.lst (ns.map V.int))) : Dp K H (.ref p) (dI ns) := .lst (.inl (.inl h)) (dpAll_ints ns)
theorem dp_utxs {ts : List (List Nat)} (h : H p = some (.tup (ts.map tx))) : Dp K H (.ref p) (uT ts) := .tup (.inl (.inl h)) (dpAll_txs ts)
theorem dp_uints {ns : List Int} (h : H p = some (.tup (ns.map V.int))) : Dp K H (.ref p) (uI ns) := .tup (.inl (.inl h)) (dpAll_ints ns)
end
theorem sh_txs {ts : List (List Nat)} (h : ∀ t ∈ ts, Low t) : SeqAt.shaped (dT ts) = true := (flat_shaped _ fun d hd => by
  obtain ⟨n, hn, rfl⟩ := List.mem_map.mp hd
  exact ⟨str_ok (h n hn), rfl⟩).1
theorem sh_ints (ns : List Int) : SeqAt.shaped (dI ns) = true := shaped_ints ns
theorem sh_utxs {ts : List (List Nat)} (h : ∀ t ∈ ts, Low t) : SeqAt.shaped (uT ts) = true := (flat_shaped _ fun d hd => by
  obtain ⟨n, hn, rfl⟩ := List.mem_map.mp hd
  exact ⟨str_ok (h n hn), rfl⟩).2
theorem sh_uints (ns : List Int) : SeqAt.shaped (uI ns) = true := (flat_shaped _ fun d hd => by
  obtain ⟨n, hn, rfl⟩ := List.mem_map.mp hd
  exact ⟨rfl, rfl⟩).2
theorem eq_self {d : PyData} (h : SeqAt.shaped d = true) : V.bl (PyData.eqv d d) = V.bl true := by rw [SeqAt.eqv_refl d (SeqAt.canLay_of_shaped h)]
theorem ne_self {d : PyData} (h : SeqAt.shaped d = true) : V.bl (!PyData.eqv d d) = V.bl false := by rw [SeqAt.eqv_refl d (SeqAt.canLay_of_shaped h)]; rfl
theorem eqv_txs : ∀ ts us : List (List Nat), PyData.eqvAll (ts.map fun t => .str (mk t)) (us.map fun t => .str (mk t)) = decide (ts = us)
  | [], [] => by simp [PyData.eqvAll]
  | [], _ :: _ => by simp [PyData.eqvAll]
  | _ :: _, [] => by simp [PyData.eqvAll]
  | n :: ns, m :: ms => by
    show ((mk n == mk m) && PyData.eqvAll (ns.map fun t => .str (mk t)) (ms.map fun t => .str (mk t))) = _
    rw [eqv_txs ns ms]
    by_cases h1 : n = m <;> by_cases h2 : ns = ms <;> simp [h1, h2, mk_inj]
end Dx
namespace Dx
open PySem PySem.Spec PyProof.Rows L2 Evl Bx
theorem sIx_neg1 (n d : Nat) : HT.sIx (n + 1) d (some (0 - 1)) = n := by
  show (if (0 - 1 : Int) < 0 then ((0 - 1 : Int) + ((n + 1 : Nat) : Int)).toNat else min (0 - 1 : Int).toNat (n + 1)) = n
  rw [if_pos (by decide)]
  omega
theorem cut_but_last (xs : List V) (y : V) : cutV (xs ++ [y]) none (some (0 - 1)) = xs := by
  unfold cutV
  rw [HT.sIx_none, List.drop_zero, List.length_append]
  show List.take (HT.sIx (xs.length + 1) _ _ - 0) _ = _
  rw [sIx_neg1, Nat.sub_zero, List.take_append_of_le_length (Nat.le_refl _), List.take_of_length_le (Nat.le_refl _)]
end Dx
set_option Elab.async false
set_option linter.all false
set_option maxRecDepth 100000
set_option maxHeartbeats 4000000
/-! Ty3: loops over a text and any tuple; data that repr tells apart -/
namespace Ty
open PySem PySem.Spec PyProof.Rows L2 Evl Bx Rx
/-- for c, x in zip(a text, a tuple) -/
theorem forZipSTV {K : PySem.W.Frag} {σ : L2.St} {H : Hp} {D : Ends} {tu : TS} {ta : TA} {j k : Nat} {a : Addr} {u : List Nat} {xs : List V} (h : EvA ta σ H [tx u, .ref a]) (ht : SqT K H a xs) (hl : u.length = xs.length) (Pv : Nat → L2.St → Hp → Prop) (h0 : ∀ H1, Ex H H1 → Pv 0 σ H1)
    (hq : ∀ i σ' H', Pv i σ' H' → Ex H H') (hm : ∀ i σ' H' H2, Ex H' H2 → Pv i σ' H' → Pv i σ' H2)
    (hs : ∀ i c x σ' H', u[i]? = some c → xs[i]? = some x → Pv i σ' H' → tu { D with nx := Pv (i + 1), ct := Pv (i + 1), bk := D.nx } ((σ'.set j (some (tx [c]))).set k (some x)) H')
    (hd : ∀ σ' H', Pv u.length σ' H' → D.nx σ' H') : tFor (iZipST K ta) (gTup K 2 (gCons (gName j) (gCons (gName k) gNil))) tu D σ H :=
  h H (Ex.refl H) _ fun H1 e => ⟨mk u, a, _, rfl, ex_t e ht, by
    have hu : (u.map fun c => tx [c]) = (Sx.sgs (mk u)).map V.str := by rw [sgs_mk, List.map_map] <;> rfl
    have hz : ((Sx.sgs (mk u)).map V.str).length = u.length := by rw [← hu, List.length_map]
    refine for_zipF (xs := (Sx.sgs (mk u)).map V.str) (ys := xs) (by rw [hz, hl]) Pv (h0 H1 e) (fun i σ' H' p => ⟨rfl, ex_t (hq i σ' H' p) ht⟩) (fun i x y T σ' H' hx hy p hT => ?_) (fun σ' H' p => hd σ' H' (by rw [hz] at p; exact p))
    rw [← hu, List.getElem?_map] at hx
    cases hc : u[i]? with
    | none => rw [hc] at hx; cases hx
    | some c =>
      rw [hc] at hx
      obtain rfl : tx [c] = x := Option.some.inj hx
      exact ⟨T, _, rfl, .inl (.inl upd_same), rfl, _, _, rfl, _, _, rfl, rfl, hs i c y σ' _ hc hy (hm i σ' H' _ (Ex.new hT) p)⟩⟩
mutual
theorem dp_ex {K : PySem.W.Frag} {H H' : Hp} (e : Ex H H') : ∀ {v : V} {d : PyData}, Dp K H v d → Dp K H' v d
  | _, _, .non => .non
  | _, _, .bl b => .bl b
  | _, _, .int i => .int i
  | _, _, .str z => .str z
  | _, _, .lst s a => .lst (ex_l e s) (dpAll_ex e a)
  | _, _, .tup s a => .tup (ex_t e s) (dpAll_ex e a)
theorem dpAll_ex {K : PySem.W.Frag} {H H' : Hp} (e : Ex H H') : ∀ {vs : List V} {ds : List PyData}, DpAll K H vs ds → DpAll K H' vs ds
  | _, _, .nil => .nil
  | _, _, .cons a b => .cons (dp_ex e a) (dpAll_ex e b)
end
theorem dpAll_app {K : PySem.W.Frag} {H : Hp} : ∀ {vs : List V} {ds : List PyData} {ws : List V} {es : List PyData}, DpAll K H vs ds → DpAll K H ws es → DpAll K H (vs ++ ws) (ds ++ es)
  | _, _, _, _, .nil, b => b
  | _, _, _, _, .cons a r, b => .cons a (dpAll_app r b)
/-! ### whole numbers against what equals them -/
theorem eqv_ints : ∀ (ns : List Int) (es : List PyData), PyData.eqvAll (ns.map .int) es = true → es = ns.map .int ∨ ∃ b, PyData.bool b ∈ es
  | [], [], _ => .inl rfl
  | [], _ :: _, h => by simp [PyData.eqvAll] at h
  | _ :: _, [], h => by simp [PyData.eqvAll] at h
  | n :: ns, e :: es, h => by
    have h' : (PyData.eqv (.int n) e && PyData.eqvAll (ns.map .int) es) = true := h
    rw [Bool.and_eq_true] at h'
    obtain ⟨h1, h2⟩ := h'
    cases e with
    | int m =>
      have e1 : n = m := eq_of_beq h1
      subst e1
      rcases eqv_ints ns es h2 with z | ⟨b, z⟩
      · exact .inl (by rw [z]; rfl)
      · exact .inr ⟨b, List.mem_cons_of_mem _ z⟩
    | bool b => exact .inr ⟨b, List.mem_cons_self⟩
    | none => simp [PyData.eqv] at h1
    | str _ => simp [PyData.eqv] at h1
    | list _ => simp [PyData.eqv] at h1
    | tuple _ => simp [PyData.eqv] at h1
    | dict _ => simp [PyData.eqv] at h1
theorem eqv_bits : ∀ (ns : List Int) (es : List PyData), PyData.eqvAll (ns.map .int) es = true → es.length = ns.length ∧ ∀ e ∈ es, (∃ n ∈ ns, e = .int n) ∨ ∃ b, e = .bool b
  | [], [], _ => ⟨rfl, by simp⟩
  | [], _ :: _, h => by simp [PyData.eqvAll] at h
  | _ :: _, [], h => by simp [PyData.eqvAll] at h
  | n :: ns, e :: es, h => by
    have h' : (PyData.eqv (.int n) e && PyData.eqvAll (ns.map .int) es) = true := h
    rw [Bool.and_eq_true] at h'
    obtain ⟨h1, h2⟩ := h'
    obtain ⟨i1, i2⟩ := eqv_bits ns es h2
    refine ⟨by rw [List.length_cons, List.length_cons, i1], fun x hx => ?_⟩
    rcases List.mem_cons.mp hx with z | z
    · subst z
      cases x with
      | int m =>
        have e1 : n = m := eq_of_beq h1
        exact .inl ⟨n, List.mem_cons_self, by rw [e1]⟩
      | bool b => exact .inr ⟨b, rfl⟩
      | none => simp [PyData.eqv] at h1
      | str _ => simp [PyData.eqv] at h1
      | list _ => simp [PyData.eqv] at h1
      | tuple _ => simp [PyData.eqv] at h1
      | dict _ => simp [PyData.eqv] at h1
    · rcases i2 x z with ⟨m, hm, e⟩ | e
      · exact .inl ⟨m, List.mem_cons_of_mem _ hm, e⟩
      · exact .inr e
theorem shownAll_mem : ∀ {xs : List PyData} {t : Str}, t ∈ PyData.shownAll xs ↔ ∃ x ∈ xs, t = x.shown
  | [], t => by simp [PyData.shownAll]
  | x :: xs, t => by
    simp only [PyData.shownAll, List.mem_cons, shownAll_mem (xs := xs)]
    constructor
    · rintro (h | ⟨y, hy, h⟩)
      · exact ⟨x, .inl rfl, h⟩
      · exact ⟨y, .inr hy, h⟩
    · rintro ⟨y, rfl | hy, h⟩
      · exact .inl h
      · exact .inr ⟨y, hy, h⟩
theorem e_in_tuple (xs : List PyData) : 101 ∈ (PyData.tuple xs).shown.cps.toList ↔ ∃ x ∈ xs, 101 ∈ x.shown.cps.toList := by
  have hs : (PyData.tuple xs).shown = tupleText (PyData.shownAll xs) := by simp only [PyData.shown]
  rw [hs]
  unfold tupleText
  rw [mem_cps_append, mem_cps_append, mem_join, signs_lparen, signs_sep]
  constructor
  · rintro ((h | h) | h)
    · simp at h
    · rcases h with ⟨t, ht, hc⟩ | ⟨_, h⟩
      · obtain ⟨x, hx, rfl⟩ := shownAll_mem.mp ht
        exact ⟨x, hx, hc⟩
      · simp at h
    · exfalso
      split at h
      · rw [show ((",)" : String) : Str).cps.toList = [44, 41] by decide] at h
        simp at h
      · rw [show ((")" : String) : Str).cps.toList = [41] by decide] at h
        simp at h
  · rintro ⟨x, hx, hc⟩
    exact .inl (.inr (.inl ⟨_, shownAll_mem.mpr ⟨x, hx, rfl⟩, hc⟩))
theorem strict {ns : List Int} {es : List PyData} (h : PyData.eqvAll (ns.map .int) es = true) (hs : (PyData.tuple (ns.map .int)).shown = (PyData.tuple es).shown) : es = ns.map .int := by
  rcases eqv_ints ns es h with z | ⟨b, hb⟩
  · exact z
  · exfalso
    have h1 : 101 ∈ (PyData.tuple es).shown.cps.toList := (e_in_tuple es).mpr ⟨_, hb, (mem_shown_bool 101 b).mpr (by cases b <;> simp)⟩
    rw [← hs, e_in_tuple] at h1
    obtain ⟨x, hx, hc⟩ := h1
    obtain ⟨n, _, rfl⟩ := List.mem_map.mp hx
    exact shown_int_free' ⟨by decide, by decide⟩ n hc
/-! ### how long such a text is -/
theorem join_le (sep : Str) (k : Nat) : ∀ ts : List Str, (∀ t ∈ ts, t.length ≤ k) → (Str.join sep ts).length ≤ ts.length * (k + sep.length)
  | [], _ => by rw [join_nil]; exact Nat.zero_le _
  | [t], h => by
    rw [join_one]
    have := h t List.mem_cons_self
    simp only [List.length_cons, List.length_nil]
    omega
  | t :: u :: r, h => by
    rw [join_cons_cons]
    have h1 := h t List.mem_cons_self
    have ih := join_le sep k (u :: r) fun x hx => h x (List.mem_cons_of_mem _ hx)
    have e : (t ++ sep ++ Str.join sep (u :: r)).length = t.length + sep.length + (Str.join sep (u :: r)).length := by
      show (t ++ sep ++ Str.join sep (u :: r)).cps.size = t.cps.size + sep.cps.size + (Str.join sep (u :: r)).cps.size
      rw [← Array.length_toList, cps_toList_append, cps_toList_append, List.length_append, List.length_append]
      rfl
    rw [e]
    simp only [List.length_cons] at ih ⊢
    rw [Nat.add_mul (r.length + 1) 1]
    omega
theorem tuple_le {xs : List PyData} {k : Nat} (h : ∀ x ∈ xs, x.shown.length ≤ k) : (PyData.tuple xs).shown.length ≤ xs.length * (k + 2) + 3 := by
  have hs : (PyData.tuple xs).shown = tupleText (PyData.shownAll xs) := by simp only [PyData.shown]
  rw [hs]
  have hl : ∀ ys : List PyData, (PyData.shownAll ys).length = ys.length := by
    intro ys
    induction ys with
    | nil => rfl
    | cons y ys ih => simp only [PyData.shownAll, List.length_cons, ih]
  have j := join_le ", " k (PyData.shownAll xs) fun t ht => by
    obtain ⟨x, hx, rfl⟩ := shownAll_mem.mp ht
    exact h x hx
  rw [hl] at j
  have e2 : (((", " : String) : Str)).length = 2 := by decide
  rw [e2] at j
  unfold tupleText
  have e : ∀ a b c : Str, (a ++ b ++ c).length = a.length + b.length + c.length := by
    intro a b c
    show (a ++ b ++ c).cps.size = a.cps.size + b.cps.size + c.cps.size
    rw [← Array.length_toList, cps_toList_append, cps_toList_append, List.length_append, List.length_append]
    rfl
  rw [e]
  have e1 : ((("(" : String) : Str)).length = 1 := by decide
  rw [e1]
  have e3 : (((if (PyData.shownAll xs).length == 1 then ",)" else ")" : String)) : Str).length ≤ 2 := by
    split <;> decide
  omega
theorem bool_le (b : Bool) : (PyData.bool b).shown.length ≤ 5 := by cases b <;> decide
theorem int_le {i : Int} (h : i.natAbs < 2 ^ 40) : (PyData.int i).shown.length ≤ 41 := by
  have hl : i.natAbs.log2 < 40 := by
    by_cases z : i.natAbs = 0
    · rw [z]
      decide
    · exact (Nat.log2_lt z).mpr h
  have h1 := int_text_length_le (a := i) (k := 40) (by decide) hl
  have e : (PyData.int i).shown.length = (toString i).length := by
    simp only [PyData.shown]
    show (Str.ofString (toString i)).cps.size = _
    rw [← Array.length_toList, signs_ofString, List.length_map]
    rfl
  omega
theorem int_show {i : Int} (h : i.natAbs < 2 ^ 40) : (PyData.int i).showable = true := by
  simp only [PyData.showable]
  refine decide_eq_true ?_
  by_cases z : i.natAbs = 0
  · rw [z]
    decide
  · exact (Nat.log2_lt z).mpr (Nat.lt_of_lt_of_le h (Nat.pow_le_pow_right (by decide) (by decide)))
theorem showAll : ∀ {xs : List PyData}, (∀ x ∈ xs, x.showable = true) → PyData.showableAll xs = true
  | [], _ => rfl
  | x :: xs, h => by
    simp only [PyData.showableAll, Bool.and_eq_true]
    exact ⟨h x List.mem_cons_self, showAll fun y hy => h y (List.mem_cons_of_mem _ hy)⟩
/-- a tuple of few small whole numbers, or of Booleans among them, has a text -/
theorem tuple_ok {es : List PyData} (hl : es.length ≤ 100) (h : ∀ e ∈ es, (∃ n : Int, n.natAbs < 2 ^ 40 ∧ e = .int n) ∨ ∃ b, e = .bool b) :
    (PyData.tuple es).showable = true ∧ (PyData.tuple es).shown.length ≤ sizeLine ∧ (PyData.tuple es).depth ≤ 60 := by
  refine ⟨?_, ?_, ?_⟩
  · simp only [PyData.showable]
    refine showAll fun e he => ?_
    rcases h e he with ⟨n, hn, rfl⟩ | ⟨b, rfl⟩
    · exact int_show hn
    · rfl
  · have := tuple_le (xs := es) (k := 41) fun e he => by
      rcases h e he with ⟨n, hn, rfl⟩ | ⟨b, rfl⟩
      · exact int_le hn
      · have := bool_le b
        omega
    have h2 : es.length * (41 + 2) ≤ 100 * (41 + 2) := Nat.mul_le_mul_right _ hl
    have h3 : 100 * (41 + 2) + 3 ≤ sizeLine := by decide
    omega
  · have : ∀ ds : List PyData, (∀ e ∈ ds, (∃ n : Int, n.natAbs < 2 ^ 40 ∧ e = .int n) ∨ ∃ b, e = .bool b) → PyData.depthAll ds = 0 := by
      intro ds
      induction ds with
      | nil => intro _; rfl
      | cons d ds ih =>
        intro hd
        show max (PyData.depth d) (PyData.depthAll ds) = 0
        rw [ih fun e he => hd e (List.mem_cons_of_mem _ he)]
        rcases hd d List.mem_cons_self with ⟨n, _, rfl⟩ | ⟨b, rfl⟩ <;> rfl
    show PyData.depthAll es + 1 ≤ 60
    rw [this es h]
    decide
end Ty
set_option Elab.async false
set_option linter.all false
set_option maxRecDepth 100000
set_option maxHeartbeats 8000000
namespace K01
open PySem PySem.Spec PyProof.Rows L2 Evl Bx
open Nx Rx Dx Ty
/-! ### what is told to be a reading -/
def rdk (t : List Nat) : Nat → List Nat → List PyData → Bool
  | _, [], [] => true
  | _, [], _ :: _ => false
  | _, _ :: _, [] => false
  | lo, a :: u, .int q :: ds => decide ((lo : Int) ≤ q) && (decide (q < (t.length : Nat)) && (decide (t[q.toNat]? = some a) && rdk t (q.toNat + 1) u ds))
  | _, _ :: _, _ :: _ => false
theorem rdk_iff (t : List Nat) : ∀ (u : List Nat) (lo : Nat) (ds : List PyData), rdk t lo u ds = true ↔ ∃ l, ds = (nts l).map .int ∧ isr t lo u l
  | [], lo, [] => ⟨fun _ => ⟨[], rfl, rfl⟩, fun _ => rfl⟩
  | [], lo, d :: ds => by
    constructor
    · intro h
      cases h
    · rintro ⟨l, h1, h2⟩
      have h2' : l = [] := h2
      subst h2'
      cases h1
  | a :: u, lo, [] => by
    constructor
    · intro h
      cases h
    · rintro ⟨l, h1, h2⟩
      cases l with
      | nil => exact h2.elim
      | cons q l => cases h1
  | a :: u, lo, .int q :: ds => by
    have ih := rdk_iff t u (q.toNat + 1) ds
    show (decide ((lo : Int) ≤ q) && (decide (q < (t.length : Nat)) && (decide (t[q.toNat]? = some a) && rdk t (q.toNat + 1) u ds))) = true ↔ _
    rw [Bool.and_eq_true, Bool.and_eq_true, Bool.and_eq_true, decide_eq_true_iff, decide_eq_true_iff, decide_eq_true_iff, ih]
    constructor
    · rintro ⟨h1, h2, h3, l, h4, h5⟩
      refine ⟨q.toNat :: l, ?_, by omega, h3, h5⟩
      rw [h4]
      show PyData.int q :: _ = PyData.int ((q.toNat : Nat) : Int) :: _
      rw [Int.toNat_of_nonneg (by omega)]
      rfl
    · rintro ⟨l, h1, h2⟩
      cases l with
      | nil => exact h2.elim
      | cons p l =>
        obtain ⟨h3, h4, h5⟩ := h2
        have e1 : PyData.int q = PyData.int ((p : Nat) : Int) := (List.cons.inj h1).1
        have e2 : q = ((p : Nat) : Int) := by injection e1
        subst e2
        have lt := (List.getElem?_eq_some_iff.mp h4).1
        refine ⟨by omega, by omega, by rw [Int.toNat_natCast]; exact h4, l, (List.cons.inj h1).2, by rw [Int.toNat_natCast]; exact h5⟩
  | a :: u, lo, .none :: ds => by
    constructor
    · intro h
      cases h
    · rintro ⟨l, h1, h2⟩
      cases l <;> cases h1
  | a :: u, lo, .bool _ :: ds => by
    constructor
    · intro h
      cases h
    · rintro ⟨l, h1, h2⟩
      cases l <;> cases h1
  | a :: u, lo, .str _ :: ds => by
    constructor
    · intro h
      cases h
    · rintro ⟨l, h1, h2⟩
      cases l <;> cases h1
  | a :: u, lo, .list _ :: ds => by
    constructor
    · intro h
      cases h
    · rintro ⟨l, h1, h2⟩
      cases l <;> cases h1
  | a :: u, lo, .tuple _ :: ds => by
    constructor
    · intro h
      cases h
    · rintro ⟨l, h1, h2⟩
      cases l <;> cases h1
  | a :: u, lo, .dict _ :: ds => by
    constructor
    · intro h
      cases h
    · rintro ⟨l, h1, h2⟩
      cases l <;> cases h1
def isRd (u t : List Nat) : PyData → Bool
  | .tuple ds => rdk t 0 u ds
  | _ => false
def isI : PyData → Bool
  | .int _ => true
  | _ => false
def tyN : PyData → String
  | .none => "NoneType"
  | .bool _ => "bool"
  | .int _ => "int"
  | .str _ => "str"
  | .list _ => "list"
  | .tuple _ => "tuple"
  | .dict _ => "dict"
theorem dp_ty {K : PySem.W.Frag} {H : Hp} {v : V} {d : PyData} (h : Dp K H v d) : TyX K H v (.type (tyN d)) := by
  cases h with
  | non => exact .base .non
  | bl b => exact .base (.bl b)
  | int i => exact .base (.int i)
  | str z => exact .base (.str z)
  | lst s _ =>
    rcases s with (s | ⟨o, s⟩) | ⟨o, its, n, h1, h2, _⟩
    · exact .base (.lst s)
    · exact .base (.frz s)
    · exact .kList h1 h2
  | tup s _ =>
    rcases s with (s | ⟨o, s⟩) | ⟨o, its, n, h1, h2, _⟩
    · exact .base (.tup s)
    · exact .fTuple s
    · exact .kTuple h1 h2
theorem dpAll_len {K : PySem.W.Frag} {H : Hp} : ∀ {vs : List V} {ds : List PyData}, DpAll K H vs ds → vs.length = ds.length
  | _, _, .nil => rfl
  | _, _, .cons _ b => by rw [List.length_cons, List.length_cons, dpAll_len b]
theorem dpAll_at {K : PySem.W.Frag} {H : Hp} : ∀ {vs : List V} {ds : List PyData} {i : Nat} {x : V}, DpAll K H vs ds → vs[i]? = some x → ∃ d, ds[i]? = some d ∧ Dp K H x d
  | _, _, _, _, .nil, h => by simp at h
  | _, _, 0, _, .cons a _, h => ⟨_, rfl, by simp at h; rw [← h]; exact a⟩
  | _, _, i + 1, _, .cons _ b, h => by
    obtain ⟨d, h1, h2⟩ := dpAll_at b (i := i) (by simpa using h)
    exact ⟨d, by simpa using h1, h2⟩
section
variable {P : Program} {w : World} {K : PySem.W.Frag} {mg : Str → Option Value} {base : Heap}
def sp2_is_whole (K : PySem.W.Frag) : Sp := fun vs H Q _ => ∃ v d, vs = [v] ∧ Dp K H v d ∧ Q (.bl (isI d)) H
theorem ok2_is_whole (T : Tx K mg) : FnOk P w K mg base CX0 1 T.a_is_whole T.fd_is_whole ["value"] (sp2_is_whole K) := by
  refine T.F_is_whole.ok sc_is_whole (fun vs H Q E h => ?_) (fun cdv A outer s H vs Q E hr h => ?_)
  · obtain ⟨_, _, rfl, _⟩ := h
    rfl
  · obtain ⟨v, d, rfl, hd, q⟩ := h
    refine ⟨_, (pss_one (ps_ret (pe_and (pe_callB call_isi (by rfl) T.n_isinstance (by decide +kernel) (pa_cons (pv 0) (pa_cons (pe_bltn (v := .ty "int") (u := .type "int") (by rfl) T.n_int (by decide +kernel) rfl) pa_nil))) (pe_one (pe_not (pe_callB call_isi (by rfl) T.n_isinstance (by decide +kernel) (pa_cons (pv 0) (pa_cons (pe_bltn (v := .ty "bool") (u := .type "bool") (by rfl) T.n_bool (by decide +kernel) rfl) pa_nil)))))))), ?_⟩
    have ty := dp_ty hd
    cases hd with
    | int i =>
      refine ⟨_, rfl, _, _, .type "int", _, true, rfl, .ty _, ty, kit_ty (by decide +kernel), true, rfl, iteT ?_⟩
      exact ⟨_, rfl, _, _, .type "int", _, false, rfl, .ty _, ty, kit_ty (by decide +kernel), false, rfl, q⟩
    | bl b =>
      refine ⟨_, rfl, _, _, .type "bool", _, true, rfl, .ty _, ty, kit_ty (by decide +kernel), true, rfl, iteT ?_⟩
      exact ⟨_, rfl, _, _, .type "bool", _, true, rfl, .ty _, ty, kit_ty (by decide +kernel), true, rfl, q⟩
    | non => exact ⟨_, rfl, _, _, .type "NoneType", _, false, rfl, .ty _, ty, kit_ty (by decide +kernel), false, rfl, iteF q⟩
    | str z => exact ⟨_, rfl, _, _, .type "str", _, false, rfl, .ty _, ty, kit_ty (by decide +kernel), false, rfl, iteF q⟩
    | lst s a => exact ⟨_, rfl, _, _, .type "list", _, false, rfl, .ty _, ty, kit_ty (by decide +kernel), false, rfl, iteF q⟩
    | tup s a => exact ⟨_, rfl, _, _, .type "tuple", _, false, rfl, .ty _, ty, kit_ty (by decide +kernel), false, rfl, iteF q⟩
/-- a value, and whether it is told to be a reading -/
def Ob (K : PySem.W.Frag) (H : Hp) (u t : List Nat) (v : V) (b : Bool) : Prop := (∃ d, Dp K H v d ∧ b = isRd u t d) ∨ ∃ a kvs, v = .ref a ∧ H a = some (.dK kvs) ∧ b = false
theorem Ob.ex {K : PySem.W.Frag} {H H' : Hp} {u t : List Nat} {v : V} {b : Bool} (h : Ob K H u t v b) (e : Ex H H') : Ob K H' u t v b := by
  rcases h with ⟨d, h1, h2⟩ | ⟨a, kvs, h1, h2, h3⟩
  · exact .inl ⟨d, dp_ex e h1, h2⟩
  · exact .inr ⟨a, kvs, h1, e _ _ h2, h3⟩
def sp2_reads (K : PySem.W.Frag) : Sp := fun vs H Q _ => ∃ (u t : List Nat) (v : V) (b : Bool), vs = [tx u, tx t, v] ∧ u.length ≤ 1000 ∧ t.length ≤ 1000 ∧ Ob K H u t v b ∧ ∀ H', Ex H H' → Q (.bl b) H'
theorem rdk_len {t : List Nat} {lo : Nat} {u : List Nat} {ds : List PyData} (h : rdk t lo u ds = true) : ds.length = u.length := by
  obtain ⟨l, h1, h2⟩ := (rdk_iff t u lo ds).mp h
  rw [h1, List.length_map]
  unfold nts
  rw [List.length_map]
  exact isr_len h2
theorem ok2__reads (T : Tx K mg) : FnOk P w K mg base CX0 2 T.a__reads T.fd__reads ["word", "text", "value"] (sp2_reads K) := by
  refine T.F__reads.ok sc__reads (fun vs H Q E h => ?_) (fun cdv A outer s H vs Q E hr h => ?_)
  · obtain ⟨_, _, _, _, rfl, _⟩ := h
    rfl
  · obtain ⟨u, t, v, b, rfl, lu, lt, hv, q⟩ := h
    refine ⟨_, (pss_cons (ps_if (PW.pt (pw_or (pt_not (pt_val (pe_callB call_isi (by rfl) T.n_isinstance (by decide +kernel) (pa_cons (pv 2) (pa_cons (pe_bltn (v := .ty "tuple") (u := .type "tuple") (by rfl) T.n_tuple (by decide +kernel) rfl) pa_nil))))) (pw_or1 (pt_cmpR op_ne (pe_callB call_len_seq (by rfl) T.n_len (by decide +kernel) (pa_cons (pv 2) pa_nil)) (pe_callB call_len_str (by rfl) T.n_len (by decide +kernel) (pa_cons (pv 0) pa_nil)) (nomark _))))) (pss_one (ps_ret pe_bl)) pss_nil) (pss_cons (ps_set (i := 3) sc__reads.nd rfl (by first | exact Or.inl rfl | exact Or.inr rfl) pe_int) (pss_cons (ps_for PassesOwn.never rfl (Rx.pi_zipST (by rfl) T.n_zip (pa_cons (pv 0) (pa_cons (pv 2) pa_nil))) (pg_tup (by rfl) (pgs_cons (pg_name (i := 4) sc__reads.nd rfl (by first | exact Or.inl rfl | exact Or.inr rfl)) (pgs_cons (pg_name (i := 5) sc__reads.nd rfl (by first | exact Or.inl rfl | exact Or.inr rfl)) pgs_nil))) (pss_cons (ps_if (PW.pt (pw_or (pt_not (pt_val (pe_call (ok2_is_whole T) (hr.mono (by decide)) (by rfl) T.g_is_whole T.F_is_whole.kp (b_is_whole T) .nil pass0 (pa_cons (pv 5) pa_nil)))) (pw_or (pt_not (pt_chain op_le op_lt (pv 3) (pv 5) (pe_callB call_len_str (by rfl) T.n_len (by decide +kernel) (pa_cons (pv 1) pa_nil)))) (pw_or1 (pt_cmpR op_ne (pe_ix ix_str (pv 1) (pv 5) (fun _ _ => rfl)) (pv 4) (nomark _)))))) (pss_one (ps_ret pe_bl)) pss_nil) (pss_one (ps_set (i := 3) sc__reads.nd rfl (by first | exact Or.inl rfl | exact Or.inr rfl) (pe_op op_add (pv 5) pe_int))))) (pss_one (ps_ret pe_bl))))), ?_⟩
    rcases hv with ⟨d, hd, rfl⟩ | ⟨a, kvs, rfl, hA, rfl⟩
    · have ty := dp_ty hd
      cases hd with
      | non => exact ⟨_, rfl, _, _, .type "NoneType", _, false, rfl, .ty _, ty, kit_ty (by decide +kernel), false, rfl, iteT (q H (Ex.refl H))⟩
      | bl b => exact ⟨_, rfl, _, _, .type "bool", _, false, rfl, .ty _, ty, kit_ty (by decide +kernel), false, rfl, iteT (q H (Ex.refl H))⟩
      | int i => exact ⟨_, rfl, _, _, .type "int", _, false, rfl, .ty _, ty, kit_ty (by decide +kernel), false, rfl, iteT (q H (Ex.refl H))⟩
      | str z => exact ⟨_, rfl, _, _, .type "str", _, false, rfl, .ty _, ty, kit_ty (by decide +kernel), false, rfl, iteT (q H (Ex.refl H))⟩
      | lst s a => exact ⟨_, rfl, _, _, .type "list", _, false, rfl, .ty _, ty, kit_ty (by decide +kernel), false, rfl, iteT (q H (Ex.refl H))⟩
      | @tup a xs ds hS hD =>
        have hl := dpAll_len hD
        refine ⟨_, rfl, _, _, .type "tuple", _, true, rfl, .ty _, ty, kit_ty (by decide +kernel), true, rfl, iteF ?_⟩
        refine ⟨_, rfl, a, _, rfl, .inr hS, _, rfl, mk u, rfl, by rw [mk_len]; exact sz_of (by omega), rfl, _, rfl, ?_⟩
        rw [mk_len]
        by_cases hlen : xs.length = u.length
        · rw [decide_eq_true (by rw [hlen] : V.int (xs.length : Nat) = V.int (u.length : Nat))]
          refine iteF ?_
          dsimp only [tNext, tSeq, tAsg, tC, gName]
          refine forZipSTV (u := u) (xs := xs) (fun H1 e1 Q' q' => ⟨_, rfl, _, rfl, q' H1 (Ex.refl _)⟩) hS hlen.symm (fun i σ' H' => ∃ (lo : Nat) (y4 y5 : Option V), σ' = [some (tx u), some (tx t), some (.ref a), some (.int (lo : Nat)), y4, y5] ∧ Ex H H' ∧ rdk t 0 u ds = rdk t lo (u.drop i) (ds.drop i)) (fun H1 e1 => ⟨0, _, _, rfl, e1, rfl⟩)
            (fun i σ' H' ⟨_, _, _, _, e, _⟩ => e) (fun i σ' H' H2 e ⟨lo, y4, y5, h1, h2, h3⟩ => ⟨lo, y4, y5, h1, h2.trans e, h3⟩) (fun i c x σ' H' hc hx ⟨lo, y4, y5, h1, h2, h3⟩ => ?_) (fun σ' H' ⟨lo, y4, y5, h1, h2, h3⟩ => ?_)
          · subst h1
            obtain ⟨di, hdi, hx'⟩ := dpAll_at hD hx
            have eu : u.drop i = c :: u.drop (i + 1) := by
              have hi := (List.getElem?_eq_some_iff.mp hc).1
              rw [List.drop_eq_getElem_cons hi]
              rw [List.getElem?_eq_getElem hi] at hc
              rw [Option.some.inj hc]
            have ed : ds.drop i = di :: ds.drop (i + 1) := by
              have hi := (List.getElem?_eq_some_iff.mp hdi).1
              rw [List.drop_eq_getElem_cons hi]
              rw [List.getElem?_eq_getElem hi] at hdi
              rw [Option.some.inj hdi]
            rw [eu, ed] at h3
            have no : rdk t lo (c :: u.drop (i + 1)) (di :: ds.drop (i + 1)) = false → ∀ H2, Ex H H2 → Q (.bl false) H2 := fun e H2 x2 => by
              have := q H2 x2
              have e2 : isRd u t (.tuple ds) = false := h3.trans e
              rw [e2] at this
              exact this
            refine ⟨_, rfl, _, di, rfl, dp_ex h2 hx', ?_⟩
            refine ⟨_, rfl, ?_⟩
            cases di with
            | none => exact iteT (no rfl _ h2)
            | bool b => exact iteT (no rfl _ h2)
            | str z => exact iteT (no rfl _ h2)
            | list z => exact iteT (no rfl _ h2)
            | tuple z => exact iteT (no rfl _ h2)
            | dict z => exact iteT (no rfl _ h2)
            | int p =>
              refine iteF ?_
              have hxp : x = V.int p := by
                cases hx'
                rfl
              subst hxp
              have step : rdk t lo (c :: u.drop (i + 1)) (.int p :: ds.drop (i + 1)) = (decide ((lo : Int) ≤ p) && (decide (p < (t.length : Nat)) && (decide (t[p.toNat]? = some c) && rdk t (p.toNat + 1) (u.drop (i + 1)) (ds.drop (i + 1))))) := rfl
              rw [step] at h3 no
              refine ⟨_, rfl, _, rfl, _, _, rfl, rfl, _, rfl, ?_⟩
              by_cases c1 : (lo : Int) ≤ p
              · rw [decide_eq_true c1] at h3 no ⊢
                refine iteT ⟨_, rfl, mk t, rfl, by rw [mk_len]; exact sz_of (by omega), _, _, rfl, rfl, _, rfl, ?_⟩
                rw [mk_len]
                by_cases c2 : p < (t.length : Nat)
                · rw [decide_eq_true c2] at h3 no ⊢
                  refine iteF ?_
                  obtain ⟨pn, rfl⟩ := Int.eq_ofNat_of_zero_le (by omega : 0 ≤ p)
                  rw [Int.toNat_natCast] at h3 no
                  have hpt : pn < t.length := by omega
                  refine ⟨_, rfl, _, rfl, mk t, _, t[pn], rfl, rfl, by rw [mk_len]; exact sz_of (by omega), atI_nat (by rw [mk_list]; exact List.getElem?_eq_getElem hpt), _, rfl, rfl, _, rfl, ?_⟩
                  by_cases c3 : t[pn] = c
                  · rw [decide_eq_true (by rw [List.getElem?_eq_getElem hpt, c3] : t[pn]? = some c)] at h3
                    have e3 : decide (V.str ⟨#[t[pn]]⟩ = tx [c]) = true := decide_eq_true (by rw [c3])
                    rw [e3]
                    refine iteF ?_
                    exact ⟨_, rfl, _, 1, rfl, rfl, pn + 1, _, _, rfl, h2, h3⟩
                  · rw [decide_eq_false (by rw [List.getElem?_eq_getElem hpt]; exact fun z => c3 (Option.some.inj z) : ¬ t[pn]? = some c)] at no
                    have e3 : decide (V.str ⟨#[t[pn]]⟩ = tx [c]) = false := decide_eq_false fun z => c3 (by
                      have := (tx_inj (l := [t[pn]]) (m := [c])).mp z
                      simpa using this)
                    rw [e3]
                    exact iteT (no rfl _ h2)
                · rw [decide_eq_false c2] at no ⊢
                  exact iteT (no rfl _ h2)
              · rw [decide_eq_false c1] at no ⊢
                exact iteF ⟨false, rfl, iteT (no rfl _ h2)⟩
          · subst h1
            rw [List.drop_of_length_le (Nat.le_refl _), List.drop_of_length_le (by omega)] at h3
            have := q H' h2
            have e2 : isRd u t (.tuple ds) = true := h3
            rw [e2] at this
            exact this
        · rw [decide_eq_false (fun z => hlen (by have := V.int.inj z; omega) : ¬ V.int (xs.length : Nat) = V.int (u.length : Nat))]
          refine iteT ?_
          have := q H (Ex.refl H)
          have e2 : isRd u t (.tuple ds) = false := by
            cases z : rdk t 0 u ds with
            | false => exact z
            | true => exact absurd (hl.trans (rdk_len z)) hlen
          rw [e2] at this
          exact this
    · exact ⟨_, rfl, _, _, .type "dict", _, false, rfl, .ty _, .base (.dK hA), kit_ty (by decide +kernel), false, rfl, iteT (q H (Ex.refl H))⟩
end
end K01
set_option Elab.async false
set_option linter.all false
set_option maxRecDepth 100000
set_option maxHeartbeats 4000000
/-! Gx2: the end of a law whose promise holds where no repr is under way -/
namespace Gx
open PySem PySem.Spec PyProof.Rows L2
section
variable {P : Program} {w : World} {K : PySem.W.Frag} {mg mb : Str → Option Value} {a : Addr} {s : Shared} {vs : List Value} {ns : List Int}
/-- the state behind the top as the one at the law's call, with the script alone to be seen -/
theorem first_env {H : Hp} (inK : K.In s.heap) (names : s.heap.Ns mainGlobals mg) (bn : s.heap.Ns builtinsNs mb) (boot : ∀ x : Str, x ≠ "__name__" → mb x = bootBuiltins x) (free : s.heap.NoLimit) (none : s.gens = #[])
    (script : s.heap.get? a = some { cls := .type "list", data := .seq vs.toArray }) (ok : HOk P w H s.heap) (just : ∀ b, H b ≠ Option.none → b = a) (own : H a ≠ Option.none → K.lookup a = Option.none) :
    ∃ base : Heap, K.In base ∧ base.Ns mainGlobals mg ∧ Env0 P w K mg base callerA [] s H := by
  have unseen : ∀ {b : Addr} {u : Obj} {es : Array DictEntry} {ep : Nat}, s.heap.get? b = some u → u.data = .dict es ep → H b = Option.none := by
    intro b u es ep at_b isDict
    by_cases z : H b = Option.none
    · exact z
    · have eq := just b z
      rw [eq] at at_b
      rw [script] at at_b
      obtain rfl := Option.some.inj at_b
      exact Data.noConfusion isDict
  have space : ∀ {b : Addr} {m : Str → Option Value}, s.heap.Ns b m → (hidT s.heap H).Ns b m := by
    rintro b m ⟨u, es, ep, at_b, isDict, more⟩
    exact ⟨u, es, ep, hidT_get at_b (unseen at_b isDict), isDict, more⟩
  have inBase : K.In (hidT s.heap H) := by
    intro b u at_b
    refine hidT_get (inK b u at_b) ?_
    by_cases z : H b = Option.none
    · exact z
    · have eq := just b z
      rw [eq] at at_b z
      rw [own z] at at_b
      cases at_b
  obtain ⟨mc, c1, c2⟩ := free
  refine ⟨hidT s.heap H, inBase, space names, rfl, ⟨inBase, space names, ⟨mb, space bn, boot⟩, ⟨mc, space c1, c2⟩⟩, fun b u at_b => of_hidT at_b, Nat.le_of_eq (hidT_size _ _), trivial, fun b hb => ?_, ok, .of_eq none⟩
  exact absurd (show b ∈ ([] : List Addr) from hb) (by simp)
/-- the call of the law -/
theorem law_run {CX : CXT} {k : Nat} {fa : Addr} {fd : FuncData} {x : Str} {sp : Sp} (inK : K.In s.heap) (names : s.heap.Ns mainGlobals mg) (bn : s.heap.Ns builtinsNs mb) (boot : ∀ x : Str, x ≠ "__name__" → mb x = bootBuiltins x) (free : s.heap.NoLimit) (none : s.gens = #[])
    (script : s.heap.get? a = some { cls := .type "list", data := .seq vs.toArray }) (whole : IntsAre vs ns) (few : ns.length ≤ sizeLine) (room : Room k callerA)
    (F : ∀ base : Heap, K.In base → base.Ns mainGlobals mg → FnG P w K mg base CX k fa fd [x] sp) (bound : ∀ (s : Shared) (u : Value), BindsTo s fd ⟨[u], []⟩ [(x, u)])
    (start : ∀ H : Hp, Only H → SqL K H a (ns.map V.int) → sp [.ref a] H (fun v _ => v = .bl true) fun _ _ _ => False) (quiet : ∀ H e s', CX [] H s (fun _ _ _ => False) e s' → False) :
    codeAny (model P w) callerA (.call (.ref fa) ⟨[.ref a], []⟩) (fun r s' => r = .ok (.ret (.bool true)) ∧ OldK s.heap s'.heap ∧ s'.os = s.os ∧ AllBare s'.gens) s := by
  have vals := vals_ints whole
  have size := whole.length
  have go : ∀ H : Hp, Only H → SqL K H a (ns.map V.int) → HOk P w H s.heap → (∀ b, H b ≠ Option.none → b = a) → (H a ≠ Option.none → K.lookup a = Option.none) →
      codeAny (model P w) callerA (.call (.ref fa) ⟨[.ref a], []⟩) (fun r s' => r = .ok (.ret (.bool true)) ∧ OldK s.heap s'.heap ∧ s'.os = s.os ∧ AllBare s'.gens) s := by
    intro H only seen ok just own
    obtain ⟨base, b1, b2, env⟩ := first_env (P := P) (w := w) inK names bn boot free none script ok just own
    refine codeAny_mono ((F base b1 b2).go callerA [] s H ⟨[.ref a], []⟩ [.ref a] [.ref a] _ _ rfl room env (bound s (.ref a)) (.cons rfl .nil) (start H only seen)) fun r s' h => ?_
    match r, h with
    | .error e, h => exact (quiet H e s' h).elim
    | .ok .next, h => exact h.elim
    | .ok .brk, h => exact h.elim
    | .ok .cont, h => exact h.elim
    | .ok (.ret u), ⟨v, H', os, bare, un, ok', rel, is_yes⟩ =>
      subst is_yes
      have eu : u = Value.bool true := rel
      subst eu
      refine ⟨rfl, OldK.of_keep ?_, os, bare⟩
      intro b ob at_b
      rcases only b with free_b | ⟨o2, xs, at_H⟩
      · exact un.keep b ob at_b free_b (fun z => absurd (show b ∈ ([] : List Addr) from z) (by simp)) (by simp)
      · have later := (ok' b _ (un.frzs b o2 _ at_H)).1
        have before := (ok b _ at_H).1
        rw [at_b] at before
        obtain rfl := Option.some.inj before
        exact later
  cases written : K.lookup a with
  | some o =>
    have same := inK a o written
    rw [script] at same
    obtain rfl := Option.some.inj same
    refine go (fun _ => Option.none) (fun _ => .inl rfl) (.inr ⟨_, vs.toArray, _, written, rfl, rfl, rfl, ?_, ?_⟩) ?_ ?_ ?_
    · rw [List.size_toArray, size]
      exact few
    · simpa using vals
    · intro b u z
      have z' : (Option.none : Option HO) = some u := z
      cases z'
    · exact fun b z => absurd rfl z
    · exact fun z => absurd rfl z
  | none =>
    let the : HO := .frz { cls := .type "list", data := .seq vs.toArray } (.lst (ns.map V.int))
    have yes : (fun b => if b = a then some the else Option.none) a = some the := if_pos rfl
    refine go (fun b => if b = a then some the else Option.none) ?_ (.inl (.inr ⟨_, yes⟩)) ?_ ?_ (fun _ => written)
    · intro b
      by_cases e : b = a
      · exact .inr ⟨_, _, if_pos e⟩
      · exact .inl (if_neg e)
    · intro b u z
      by_cases e : b = a
      · subst e
        obtain rfl := Option.some.inj (yes.symm.trans z)
        exact ⟨script, by rw [List.length_map]; exact few, vs, _, vals, script⟩
      · have z' : (if b = a then some the else Option.none) = some u := z
        rw [if_neg e] at z'
        cases z'
    · intro b z
      by_cases e : b = a
      · exact e
      · exact absurd (if_neg e) z
end
/-- what k_head leaves, from such a promise -/
theorem walk_ofG {l : PySem.W.OpenLaw} {n k : Nat} {q : Program} {loose : List Str} {XP : (Str → Option Value) → Heap → Prop} {YP : World → Heap → Prop} {d : DefRec} {K : Params → PySem.W.Frag} {x : Str} {sp : World → Sp}
    (hn : l.most = some n) (hn2 : n ≤ sizeLine) (hdf : d.params.defaults = []) (room : Room k callerA) (hY : ∀ (w : World) (h : Heap), YP w h → (K w.params).In h)
    (F : ∀ (w : World) (mg : Str → Option Value) (fa : Addr) (h : Heap), (K w.params).In h → h.Ns mainGlobals mg → mg d.name = some (.ref fa) →
      ∃ fd : FuncData, (∀ (s : Shared) (u : Value), BindsTo s fd ⟨[u], []⟩ [(x, u)]) ∧ ∀ base : Heap, (K w.params).In base → base.Ns mainGlobals mg → FnG l.prog w (K w.params) mg base CX0 k fa fd [x] (sp w))
    (start : ∀ (w : World) (H : Hp) (a : Addr) (ns : List Int), ns.length ≤ n → Only H → SqL (K w.params) H a (ns.map V.int) → sp w [.ref a] H (fun v _ => v = .bl true) fun _ _ _ => False) :
    PySem.W.WalkO q loose XP YP l.row.toRowW d [] (fun f vs => PySem.call f vs) := by
  refine Att.attach_call hn hdf fun w _ s₁ mg mb fa _ _ _ _ a vs ns ground y _ _ _ named script whole few none => ?_
  obtain ⟨fd, bound, all⟩ := F w mg fa _ (hY w _ y) ground.T.g named
  exact law_run (hY w _ y) ground.T.g ground.T.b ground.T.builtins ground.T.nolimit none script whole (Nat.le_trans few hn2) room all bound (fun H only seen => start w H a ns few only seen) fun _ _ _ h => h
end Gx
set_option Elab.async false
set_option linter.all false
set_option maxRecDepth 100000
set_option maxHeartbeats 8000000
namespace K01
open PySem PySem.Spec PyProof.Rows L2 Evl Bx
open Nx Rx Dx Ty
theorem plc_nts (p : List Nat) : plc p = (nts p).map V.int := by
  unfold plc nts
  rw [List.map_map]
  rfl
theorem nts_small {p : List Nat} (h : ∀ q ∈ p, q < 2 ^ 30) : ∀ n ∈ nts p, n.natAbs < 2 ^ 40 := fun n hn => by
  obtain ⟨q, hq, rfl⟩ := List.mem_map.mp hn
  have := h q hq
  rw [Int.natAbs_natCast]
  exact Nat.lt_trans this (by decide)
section
variable {P : Program} {w : World} {K : PySem.W.Frag} {mg : Str → Option Value} {base : Heap}
theorem ok2_is_reading (T : Tx K mg) : FnOk P w K mg base CX0 3 T.a_is_reading T.fd_is_reading ["word", "text", "value"] (fun vs H Q E => ∃ (u t : List Nat) (v : V) (b : Bool), Low u ∧ Low t ∧ vs = [tx u, tx t, v] ∧ u.length ≤ 1000 ∧ t.length ≤ 1000 ∧ Ob K H u t v b ∧ ∀ H', Ex H H' → Q (.bl b) H') := by
  refine T.F_is_reading.ok sc_is_reading (fun vs H Q E h => ?_) (fun cdv A outer s H vs Q E hr h => ?_)
  · obtain ⟨_, _, _, _, _, _, rfl, _⟩ := h
    rfl
  · obtain ⟨u, t, v, b, hu, ht, rfl, lu, lt, hv, q⟩ := h
    refine ⟨_, (pss_cons (ps_expr (pe_call (ok_need_word T) (hr.mono (by decide)) (by rfl) T.g_need_word T.F_need_word.kp (b_need_word T) .nil pass0 (pa_cons (pv 0) pa_nil))) (pss_cons (ps_expr (pe_call (ok_need_text T) (hr.mono (by decide)) (by rfl) T.g_need_text T.F_need_text.kp (b_need_text T) .nil pass0 (pa_cons (pv 1) pa_nil))) (pss_one (ps_ret (pe_call (ok2__reads T) (hr.mono (by decide)) (by rfl) T.g__reads T.F__reads.kp (b__reads T) .nil pass0 (pa_cons (pv 0) (pa_cons (pv 1) (pa_cons (pv 2) pa_nil)))))))), ?_⟩
    exact ⟨_, rfl, u, rfl, hu, _, rfl, t, rfl, ht, _, rfl, _, rfl, _, rfl, u, t, v, b, rfl, lu, lt, hv, q⟩
def sp_yes (K : PySem.W.Frag) : Sp := fun vs H Q _ => ∃ a : Bool, vs = [.bl a, .bl a] ∧ Q (.bl true) H
theorem ok__law_yes (T : Tx K mg) : FnOk P w K mg base CX0 1 T.a__law_yes T.fd__law_yes ["_law_told", "_law_due"] (sp_yes K) := by
  refine T.F__law_yes.ok sc__law_yes (fun vs H Q E h => ?_) (fun cdv A outer s H vs Q E hr h => ?_)
  · obtain ⟨_, rfl, _⟩ := h
    rfl
  · obtain ⟨a, rfl, q⟩ := h
    refine ⟨_, (pss_one (ps_ret (pe_and (pe_callB call_isi (by rfl) T.n_isinstance (by decide +kernel) (pa_cons (pv 0) (pa_cons (pe_bltn (v := .ty "bool") (u := .type "bool") (by rfl) T.n_bool (by decide +kernel) rfl) pa_nil))) (pe_one (pe_cmpR op_eq (pv 0) (pv 1) (nomark _)))))), ?_⟩
    refine ⟨_, rfl, _, _, .type "bool", _, true, rfl, .ty _, .base (.bl _), kit_ty (by decide +kernel), true, rfl, iteT ?_⟩
    refine ⟨_, rfl, _, rfl, rfl, ?_⟩
    rw [Rx.eq_same rfl]
    exact q
def sp_same (K : PySem.W.Frag) : Sp := fun vs H Q _ => ∃ (a : Addr) (p : List Nat) (v : V), vs = [.ref a, v] ∧ H a = some (.tup ((nts p).map V.int)) ∧ p.length ≤ 100 ∧ (∀ q ∈ p, q < 2 ^ 30) ∧
  ((∃ d, Dp K H v d ∧ SeqAt.shaped d = true ∧ ∀ b : Bool, (b = true ↔ d = uI (nts p)) → Q (.bl b) H) ∨ ∃ a' kvs, v = .ref a' ∧ H a' = some (.dK kvs) ∧ Q (.bl false) H)
theorem ok__law_same_as (T : Tx K mg) : Gx.FnG P w K mg base CX0 1 T.a__law_same_as T.fd__law_same_as ["_law_one", "_law_other"] (sp_same K) := by
  refine Gx.okG T.F__law_same_as sc__law_same_as (fun vs H Q E h => ?_) (fun cdv A outer s H vs Q E gA hr h => ?_)
  · obtain ⟨_, _, _, rfl, _⟩ := h
    rfl
  · obtain ⟨a, p, v, rfl, hA, lp, sp, hv⟩ := h
    refine ⟨_, (pss_one (ps_ret (pe_and (pe_cmpR (Ty.op_eqO hr.units) (pv 0) (pv 1) (nomark _)) (pe_one (pe_cmpR op_eq (pe_callB (Gx.cr_repr gA hr.units) (by rfl) T.n_repr (by decide +kernel) (pa_cons (pv 0) pa_nil)) (pe_callB (Gx.cr_repr gA hr.units) (by rfl) T.n_repr (by decide +kernel) (pa_cons (pv 1) pa_nil)) (nomark _)))))), ?_⟩
    have dA : Dp K H (.ref a) (uI (nts p)) := dp_uints hA
    have len : (nts p).length ≤ 100 := by unfold nts; rw [List.length_map]; exact lp
    rcases hv with ⟨d, hd, sh, q⟩ | ⟨a', kvs, rfl, h', q⟩
    · refine ⟨_, rfl, _, rfl, .inl ⟨uI (nts p), d, dA, hd, sh_uints _, sh, PyData.eqv (uI (nts p)) d, rfl, ?_⟩⟩
      cases e : PyData.eqv (uI (nts p)) d with
      | false =>
        refine iteF (q false ?_)
        constructor
        · intro z
          cases z
        · intro z
          rw [z, SeqAt.eqv_refl _ (SeqAt.canLay_of_shaped (sh_uints _))] at e
          cases e
      | true =>
        cases d with
        | tuple es =>
          have e' : PyData.eqvAll ((nts p).map .int) es = true := e
          obtain ⟨k1, k2⟩ := eqv_bits _ _ e'
          obtain ⟨o1, o2, o3⟩ := tuple_ok (es := (nts p).map .int) (by rw [List.length_map]; exact len) fun x hx => by
            obtain ⟨n, hn, rfl⟩ := List.mem_map.mp hx
            exact .inl ⟨n, nts_small sp n hn, rfl⟩
          obtain ⟨o4, o5, o6⟩ := tuple_ok (es := es) (by omega) fun x hx => by
            rcases k2 x hx with ⟨n, hn, rfl⟩ | z
            · exact .inl ⟨n, nts_small sp n hn, rfl⟩
            · exact .inr z
          refine iteT ?_
          refine ⟨_, rfl, _, uI (nts p), rfl, dA, o1, o2, o3, _, rfl, _, .tuple es, rfl, hd, o4, o5, o6, rfl, ?_⟩
          refine q _ ?_
          rw [decide_eq_true_iff]
          constructor
          · intro z
            have := strict e' (V.str.inj z)
            rw [this]
          · intro z
            rw [z]
        | none => simp [PyData.eqv] at e
        | bool _ => simp [PyData.eqv] at e
        | int _ => simp [PyData.eqv] at e
        | str _ => simp [PyData.eqv] at e
        | list _ => simp [PyData.eqv] at e
        | dict _ => simp [PyData.eqv] at e
    · exact ⟨_, rfl, _, rfl, .inr ⟨a, _, a', kvs, rfl, rfl, .inl (.inl hA), h', false, rfl, iteF q⟩⟩
end
end K01
set_option Elab.async false
set_option linter.all false
set_option maxRecDepth 100000
set_option maxHeartbeats 4000000
/-! Ty4: + and slices of tuples by their items; values that are data of a small depth -/
namespace Ty
open PySem PySem.Spec PyProof.Rows L2 Evl Bx Rx
section
variable {K : PySem.W.Frag} {H : Hp}
theorem catA_of {a b : Addr} {xs ys : List V} {Q : VK} (ha : SqT K H a xs) (hb : SqT K H b ys) (hz : xs.length + ys.length ≤ sizeLine) (q : ∀ p H', Ex H H' → SqT K H' p (xs ++ ys) → Q (.ref p) H') : rCatA K (.ref a) (.ref b) H Q := by
  refine ⟨a, b, xs, ys, rfl, rfl, ha, hb, hz, fun e => ?_, fun _ e => ?_, fun _ _ p np => q p _ (Ex.new np) (.inl (.inl upd_same))⟩
  · exact q b H (Ex.refl H) (by rw [e]; exact hb)
  · exact q a H (Ex.refl H) (by rw [e, List.append_nil]; exact ha)
theorem slA_of {a : Addr} {xs : List V} {lo hi : Option Int} {Q : VK} (ha : SqT K H a xs) (q : ∀ p H', Ex H H' → SqT K H' p (cutV xs lo hi) → Q (.ref p) H') : rSlA K (.ref a) lo hi H Q := by
  refine ⟨a, xs, rfl, ha, fun e => ?_, fun _ p np => q p _ (Ex.new np) (.inl (.inl upd_same))⟩
  have : cutV xs lo hi = xs := by
    unfold cutV
    rw [e.1, e.2, List.drop_zero, Nat.sub_zero, List.take_of_length_le (Nat.le_refl _)]
  exact q a H (Ex.refl H) (by rw [this]; exact ha)
/-- data of a small depth -/
def Dd (n : Nat) (K : PySem.W.Frag) (H : Hp) (v : V) : Prop := ∃ d, Dp K H v d ∧ d.canLay0 = true ∧ d.depth ≤ n
theorem Dd.ex {n : Nat} {H' : Hp} {v : V} (h : Dd n K H v) (e : Ex H H') : Dd n K H' v := let ⟨d, a, b⟩ := h; ⟨d, dp_ex e a, b⟩
theorem Dd.up {n m : Nat} {v : V} (h : Dd n K H v) (e : n ≤ m) : Dd m K H v := let ⟨d, a, b, c⟩ := h; ⟨d, a, b, by omega⟩
theorem dd_all {n : Nat} : ∀ {xs : List V}, (∀ x ∈ xs, Dd n K H x) → ∃ ds, DpAll K H xs ds ∧ PyData.canLayAll0 ds = true ∧ PyData.depthAll ds ≤ n
  | [], _ => ⟨[], .nil, rfl, Nat.zero_le _⟩
  | x :: xs, h => by
    obtain ⟨d, a, b, c⟩ := h x List.mem_cons_self
    obtain ⟨ds, a', b', c'⟩ := dd_all fun y hy => h y (List.mem_cons_of_mem _ hy)
    refine ⟨d :: ds, .cons a a', ?_, ?_⟩
    · show (PyData.canLay0 d && PyData.canLayAll0 ds) = true
      rw [b, b']
      rfl
    · show max (PyData.depth d) (PyData.depthAll ds) ≤ n
      omega
theorem dd_tup {n : Nat} {a : Addr} {xs : List V} (h : SqT K H a xs) (hx : ∀ x ∈ xs, Dd n K H x) : Dd (n + 1) K H (.ref a) := by
  obtain ⟨ds, a', b, c⟩ := dd_all hx
  refine ⟨.tuple ds, .tup h a', b, ?_⟩
  show PyData.depthAll ds + 1 ≤ n + 1
  omega
theorem dd_lst {n : Nat} {a : Addr} {xs : List V} (h : SqL K H a xs) (hx : ∀ x ∈ xs, Dd n K H x) : Dd (n + 1) K H (.ref a) := by
  obtain ⟨ds, a', b, c⟩ := dd_all hx
  refine ⟨.list ds, .lst h a', b, ?_⟩
  show PyData.depthAll ds + 1 ≤ n + 1
  omega
theorem dd_int (i : Int) : Dd 0 K H (.int i) := ⟨.int i, .int i, rfl, Nat.le_refl _⟩
theorem dd_bl (b : Bool) : Dd 0 K H (.bl b) := ⟨.bool b, .bl b, rfl, Nat.le_refl _⟩
theorem dd_non : Dd 0 K H .non := ⟨.none, .non, rfl, Nat.le_refl _⟩
theorem dd_str {z : Str} (h : z.cps.all (· < 0x110000) = true) : Dd 0 K H (.str z) := ⟨.str z, .str z, h, Nat.le_refl _⟩
theorem dd_low {l : List Nat} (h : Low l) : Dd 0 K H (tx l) := ⟨.str (mk l), .str (mk l), str_ok h, Nat.le_refl _⟩
theorem dd_txt (i : Int) : Dd 0 K H (.str (Str.ofString (toString i))) := by
  refine dd_str ?_
  rw [← Array.all_toList, List.all_eq_true]
  intro c hc
  rw [signs_ofString] at hc
  obtain ⟨ch, h1, rfl⟩ := List.mem_map.mp hc
  refine decide_eq_true ?_
  rcases int_sign i ch h1 with z | z
  · have := (digit_range z).2
    omega
  · subst z
    decide
theorem Dd.shaped {n : Nat} {v : V} (h : Dd n K H v) (hn : n ≤ 60) : ∃ d, Dp K H v d ∧ SeqAt.shaped d = true := by
  obtain ⟨d, a, b, c⟩ := h
  refine ⟨d, a, ?_⟩
  show (d.canLay0 && decide (d.depth ≤ 64)) = true
  rw [b, decide_eq_true (by omega)]
  rfl
/-- a value that may be asked -/
def Odd (K : PySem.W.Frag) (H : Hp) (v : V) : Prop := Dd 60 K H v ∨ ∃ a kvs, v = .ref a ∧ H a = some (.dK kvs)
theorem Odd.ex {H' : Hp} {v : V} (h : Odd K H v) (e : Ex H H') : Odd K H' v := by
  rcases h with h | ⟨a, kvs, h1, h2⟩
  · exact .inl (h.ex e)
  · exact .inr ⟨a, kvs, h1, e _ _ h2⟩
end
end Ty
namespace Ty
open PySem PySem.Spec PyProof.Rows L2 Evl Bx Rx
theorem mem_cut {xs : List V} {lo hi : Option Int} {x : V} (h : x ∈ cutV xs lo hi) : x ∈ xs := List.mem_of_mem_drop (List.mem_of_mem_take h)
theorem all_app {α : Type} {P : α → Prop} {xs ys : List α} (a : ∀ x ∈ xs, P x) (b : ∀ x ∈ ys, P x) : ∀ x ∈ xs ++ ys, P x := fun x hx => (List.mem_append.mp hx).elim (a x) (b x)
theorem all_one {α : Type} {P : α → Prop} {x : α} (a : P x) : ∀ y ∈ [x], P y := fun y hy => by rw [List.mem_singleton.mp hy]; exact a
end Ty
namespace Ty
open PySem PySem.Spec PyProof.Rows L2 Evl Bx Rx
/-- a heap without one object -/
def wo (z : Addr) (H : Hp) : Hp := fun b => if b = z then none else H b
theorem wo_get {z b : Addr} {H : Hp} {o : HO} (n : b ≠ z) (h : H b = some o) : wo z H b = some o := by
  unfold wo
  rw [if_neg n]
  exact h
theorem wo_ex {z : Addr} {H : Hp} : Ex (wo z H) H := fun b o h => by
  unfold wo at h
  by_cases n : b = z
  · rw [if_pos n] at h
    cases h
  · rw [if_neg n] at h
    exact h
theorem wo_of {z : Addr} {H H' : Hp} (n : H z = none) (e : Ex H H') : Ex H (wo z H') := fun b o h => wo_get (fun q => by rw [q, n] at h; cases h) (e b o h)
theorem wo_xg {z : Addr} {H H' : Hp} (e : Xg z H H') : Ex (wo z H) (wo z H') := fun b o h => by
  unfold wo at h
  by_cases n : b = z
  · rw [if_pos n] at h
    cases h
  · rw [if_neg n] at h
    exact wo_get n (e b o n h)
end Ty
namespace Ty
open PySem PySem.Spec PyProof.Rows L2 Evl Bx Rx
theorem wo_t {K : PySem.W.Frag} {z a : Addr} {H : Hp} {xs ys : List V} (hz : H z = some (.lst ys)) (h : SqT K H a xs) : SqT K (wo z H) a xs := by
  rcases h with (h | ⟨o, h⟩) | h
  · exact .inl (.inl (wo_get (fun e => by rw [e, hz] at h; cases h) h))
  · exact .inl (.inr ⟨o, wo_get (fun e => by rw [e, hz] at h; cases h) h⟩)
  · exact .inr h
end Ty
namespace Ty
open PySem PySem.Spec PyProof.Rows L2 Evl Bx Rx
/-- what follows, once for all ways that lead to it -/
theorem cut_rest {G : Prop} {H8 : Hp} (R : Hp → Prop) (use : (∀ H9, Ex H8 H9 → R H9) → G) (rest : ∀ H9, Ex H8 H9 → R H9) : G := use rest
/-- x = e, by what is known of its value -/
theorem asg_by {te : TE} {i : Nat} {D : Ends} {σ : L2.St} {H : Hp} (Good : V → Hp → Prop) (h : ∀ Q : VK, (∀ v H', Good v H' → Q v H') → te σ H Q) (k : ∀ v H', Good v H' → D.nx (σ.set i (some v)) H') : tAsg te (gName i) D σ H := h _ fun v H' g => k v H' g
end Ty
set_option Elab.async false
set_option linter.all false
set_option maxRecDepth 100000
set_option maxHeartbeats 8000000
namespace K01
open PySem PySem.Spec PyProof.Rows L2 Evl Bx
open Nx Rx Dx Ty
section
variable {P : Program} {w : World} {K : PySem.W.Frag} {mg : Str → Option Value} {base : Heap}
def sp_bent (K : PySem.W.Frag) : Sp := fun vs H Q _ => ∃ (g : V) (a : Addr) (p : List Nat) (m : Nat), vs = [g, .ref a, .int (m : Nat)] ∧ H a = some (.tup ((nts p).map V.int)) ∧ p.length ≤ 50 ∧ (∀ q ∈ p, q < 2 ^ 30) ∧
  ∀ H' z ys, Ex H H' → H z = none → H' z = some (.lst ys) → ys.length ≤ 1000 → (∀ y ∈ ys, Odd K H' y) → Q (.ref z) H'
theorem ok__law_bent (T : Tx K mg) : FnOk P w K mg base CX0 1 T.a__law_bent T.fd__law_bent ["_law_generator_here", "_law_places", "_law_size"] (sp_bent K) := by
  refine T.F__law_bent.ok sc__law_bent (fun vs H Q E h => ?_) (fun cdv A outer s H vs Q E hr h => ?_)
  · obtain ⟨_, _, _, _, rfl, _⟩ := h
    rfl
  · obtain ⟨g, a, p, m, rfl, hA, lp, sp, q⟩ := h
    refine ⟨_, (pss_cons (ps_set (i := 3) sc__law_bent.nd rfl (by first | exact Or.inl rfl | exact Or.inr rfl) (pe_lst (pa_cons (pe_callTy call_list_of (by rfl) T.n_list (by decide +kernel) (pa_cons (pv 1) pa_nil)) (pa_cons (pe_op op_catA (pv 1) (pe_tup (pa_cons (pv 2) pa_nil))) (pa_cons (pe_slice sl_tupA (pv 1) po_none (po_some (pe_op op_sub pe_int pe_int))) (pa_cons (Ty.pe_revT (pv 1) (po_some (pe_op op_sub pe_int pe_int))) (pa_cons pe_non (pa_cons pe_str (pa_cons pe_dnewK (pa_cons pe_int pa_nil)))))))))) (pss_cons (ps_for PassesOwn.never rfl (pi_range1 (by rfl) T.n_range (pa_cons (pe_callB call_len_seq (by rfl) T.n_len (by decide +kernel) (pa_cons (pv 1) pa_nil)) pa_nil)) (pg_name (i := 4) sc__law_bent.nd rfl (by first | exact Or.inl rfl | exact Or.inr rfl)) (pss_cons (ps_for PassesOwn.never rfl (pi_list (pe_lst (pa_cons (pe_op op_add (pe_ix ix_tup (pv 1) (pv 4) (fun _ _ => rfl)) pe_int) (pa_cons (pe_op op_sub (pe_ix ix_tup (pv 1) (pv 4) (fun _ _ => rfl)) pe_int) (pa_cons (pe_op op_sub pe_int pe_int) (pa_cons (pv 2) (pa_cons pe_non (pa_cons (pe_callTy call_str_int (by rfl) T.n_str (by decide +kernel) (pa_cons (pe_ix ix_tup (pv 1) (pv 4) (fun _ _ => rfl)) pa_nil)) (pa_cons (pe_tup (pa_cons (pe_ix ix_tup (pv 1) (pv 4) (fun _ _ => rfl)) pa_nil)) (pa_cons (pe_lst (pa_cons (pe_ix ix_tup (pv 1) (pv 4) (fun _ _ => rfl)) pa_nil)) pa_nil)))))))))) (pg_name (i := 5) sc__law_bent.nd rfl (by first | exact Or.inl rfl | exact Or.inr rfl)) (pss_one (ps_expr (pe_bm PySem.F.plainAttrs_list PySem.F.slot_list_append PySem.F.type_list_append mt_append (pv 3) (pa_cons (pe_op op_catA (pe_op op_catA (pe_slice sl_tupA (pv 1) po_none (po_some (pv 4))) (pe_tup (pa_cons (pv 5) pa_nil))) (pe_slice sl_tupA (pv 1) (po_some (pe_op op_add (pv 4) pe_int)) po_none)) pa_nil))))) (pss_one (ps_expr (pe_bm PySem.F.plainAttrs_list PySem.F.slot_list_append PySem.F.type_list_append mt_append (pv 3) (pa_cons (pe_op op_catA (pe_op op_catA (pe_slice sl_tupA (pv 1) po_none (po_some (pv 4))) (pe_tup (pa_cons (pe_cmpR op_eq (pe_ix ix_tup (pv 1) (pv 4) (fun _ _ => rfl)) pe_int (nomark _)) pa_nil))) (pe_slice sl_tupA (pv 1) (po_some (pe_op op_add (pv 4) pe_int)) po_none)) pa_nil)))))) (pss_one (ps_ret (pe_op op_cat (pv 3) (pe_lst (pa_cons (pe_op op_catA (pv 1) (pv 1)) (pa_cons (pe_tup (pa_cons (pv 1) pa_nil)) (pa_cons (pe_op op_catA (pv 1) (pe_tup (pa_cons pe_int pa_nil))) pa_nil))))))))), ?_⟩
    have ln : (nts p).length = p.length := by unfold nts; rw [List.length_map]
    have lx : ((nts p).map V.int).length = p.length := by rw [List.length_map, ln]
    have hS : SqT K H a ((nts p).map V.int) := .inl (.inl hA)
    have dS : ∀ x ∈ (nts p).map V.int, ∀ H, Dd 0 K H x := fun x hx H => by
      obtain ⟨n, _, rfl⟩ := List.mem_map.mp hx
      exact dd_int n
    -- the first eight
    refine ⟨_, rfl, a, _, rfl, .inr hS, fun p1 n1 => ?_⟩
    have e1 := Ex.new n1 (o := .lst ((nts p).map V.int))
    have h1 := upd_same (H := H) (a := p1) (o := .lst ((nts p).map V.int))
    generalize upd H p1 (.lst ((nts p).map V.int)) = H1 at e1 h1 ⊢
    refine ⟨_, rfl, _, rfl, by show 1 ≤ sizeLine; decide, fun p2 n2 => ?_⟩
    have e2 := Ex.new n2 (o := .tup [V.int (m : Nat)])
    have h2 := upd_same (H := H1) (a := p2) (o := .tup [V.int (m : Nat)])
    refine catA_of (ex_t (e1.trans e2) hS) (.inl (.inl h2)) (by rw [lx]; exact sz_of (by show _ + 1 ≤ _; omega)) fun p3 H3 e3 h3 => ?_
    have x3 := (e1.trans e2).trans e3
    have g1 := e3 _ _ (e2 _ _ h1)
    refine ⟨_, rfl, _, _, rfl, rfl, _, rfl, slA_of (ex_t x3 hS) fun p4 H4 e4 h4 => ?_⟩
    have x4 := x3.trans e4
    refine ⟨_, rfl, _, _, rfl, rfl, _, rfl, a, _, rfl, rfl, ex_t x4 hS, fun p5 n5 => ?_⟩
    have e5 := Ex.new n5 (o := .tup ((nts p).map V.int).reverse)
    have h5 := upd_same (H := H4) (a := p5) (o := .tup ((nts p).map V.int).reverse)
    generalize upd H4 p5 (.tup ((nts p).map V.int).reverse) = H5 at e5 h5 ⊢
    refine fun p6 n6 => ?_
    have e6 := Ex.new n6 (o := .dK [])
    have h6 := upd_same (H := H5) (a := p6) (o := .dK [])
    generalize upd H5 p6 (.dK []) = H6 at e6 h6 ⊢
    refine ⟨by show 8 ≤ sizeLine; decide, fun z nz => ?_⟩
    have e7 := Ex.new nz (o := .lst [.ref p1, .ref p3, .ref p4, .ref p5, .non, .str (Str.ofString "a"), .ref p6, .int 7])
    have h7 := upd_same (H := H6) (a := z) (o := .lst [.ref p1, .ref p3, .ref p4, .ref p5, .non, .str (Str.ofString "a"), .ref p6, .int 7])
    have x6 := (x4.trans e5).trans e6
    have fz : H z = none := fresh_back x6 nz
    generalize upd H6 z (.lst [.ref p1, .ref p3, .ref p4, .ref p5, .non, .str (Str.ofString "a"), .ref p6, .int 7]) = H7 at e7 h7 ⊢
    have x7 := x6.trans e7
    have odds : ∀ y ∈ [V.ref p1, .ref p3, .ref p4, .ref p5, .non, .str (Str.ofString "a"), .ref p6, .int 7], Odd K (wo z H7) y := by
      intro y hy
      simp only [List.mem_cons, List.not_mem_nil, or_false] at hy
      have e7' := wo_of nz e7
      have z4 := (e4.trans e5).trans (e6.trans e7')
      have z5 := e5.trans (e6.trans e7')
      have z6 := e6.trans e7'
      rcases hy with rfl | rfl | rfl | rfl | rfl | rfl | rfl | rfl
      · exact .inl ((dd_lst (.inl (.inl (z4 _ _ g1))) fun x hx => dS x hx _).up (by decide))
      · exact .inl ((dd_tup (ex_t z4 h3) (all_app (fun x hx => dS x hx _) (all_one (dd_int _)))).up (by decide))
      · exact .inl ((dd_tup (ex_t z5 h4) fun x hx => dS x (mem_cut hx) _).up (by decide))
      · exact .inl ((dd_tup (.inl (.inl (z6 _ _ h5))) fun x hx => dS x (List.mem_reverse.mp hx) _).up (by decide))
      · exact .inl (dd_non.up (by decide))
      · exact .inl ((dd_str (by decide +kernel)).up (by decide))
      · exact .inr ⟨p6, _, rfl, e7' _ _ h6⟩
      · exact .inl ((dd_int 7).up (by decide))
    -- at each place
    refine ⟨_, rfl, a, _, rfl, .inr (ex_t x7 hS), _, rfl, by rw [lx]; omega, by rw [lx]; omega, ?_⟩
    rw [lx, Int.toNat_natCast]
    refine for_range (lo := 0) (n := p.length) (fun i σ' H' => ∃ y4 y5 ys, σ' = [some g, some (.ref a), some (.int (m : Nat)), some (.ref z), y4, y5] ∧ Ex H H' ∧ H' z = some (.lst ys) ∧ ys.length ≤ 8 + 9 * i ∧ ∀ y ∈ ys, Odd K (wo z H') y) ⟨_, _, _, rfl, x7, h7, by show 8 ≤ 8 + 9 * 0; decide, odds⟩ (fun i σ' H' hi hp => ?_) (fun σ' H' hp => ?_)
    · obtain ⟨y4, y5, ys, rfl, a1, a2, a3, a4⟩ := hp
      have e0 : (0 : Int) + (i : Nat) = (i : Nat) := Int.zero_add _
      rw [e0]
      have hil : i < (nts p).length := by omega
      have hat : atI ((nts p).map V.int) ((i : Nat) : Int) = some (V.int (nts p)[i]) := atI_nat (by rw [List.getElem?_map, List.getElem?_eq_getElem hil]; rfl)
      have hni : ((nts p)[i]).natAbs < 2 ^ 40 := nts_small sp _ (List.getElem_mem hil)
      generalize (nts p)[i] = n at hat hni
      have hS' := ex_t a1 hS
      have lg : n.natAbs.log2 < 1920 := by
        by_cases z0 : n.natAbs = 0
        · rw [z0]
          decide
        · exact (Nat.log2_lt z0).mpr (Nat.lt_of_lt_of_le hni (Nat.pow_le_pow_right (by decide) (by decide)))
      refine ⟨_, rfl, _, rfl, a, _, _, _, rfl, rfl, hS', hat, _, 1, rfl, rfl, ?_⟩
      refine ⟨_, rfl, _, rfl, a, _, _, _, rfl, rfl, hS', hat, _, 1, rfl, rfl, ?_⟩
      refine ⟨_, _, rfl, rfl, _, rfl, ?_⟩
      refine ⟨_, rfl, _, rfl, a, _, _, _, rfl, rfl, hS', hat, n, rfl, lg, ?_⟩
      refine ⟨_, rfl, _, rfl, a, _, _, _, rfl, rfl, hS', hat, by show 1 ≤ sizeLine; decide, fun q1 m1 => ?_⟩
      have f1 := Ex.new m1 (o := .tup [V.int n])
      have k1 := upd_same (H := H') (a := q1) (o := .tup [V.int n])
      generalize upd H' q1 (.tup [V.int n]) = G1 at f1 k1 ⊢
      refine ⟨_, rfl, _, rfl, a, _, _, _, rfl, rfl, ex_t f1 hS', hat, by show 1 ≤ sizeLine; decide, fun q2 m2 => ?_⟩
      have f2 := Ex.new m2 (o := .lst [V.int n])
      have k2 := upd_same (H := G1) (a := q2) (o := .lst [V.int n])
      generalize upd G1 q2 (.lst [V.int n]) = G2 at f2 k2 ⊢
      refine ⟨by show 8 ≤ sizeLine; decide, fun q3 m3 => ?_⟩
      have f3 := Ex.new m3 (o := .lst [.int (n + 1), .int (n - 1), .int (0 - 1), .int (m : Nat), .non, .str (Str.ofString (toString n)), .ref q1, .ref q2])
      have k3 := upd_same (H := G2) (a := q3) (o := .lst [.int (n + 1), .int (n - 1), .int (0 - 1), .int (m : Nat), .non, .str (Str.ofString (toString n)), .ref q1, .ref q2])
      generalize upd G2 q3 (.lst [.int (n + 1), .int (n - 1), .int (0 - 1), .int (m : Nat), .non, .str (Str.ofString (toString n)), .ref q1, .ref q2]) = G3 at f3 k3 ⊢
      have x3' := (f1.trans f2).trans f3
      have nz1 : q1 ≠ z := fun y => by rw [y, a2] at m1; cases m1
      have nz2 : q2 ≠ z := fun y => by
        have := f1 _ _ a2
        rw [← y, m2] at this
        cases this
      have nz3 : q3 ≠ z := fun y => by
        have := f2 _ _ (f1 _ _ a2)
        rw [← y, m3] at this
        cases this
      have dds : ∀ y ∈ [V.int (n + 1), .int (n - 1), .int (0 - 1), .int (m : Nat), .non, .str (Str.ofString (toString n)), .ref q1, .ref q2], Dd 1 K (wo z G3) y := by
        intro y hy
        simp only [List.mem_cons, List.not_mem_nil, or_false] at hy
        rcases hy with rfl | rfl | rfl | rfl | rfl | rfl | rfl | rfl
        · exact (dd_int _).up (by decide)
        · exact (dd_int _).up (by decide)
        · exact (dd_int _).up (by decide)
        · exact (dd_int _).up (by decide)
        · exact dd_non.up (by decide)
        · exact (dd_txt n).up (by decide)
        · exact dd_tup (.inl (.inl (wo_get nz1 (f3 _ _ (f2 _ _ k1))))) (all_one (dd_int _))
        · exact dd_lst (.inl (.inl (wo_get nz2 (f3 _ _ k2)))) (all_one (dd_int _))
      generalize hits : [V.int (n + 1), .int (n - 1), .int (0 - 1), .int (m : Nat), .non, .str (Str.ofString (toString n)), .ref q1, .ref q2] = its at k3 dds
      have il : its.length = 8 := by rw [← hits]; rfl
      refine ⟨q3, rfl, ⟨_, .inl (.inl k3)⟩, ?_⟩
      refine for_list (xs := its) (fun j σ' H' => ∃ y5 ys, σ' = [some g, some (.ref a), some (.int (m : Nat)), some (.ref z), some (.int (i : Nat)), y5] ∧ Ex H H' ∧ Xg z G3 H' ∧ H' z = some (.lst ys) ∧ ys.length ≤ 8 + 9 * i + j ∧ ∀ y ∈ ys, Odd K (wo z H') y) ⟨_, ys, rfl, a1.trans x3', Xg.refl z G3, x3' _ _ a2, a3, fun y hy => (a4 y hy).ex (wo_xg (Xg.of x3'))⟩ (fun j σ2 H2 _ ⟨_, _, _, _, e, _⟩ => .inl (.inl (e _ _ nz3 k3))) (fun j x σ2 H2 hx hp => ?_) (fun σ2 H2 hp => ?_)
      · obtain ⟨y5, ys, rfl, b1, b2, b3, b4, b5⟩ := hp
        have hj : j < 8 := by rw [← il]; exact (List.getElem?_eq_some_iff.mp hx).1
        have dx := (dds x (List.mem_of_getElem? hx)).ex (wo_xg b2)
        have hS2 := ex_t b1 hS
        -- found.append(places[:at] + (odd,) + places[at + 1:])
        refine ⟨_, rfl, .inl ⟨rfl, _, .inl (.inl b3)⟩, ?_⟩
        refine ⟨_, rfl, _, rfl, _, rfl, slA_of hS2 fun r1 G4 g4 l1 => ?_⟩
        refine ⟨_, rfl, by show 1 ≤ sizeLine; decide, fun r2 m4 => ?_⟩
        have g5 := Ex.new m4 (o := .tup [x])
        have l2 := upd_same (H := G4) (a := r2) (o := .tup [x])
        generalize upd G4 r2 (.tup [x]) = G5 at g5 l2 ⊢
        have c1 := cutV_length ((nts p).map V.int) none (some ((i : Nat) : Int))
        have c2 := cutV_length ((nts p).map V.int) (some (((i : Nat) : Int) + 1)) none
        rw [lx] at c1 c2
        refine catA_of (ex_t g5 l1) (.inl (.inl l2)) (by exact sz_of (by show _ + 1 ≤ _; omega)) fun r3 G6 g6 l3 => ?_
        have g46 := g4.trans (g5.trans g6)
        refine ⟨_, rfl, _, rfl, _, 1, rfl, rfl, _, rfl, ?_⟩
        dsimp only [tNoPart]
        refine slA_of (ex_t g46 hS2) fun r4 G7 g7 l4 => ?_
        refine catA_of (ex_t g7 l3) l4 (by rw [List.length_append]; exact sz_of (by show _ + 1 + _ ≤ _; omega)) fun r5 G8 g8 l5 => ?_
        have g48 := g46.trans (g7.trans g8)
        refine ⟨z, _, _, rfl, rfl, g48 _ _ b3, by exact sz_lt (by omega), ?_⟩
        have gz := g48 _ _ b3
        have xg8 : Xg z H2 (upd G8 z (.lst (ys ++ [.ref r5]))) := (Xg.of g48).upd
        have odd8 : ∀ y ∈ ys ++ [V.ref r5], Odd K (wo z (upd G8 z (.lst (ys ++ [.ref r5])))) y := by
          refine all_app (fun y hy => (b5 y hy).ex (wo_xg xg8)) (all_one (.inl ?_))
          have t5 : SqT K (wo z (upd G8 z (.lst (ys ++ [.ref r5])))) r5 _ := ex_t (wo_xg (Xg.refl z G8).upd) (wo_t gz l5)
          exact (dd_tup t5 (all_app (all_app (fun y hy => (dS y (mem_cut hy) _).up (by decide)) (all_one (dx.ex (wo_xg xg8)))) (fun y hy => (dS y (mem_cut hy) _).up (by decide)))).up (by decide)
        exact ⟨_, _, rfl, Ex.mut (b1.trans g48) fz, b2.trans xg8, upd_same, by rw [List.length_append]; show _ + 1 ≤ _; omega, odd8⟩
      · obtain ⟨y5, ys, rfl, b1, b2, b3, b4, b5⟩ := hp
        rw [il] at b4
        have hS2 := ex_t b1 hS
        have dx : Dd 1 K (wo z H2) (V.bl (decide (V.int n = V.int 1))) := (dd_bl _).up (by decide)
        refine ⟨_, rfl, .inl ⟨rfl, _, .inl (.inl b3)⟩, ?_⟩
        refine ⟨_, rfl, _, rfl, _, rfl, slA_of hS2 fun r1 G4 g4 l1 => ?_⟩
        refine ⟨_, rfl, _, rfl, a, _, _, _, rfl, rfl, ex_t g4 hS2, hat, rfl, by show 1 ≤ sizeLine; decide, fun r2 m4 => ?_⟩
        have g5 := Ex.new m4 (o := .tup [V.bl (decide (V.int n = V.int 1))])
        have l2 := upd_same (H := G4) (a := r2) (o := .tup [V.bl (decide (V.int n = V.int 1))])
        generalize upd G4 r2 (.tup [V.bl (decide (V.int n = V.int 1))]) = G5 at g5 l2 ⊢
        have c1 := cutV_length ((nts p).map V.int) none (some ((i : Nat) : Int))
        have c2 := cutV_length ((nts p).map V.int) (some (((i : Nat) : Int) + 1)) none
        rw [lx] at c1 c2
        refine catA_of (ex_t g5 l1) (.inl (.inl l2)) (by exact sz_of (by show _ + 1 ≤ _; omega)) fun r3 G6 g6 l3 => ?_
        have g46 := g4.trans (g5.trans g6)
        refine ⟨_, rfl, _, rfl, _, 1, rfl, rfl, _, rfl, ?_⟩
        dsimp only [tNoPart]
        refine slA_of (ex_t g46 hS2) fun r4 G7 g7 l4 => ?_
        refine catA_of (ex_t g7 l3) l4 (by rw [List.length_append]; exact sz_of (by show _ + 1 + _ ≤ _; omega)) fun r5 G8 g8 l5 => ?_
        have g48 := g46.trans (g7.trans g8)
        refine ⟨z, _, _, rfl, rfl, g48 _ _ b3, by exact sz_lt (by omega), ?_⟩
        have gz := g48 _ _ b3
        have xg8 : Xg z H2 (upd G8 z (.lst (ys ++ [.ref r5]))) := (Xg.of g48).upd
        have odd8 : ∀ y ∈ ys ++ [V.ref r5], Odd K (wo z (upd G8 z (.lst (ys ++ [.ref r5])))) y := by
          refine all_app (fun y hy => (b5 y hy).ex (wo_xg xg8)) (all_one (.inl ?_))
          have t5 : SqT K (wo z (upd G8 z (.lst (ys ++ [.ref r5])))) r5 _ := ex_t (wo_xg (Xg.refl z G8).upd) (wo_t gz l5)
          exact (dd_tup t5 (all_app (all_app (fun y hy => (dS y (mem_cut hy) _).up (by decide)) (all_one (dx.ex (wo_xg xg8)))) (fun y hy => (dS y (mem_cut hy) _).up (by decide)))).up (by decide)
        exact ⟨_, _, _, rfl, Ex.mut (b1.trans g48) fz, upd_same, by rw [List.length_append]; show _ + 1 ≤ _; omega, odd8⟩
    · obtain ⟨y4, y5, ys, rfl, a1, a2, a3, a4⟩ := hp
      have hS' := ex_t a1 hS
      refine ⟨_, rfl, _, rfl, _, rfl, catA_of hS' hS' (by rw [lx]; exact sz_of (by omega)) fun r1 G1 g1 l1 => ?_⟩
      refine ⟨_, rfl, by show 1 ≤ sizeLine; decide, fun r2 m2 => ?_⟩
      have g2 := Ex.new m2 (o := .tup [V.ref a])
      have l2 := upd_same (H := G1) (a := r2) (o := .tup [V.ref a])
      generalize upd G1 r2 (.tup [V.ref a]) = G2 at g2 l2 ⊢
      refine ⟨_, rfl, by show 1 ≤ sizeLine; decide, fun r3 m3 => ?_⟩
      have g3 := Ex.new m3 (o := .tup [V.int 0])
      have l3 := upd_same (H := G2) (a := r3) (o := .tup [V.int 0])
      generalize upd G2 r3 (.tup [V.int 0]) = G3 at g3 l3 ⊢
      have g13 := g1.trans (g2.trans g3)
      refine catA_of (ex_t g13 hS') (.inl (.inl l3)) (by rw [lx]; exact sz_of (by show _ + 1 ≤ _; omega)) fun r4 G4 g4 l4 => ?_
      refine ⟨by show 3 ≤ sizeLine; decide, fun r5 m5 => ?_⟩
      have g5 := Ex.new m5 (o := .lst [V.ref r1, V.ref r2, V.ref r4])
      have l5 := upd_same (H := G4) (a := r5) (o := .lst [V.ref r1, V.ref r2, V.ref r4])
      generalize upd G4 r5 (.lst [V.ref r1, V.ref r2, V.ref r4]) = G5 at g5 l5 ⊢
      have g15 := g13.trans (g4.trans g5)
      refine ⟨z, r5, _, _, rfl, rfl, g15 _ _ a2, l5, by show _ + 3 ≤ _; exact sz_of (by omega), fun r6 m6 => ?_⟩
      have g6 := Ex.new m6 (o := .lst (ys ++ [V.ref r1, V.ref r2, V.ref r4]))
      have all := g15.trans g6
      have z2 := g3.trans (g4.trans (g5.trans g6))
      have z4 := g5.trans g6
      refine q _ r6 _ (a1.trans all) (fresh_back (a1.trans g15) m6) upd_same (by rw [List.length_append]; show _ + 3 ≤ _; omega) ?_
      refine all_app (fun y hy => ((a4 y hy).ex wo_ex).ex all) fun y hy => ?_
      simp only [List.mem_cons, List.not_mem_nil, or_false] at hy
      rcases hy with rfl | rfl | rfl
      · exact .inl ((dd_tup (ex_t ((g2.trans g3).trans (g4.trans (g5.trans g6))) l1) (all_app (fun x hx => dS x hx _) (fun x hx => dS x hx _))).up (by decide))
      · exact .inl ((dd_tup (.inl (.inl (z2 _ _ l2))) (all_one (dd_tup (ex_t (a1.trans all) hS) fun x hx => dS x hx _))).up (by decide))
      · exact .inl ((dd_tup (ex_t z4 l4) (all_app (fun x hx => dS x hx _) (all_one (dd_int _)))).up (by decide))
end
end K01
set_option Elab.async false
set_option linter.all false
set_option maxRecDepth 100000
set_option maxHeartbeats 8000000
namespace K01
open PySem PySem.Spec PyProof.Rows L2 Evl Bx
open Nx Rx Dx Ty
def p_kb_count_0_text_word {α : Type} : List α → List α → List α
  | [], [k0, k1] => [k1, k0]
  | _, _ => []
theorem r_kb_count_0_text_word {vs : List V} {us : List Value} {zs : List V} {ws : List Value} (r : Vals vs us) (rz : Vals zs ws) : Vals (p_kb_count_0_text_word vs zs) (p_kb_count_0_text_word us ws) := by
  cases r with
  | cons _ _ => exact .nil
  | nil =>
    cases rz with
    | nil => exact .nil
    | cons rk0 rz =>
      cases rz with
      | nil => exact .nil
      | cons rk1 rz =>
        cases rz with
        | cons _ _ => exact .nil
        | nil =>
          exact (.cons rk1 (.cons rk0 .nil))
theorem kb_count_0_text_word {K : PySem.W.Frag} {mg : Str → Option Value} (T : Tx K mg) : KBinds K T.fd_count ["word", "text"] ["text", "word"] p_kb_count_0_text_word p_kb_count_0_text_word := by
  obtain ⟨oc, od, kV, doc, pm, an, cdv, ct, osl, hfd, lk, hcd⟩ := T.F_count.ex
  refine ⟨fun s us ws _ hl => ?_, r_kb_count_0_text_word⟩
  rw [hfd]
  match us, ws, hl with
  | [], [k0, k1], _ => exact .of_eq rfl
def p_kb_reading_number_0_places_text_word {α : Type} : List α → List α → List α
  | [], [k0, k1, k2] => [k2, k1, k0]
  | _, _ => []
theorem r_kb_reading_number_0_places_text_word {vs : List V} {us : List Value} {zs : List V} {ws : List Value} (r : Vals vs us) (rz : Vals zs ws) : Vals (p_kb_reading_number_0_places_text_word vs zs) (p_kb_reading_number_0_places_text_word us ws) := by
  cases r with
  | cons _ _ => exact .nil
  | nil =>
    cases rz with
    | nil => exact .nil
    | cons rk0 rz =>
      cases rz with
      | nil => exact .nil
      | cons rk1 rz =>
        cases rz with
        | nil => exact .nil
        | cons rk2 rz =>
          cases rz with
          | cons _ _ => exact .nil
          | nil =>
            exact (.cons rk2 (.cons rk1 (.cons rk0 .nil)))
theorem kb_reading_number_0_places_text_word {K : PySem.W.Frag} {mg : Str → Option Value} (T : Tx K mg) : KBinds K T.fd_reading_number ["word", "text", "places"] ["places", "text", "word"] p_kb_reading_number_0_places_text_word p_kb_reading_number_0_places_text_word := by
  obtain ⟨oc, od, kV, doc, pm, an, cdv, ct, osl, hfd, lk, hcd⟩ := T.F_reading_number.ex
  refine ⟨fun s us ws _ hl => ?_, r_kb_reading_number_0_places_text_word⟩
  rw [hfd]
  match us, ws, hl with
  | [], [k0, k1, k2], _ => exact .of_eq rfl
def p_kb_is_reading_0_value_text_word {α : Type} : List α → List α → List α
  | [], [k0, k1, k2] => [k2, k1, k0]
  | _, _ => []
theorem r_kb_is_reading_0_value_text_word {vs : List V} {us : List Value} {zs : List V} {ws : List Value} (r : Vals vs us) (rz : Vals zs ws) : Vals (p_kb_is_reading_0_value_text_word vs zs) (p_kb_is_reading_0_value_text_word us ws) := by
  cases r with
  | cons _ _ => exact .nil
  | nil =>
    cases rz with
    | nil => exact .nil
    | cons rk0 rz =>
      cases rz with
      | nil => exact .nil
      | cons rk1 rz =>
        cases rz with
        | nil => exact .nil
        | cons rk2 rz =>
          cases rz with
          | cons _ _ => exact .nil
          | nil =>
            exact (.cons rk2 (.cons rk1 (.cons rk0 .nil)))
theorem kb_is_reading_0_value_text_word {K : PySem.W.Frag} {mg : Str → Option Value} (T : Tx K mg) : KBinds K T.fd_is_reading ["word", "text", "value"] ["value", "text", "word"] p_kb_is_reading_0_value_text_word p_kb_is_reading_0_value_text_word := by
  obtain ⟨oc, od, kV, doc, pm, an, cdv, ct, osl, hfd, lk, hcd⟩ := T.F_is_reading.ex
  refine ⟨fun s us ws _ hl => ?_, r_kb_is_reading_0_value_text_word⟩
  rw [hfd]
  match us, ws, hl with
  | [], [k0, k1, k2], _ => exact .of_eq rfl
/-! ### the k-th reading of the list -/
theorem lt_ir (a : List Nat) : ¬ a < a := List.lt_irrefl a
theorem sub_len : ∀ (m l : List (List Nat)), m.Pairwise (· < ·) → l.Pairwise (· < ·) → (∀ x ∈ l, x ∈ m) → l.length ≤ m.length
  | [], [], _, _, _ => Nat.le_refl _
  | [], x :: l, _, _, h => absurd (h x List.mem_cons_self) List.not_mem_nil
  | y :: m, [], _, _, _ => Nat.zero_le _
  | y :: m, x :: l, hm, hl, h => by
    have hm2 := List.pairwise_cons.mp hm
    have hl2 := List.pairwise_cons.mp hl
    have : l.length ≤ m.length := sub_len m l hm2.2 hl2.2 fun z hz => by
      rcases List.mem_cons.mp (h z (List.mem_cons_of_mem _ hz)) with e | e
      · exfalso
        have h1 := hl2.1 z hz
        rw [e] at h1
        rcases List.mem_cons.mp (h x List.mem_cons_self) with e2 | e2
        · rw [e2] at h1
          exact lt_ir _ h1
        · exact lt_ir _ (List.lt_trans h1 (hm2.1 x e2))
      · exact e
    simp only [List.length_cons]
    omega
theorem sub_eq : ∀ (m l : List (List Nat)), m.Pairwise (· < ·) → l.Pairwise (· < ·) → (∀ x ∈ l, x ∈ m) → l.length = m.length → l = m
  | [], l, _, _, _, e => List.eq_nil_of_length_eq_zero e
  | y :: m, [], _, _, _, e => by simp at e
  | y :: m, x :: l, hm, hl, h, e => by
    have hm2 := List.pairwise_cons.mp hm
    have hl2 := List.pairwise_cons.mp hl
    have big : ∀ z ∈ x :: l, z ≠ y → z ∈ m := fun z hz n => by
      rcases List.mem_cons.mp (h z hz) with e2 | e2
      · exact absurd e2 n
      · exact e2
    by_cases hxy : x = y
    · subst hxy
      have : l = m := sub_eq m l hm2.2 hl2.2 (fun z hz => big z (List.mem_cons_of_mem _ hz) fun e2 => by
        have := hl2.1 z hz
        rw [e2] at this
        exact lt_ir _ this) (by simpa using e)
      rw [this]
    · exfalso
      have hx := big x List.mem_cons_self hxy
      have hyx := hm2.1 x hx
      have : (x :: l).length ≤ m.length := sub_len m (x :: l) hm2.2 hl fun z hz => by
        refine big z hz fun e2 => ?_
        rcases List.mem_cons.mp hz with e3 | e3
        · exact hxy (e3.symm.trans e2)
        · have := hl2.1 z e3
          rw [e2] at this
          exact lt_ir _ (List.lt_trans hyx this)
      rw [e] at this
      simp at this
      omega
theorem rds_rd (u t : List Nat) : (List.range (Mx.cnt u t)).map (fun k => rd 0 u t k) = rds t 0 u := by
  refine sub_eq _ _ (rds_up t u 0) ?_ (fun x hx => ?_) ?_
  · rw [List.pairwise_map]
    refine List.Pairwise.imp_of_mem ?_ List.pairwise_lt_range
    intro a b ha hb h
    exact rd_lt t 0 u a b rfl h (List.mem_range.mp hb)
  · obtain ⟨k, hk, rfl⟩ := List.mem_map.mp hx
    exact (rds_isr t u 0 _).mpr (rd_isr t 0 u k rfl (List.mem_range.mp hk))
  · rw [List.length_map, List.length_range, rds_len, List.drop_zero]
theorem rds_at {u t : List Nat} {k : Nat} {p : List Nat} (h : (rds t 0 u)[k]? = some p) : k < Mx.cnt u t ∧ rd 0 u t k = p ∧ num t 0 u p = k ∧ isr t 0 u p := by
  have hk := (List.getElem?_eq_some_iff.mp h).1
  rw [rds_len, List.drop_zero] at hk
  rw [← rds_rd, List.getElem?_map, List.getElem?_range hk] at h
  have e : rd 0 u t k = p := Option.some.inj h
  refine ⟨hk, e, ?_, ?_⟩
  · rw [← e]
    exact rd_num t 0 u k rfl hk
  · rw [← e]
    exact rd_isr t 0 u k rfl hk
end K01
set_option Elab.async false
set_option linter.all false
set_option maxRecDepth 100000
set_option maxHeartbeats 16000000
namespace K01
open PySem PySem.Spec PyProof.Rows L2 Evl Bx
open Nx Rx Dx Ty
/-- a list of tuples of whole numbers, as data -/
abbrev tD (L : List (Addr × List Int)) : PyData := .list (L.map fun e => uI e.2)
theorem dp_tD {K : PySem.W.Frag} {H : Hp} {z : Addr} {L : List (Addr × List Int)} (h : H z = some (.lst (L.map fun e => V.ref e.1))) (ht : ∀ e ∈ L, H e.1 = some (.tup (e.2.map V.int))) : Dp K H (.ref z) (tD L) := by
  refine .lst (.inl (.inl h)) ?_
  clear h
  induction L with
  | nil => exact .nil
  | cons e L ih => exact .cons (dp_uints (ht e List.mem_cons_self)) (ih fun x hx => ht x (List.mem_cons_of_mem _ hx))
theorem sh_tD (L : List (Addr × List Int)) : SeqAt.shaped (tD L) = true := by
  have h1 : ∀ ns : List Int, (uI ns).canLay0 = true ∧ (uI ns).depth ≤ 1 := fun ns => by
    have := sh_uints ns
    have := Bool.and_eq_true_iff.mp this
    refine ⟨this.1, ?_⟩
    show PyData.depthAll (ns.map PyData.int) + 1 ≤ 1
    have : PyData.depthAll (ns.map PyData.int) = 0 := by
      induction ns with
      | nil => rfl
      | cons n ns ih =>
        show max 0 (PyData.depthAll (ns.map PyData.int)) = 0
        rw [ih (sh_uints ns) (Bool.and_eq_true_iff.mp (sh_uints ns))]
        rfl
    omega
  have h2 : PyData.canLayAll0 (L.map fun e => uI e.2) = true ∧ PyData.depthAll (L.map fun e => uI e.2) ≤ 1 := by
    induction L with
    | nil => exact ⟨rfl, Nat.zero_le _⟩
    | cons e L ih =>
      refine ⟨?_, ?_⟩
      · show (PyData.canLay0 (uI e.2) && PyData.canLayAll0 (L.map fun e => uI e.2)) = true
        rw [(h1 e.2).1, ih.1]
        rfl
      · show max (PyData.depth (uI e.2)) (PyData.depthAll (L.map fun e => uI e.2)) ≤ 1
        have := (h1 e.2).2
        omega
  show (PyData.canLayAll0 (L.map fun e => uI e.2) && decide (PyData.depthAll (L.map fun e => uI e.2) + 1 ≤ 64)) = true
  rw [h2.1, decide_eq_true (by omega)]
  rfl
theorem ne_nilD (L : List (Addr × List Int)) : (!PyData.eqv (tD L) (tD [])) = decide (L ≠ []) := by
  cases L with
  | nil => rfl
  | cons e L => simp [PyData.eqv, PyData.eqvAll]
theorem TupL.xg {g : Addr} {H H' : Hp} {p : Addr} {L : List (Addr × List Int)} {R : List (List Nat)} {n : Nat} (a : TupL H p L R) (x : Xg g H H') (gn : Gen H g n) (hp : p ≠ g) : TupL H' p L R := ⟨x _ _ hp a.1, fun e he => x _ _ (fun z => by
    obtain ⟨b, s, c, h, _⟩ := gn
    have := a.2.1 e he
    rw [z, h] at this
    cases this) (a.2.1 e he), a.2.2⟩
theorem rg_nts (n : Nat) : rgV 0 (n : Nat) = (nts (List.range n)).map V.int := by
  unfold rgV nts
  rw [List.map_map, Int.sub_zero, Int.toNat_natCast]
  exact List.map_congr_left fun i _ => by
    show V.int (0 + (i : Nat)) = V.int (i : Nat)
    rw [Int.zero_add]
section
variable {P : Program} {w : World} {K : PySem.W.Frag} {mg : Str → Option Value} {base : Heap}
def sp_pair (K : PySem.W.Frag) : Sp := fun vs H Q _ => ∃ (g : Addr) (u t : List Nat) (n : Nat), vs = [.ref g, tx u, tx t] ∧ Low u ∧ Low t ∧ u.length ≤ 4 ∧ t.length ≤ 12 ∧ Gen H g n ∧ n ≤ 2 ^ 30 ∧ ∀ H', Xg g H H' → Gen H' g (n + 10) → Q (.bl true) H'
theorem ok__law_pair_right (T : Tx K mg) : Gx.FnG P w K mg base CX0 4 T.a__law_pair_right T.fd__law_pair_right ["_law_generator_here", "_law_word", "_law_text_here"] (sp_pair K) := by
  refine Gx.okG T.F__law_pair_right sc__law_pair_right (fun vs H Q E h => ?_) (fun cdv A outer s H vs Q E gA hr h => ?_)
  · obtain ⟨_, _, _, _, rfl, _⟩ := h
    rfl
  · obtain ⟨g, u, t, n, rfl, hu, ht, lu, lt, gn, n1, q⟩ := h
    refine ⟨_, (pss_cons (ps_set (i := 3) sc__law_pair_right.nd rfl (by first | exact Or.inl rfl | exact Or.inr rfl) (pe_call (ok__law_readings T) (hr.mono (by decide)) (by rfl) T.g__law_readings T.F__law_readings.kp (b__law_readings T) .nil pass0 (pa_cons (pv 1) (pa_cons (pv 2) pa_nil)))) (pss_cons (ps_if (PW.pt (pw_or (pt_cmpR op_ne (pe_call (ok_count T) (hr.mono (by decide)) (by rfl) T.g_count T.F_count.kp (b_count T) .nil pass0 (pa_cons (pv 1) (pa_cons (pv 2) pa_nil))) (pe_callB call_len_seq (by rfl) T.n_len (by decide +kernel) (pa_cons (pv 3) pa_nil)) (nomark _)) (pw_or1 (pt_cmpR op_ne (pe_callK0 (ok_count T) (hr.mono (by decide)) (by rfl) T.g_count T.F_count.kp (kb_count_0_text_word T) pass0 (pk_cons (pv 2) (pk_cons (pv 1) pk_nil))) (pe_callB call_len_seq (by rfl) T.n_len (by decide +kernel) (pa_cons (pv 3) pa_nil)) (nomark _))))) (pss_one (ps_ret pe_bl)) pss_nil) (pss_cons (ps_if (pt_cmpR (op_neD hr.units) (pe_lc (own := [("_law_number", 4)]) (g := (gName 4))  rfl sc__law_pair_right.nd (pi_range1 (by rfl) T.n_range (pa_cons (pe_callB call_len_seq (by rfl) T.n_len (by decide +kernel) (pa_cons (pv 3) pa_nil)) pa_nil)) (blkOk_by (own := [("_law_number", 4)]) (N := N__law_pair_right) (sc := defScope s__law_pair_right) (by decide +kernel)) (fun _ _ _ _ _ => (pg_name (i := 4) sc__law_pair_right.nd rfl (by first | exact Or.inl rfl | exact Or.inr rfl))) (fun _ _ _ _ _ => (pts_one (pt_cmpR ((op_neD hr.units) : OpR _ _ (rNeD K)) (pe_call (ok_reading T) (hr.mono (by decide)) (by rfl) T.g_reading T.F_reading.kp (b_reading T) .nil pass0 (pa_cons (pv 1) (pa_cons (pv 2) (pa_cons (pv 4) pa_nil)))) (pe_ix (ix_list : IxR _ (rIxL K)) (pv 3) (pv 4) (fun _ _ => rfl)) (nomark _)))) (fun _ _ _ _ _ => (pv 4))) (pe_lst pa_nil) (nomark _)) (pss_one (ps_ret pe_bl)) pss_nil) (pss_cons (ps_if (pt_cmpR (op_neD hr.units) (pe_lc (own := [("_law_number", 4)]) (g := (gName 4))  rfl sc__law_pair_right.nd (pi_range1 (by rfl) T.n_range (pa_cons (pe_callB call_len_seq (by rfl) T.n_len (by decide +kernel) (pa_cons (pv 3) pa_nil)) pa_nil)) (blkOk_by (own := [("_law_number", 4)]) (N := N__law_pair_right) (sc := defScope s__law_pair_right) (by decide +kernel)) (fun _ _ _ _ _ => (pg_name (i := 4) sc__law_pair_right.nd rfl (by first | exact Or.inl rfl | exact Or.inr rfl))) (fun _ _ _ _ _ => (pts_one (pt_cmpR op_ne (pe_call (ok_reading_number T) (hr.mono (by decide)) (by rfl) T.g_reading_number T.F_reading_number.kp (b_reading_number T) .nil pass0 (pa_cons (pv 1) (pa_cons (pv 2) (pa_cons (pe_ix (ix_list : IxR _ (rIxL K)) (pv 3) (pv 4) (fun _ _ => rfl)) pa_nil)))) (pv 4) (nomark _)))) (fun _ _ _ _ _ => (pv 4))) (pe_lst pa_nil) (nomark _)) (pss_one (ps_ret pe_bl)) pss_nil) (pss_cons (ps_if (PW.pt (pw_and (pt_cmpR (op_neD hr.units) (pv 3) (pe_lst pa_nil) (nomark _)) (pw_and1 (pt_cmpR op_ne (pe_callK0 (ok_reading_number T) (hr.mono (by decide)) (by rfl) T.g_reading_number T.F_reading_number.kp (kb_reading_number_0_places_text_word T) pass0 (pk_cons (pe_ix ix_list (pv 3) pe_int (fun _ _ => rfl)) (pk_cons (pv 2) (pk_cons (pv 1) pk_nil)))) pe_int (nomark _))))) (pss_one (ps_ret pe_bl)) pss_nil) (pss_cons (ps_if (pt_cmpR (op_neD hr.units) (pe_lc (own := [("_law_places", 5)]) (g := (gName 5))  rfl sc__law_pair_right.nd (pi_list (pv 3)) (blkOk_by (own := [("_law_places", 5)]) (N := N__law_pair_right) (sc := defScope s__law_pair_right) (by decide +kernel)) (fun _ _ _ _ _ => (pg_name (i := 5) sc__law_pair_right.nd rfl (by first | exact Or.inl rfl | exact Or.inr rfl))) (fun _ _ _ _ _ => (pts_one (pt_cmpR op_notBl (pe_callK0 (ok2_is_reading T) (hr.mono (by decide)) (by rfl) T.g_is_reading T.F_is_reading.kp (kb_is_reading_0_value_text_word T) pass0 (pk_cons (pv 5) (pk_cons (pv 2) (pk_cons (pv 1) pk_nil)))) pe_bl (nomark _)))) (fun _ _ _ _ _ => (pv 5))) (pe_lst pa_nil) (nomark _)) (pss_one (ps_ret pe_bl)) pss_nil) (pss_cons (ps_set (i := 6) sc__law_pair_right.nd rfl (by first | exact Or.inl rfl | exact Or.inr rfl) (pe_ifExp (pt_cmpR (op_neD hr.units) (pv 3) (pe_lst pa_nil) (nomark _)) (pe_ix ix_list (pv 3) (pe_call (ok__law_random T) (hr.mono (by decide)) (by rfl) T.g__law_random T.F__law_random.kp (b__law_random T) .nil pass0 (pa_cons (pv 0) (pa_cons (pe_callB call_len_seq (by rfl) T.n_len (by decide +kernel) (pa_cons (pv 3) pa_nil)) pa_nil))) (fun _ _ => rfl)) (pe_tupRg rfl (by rfl) T.n_tuple (prg_1 (by rfl) T.n_range (pe_callB call_len_str (by rfl) T.n_len (by decide +kernel) (pa_cons (pv 1) pa_nil)))))) (pss_cons (ps_for PassesOwn.never rfl (pi_list (pe_call (ok__law_bent T) (hr.mono (by decide)) (by rfl) T.g__law_bent T.F__law_bent.kp (b__law_bent T) .nil pass0 (pa_cons (pv 0) (pa_cons (pv 6) (pa_cons (pe_callB call_len_str (by rfl) T.n_len (by decide +kernel) (pa_cons (pv 2) pa_nil)) pa_nil))))) (pg_name (i := 7) sc__law_pair_right.nd rfl (by first | exact Or.inl rfl | exact Or.inr rfl)) (pss_cons (ps_set (i := 8) sc__law_pair_right.nd rfl (by first | exact Or.inl rfl | exact Or.inr rfl) (pe_cmpR (op_neD hr.units) (pe_lc (own := [("_law_places", 5)]) (g := (gName 5))  rfl sc__law_pair_right.nd (pi_list (pv 3)) (blkOk_by (own := [("_law_places", 5)]) (N := N__law_pair_right) (sc := defScope s__law_pair_right) (by decide +kernel)) (fun _ _ _ _ _ => (pg_name (i := 5) sc__law_pair_right.nd rfl (by first | exact Or.inl rfl | exact Or.inr rfl))) (fun _ _ _ _ _ => (pts_one (pt_val (Gx.pe_callG (ok__law_same_as T) (hr.mono (by decide)) gA (by rfl) T.g__law_same_as T.F__law_same_as.kp (b__law_same_as T) .nil pass0 (pa_cons (pv 5) (pa_cons (pv 7) pa_nil)))))) (fun _ _ _ _ _ => (pv 5))) (pe_lst pa_nil) (nomark _))) (pss_one (ps_if (pt_not (pt_val (pe_call (ok__law_yes T) (hr.mono (by decide)) (by rfl) T.g__law_yes T.F__law_yes.kp (b__law_yes T) .nil pass0 (pa_cons (pe_call (ok2_is_reading T) (hr.mono (by decide)) (by rfl) T.g_is_reading T.F_is_reading.kp (b_is_reading T) .nil pass0 (pa_cons (pv 1) (pa_cons (pv 2) (pa_cons (pv 7) pa_nil)))) (pa_cons (pv 8) pa_nil))))) (pss_one (ps_ret pe_bl)) pss_nil)))) (pss_one (ps_ret pe_bl)))))))))), ?_⟩
    refine ⟨_, rfl, _, rfl, u, t, rfl, lu, lt, fun H1 pd L e1 m1 tl => ?_⟩
    have lenL := tl.len
    have lenC : L.length = Mx.cnt u t := by rw [lenL, rds_len, List.drop_zero]
    have sm := rds_small (u := u) (t := t) lu lt
    have hD1 := tl.1
    -- the count
    refine ⟨_, rfl, _, rfl, u, t, rfl, hu, ht, by omega, by omega, fun H2 e2 => ?_⟩
    have tl2 := tl.ex e2
    refine ⟨_, rfl, pd, _, rfl, .inl (.inl (.inl tl2.1)), rfl, false, ne_same (by rw [List.length_map, lenC]), iteF ?_⟩
    refine ⟨_, rfl, _, rfl, u, t, rfl, hu, ht, by omega, by omega, fun H3 e3 => ?_⟩
    have tl3 := tl2.ex e3
    refine ⟨_, rfl, pd, _, rfl, .inl (.inl (.inl tl3.1)), rfl, false, ne_same (by rw [List.length_map, lenC]), iteF ?_⟩
    -- each reading at its number
    have at_k : ∀ k, k < L.length → ∃ e p, L[k]? = some e ∧ (rds t 0 u)[k]? = some p ∧ e.2 = nts p := by
      intro k hk
      have h1 : L[k]? = some L[k] := List.getElem?_eq_getElem hk
      have hk2 : k < (rds t 0 u).length := by omega
      have h2 : (rds t 0 u)[k]? = some (rds t 0 u)[k] := List.getElem?_eq_getElem hk2
      refine ⟨_, _, h1, h2, ?_⟩
      have := congrArg (fun l => l[k]?) tl.2.2
      simp only [List.getElem?_map, h1, h2] at this
      exact Option.some.inj this
    refine ⟨_, rfl, pd, _, rfl, .inl (.inl (.inl tl3.1)), _, rfl, by rw [List.length_map]; omega, by rw [List.length_map]; omega, fun D nD => ?_⟩
    rw [List.length_map, Int.toNat_natCast]
    refine lc_range (lo := 0) (n := L.length) (fun k H' => Ex H3 H' ∧ H' D = some (.lst [])) ⟨Ex.new nD, upd_same⟩ (fun k H' hk hp => ?_) (fun H' hp => ?_)
    · obtain ⟨a1, a2⟩ := hp
      have e0 : (0 : Int) + (k : Nat) = (k : Nat) := Int.zero_add _
      rw [e0]
      obtain ⟨e, p, q1, q2, q3⟩ := at_k k hk
      obtain ⟨r1, r2, r3, r4⟩ := rds_at q2
      refine ⟨rfl, ?_⟩
      refine ⟨_, rfl, _, rfl, _, rfl, u, t, k, rfl, hu, ht, by omega, by omega, r1, fun H5 b e5 nb hb => ?_⟩
      have tl5 := tl3.ex (a1.trans e5)
      rw [r2, plc_nts, ← q3] at hb
      refine ⟨_, rfl, _, rfl, pd, _, _, .ref e.1, rfl, rfl, .inl (.inl tl5.1), atI_nat (by rw [List.getElem?_map, q1]; rfl), uI e.2, uI e.2, dp_uints hb, dp_uints (tl5.2.1 e (List.mem_of_getElem? q1)), sh_uints _, sh_uints _, false, ne_self (sh_uints _), iteF ?_⟩
      exact ⟨a1.trans e5, e5 _ _ a2⟩
    obtain ⟨a1, a2⟩ := hp
    have a2' : H' D = some (.lst (([] : List Int).map V.int)) := a2
    refine ⟨by show 0 ≤ sizeLine; decide, fun p6 n6 => ?_⟩
    have e6 := Ex.new n6 (o := .lst [])
    have h6 : upd H' p6 (.lst []) p6 = some (.lst (([] : List Int).map V.int)) := upd_same
    refine ⟨dI [], dI [], dp_ints (e6 _ _ a2'), dp_ints h6, sh_ints [], sh_ints [], false, ne_self (sh_ints []), iteF ?_⟩
    have x6 := (e1.trans (e2.trans e3)).trans (a1.trans e6)
    have tl6 := tl3.ex (a1.trans e6)
    clear a2 a2' h6 nD n6
    generalize upd H' p6 (.lst []) = H6 at x6 tl6 ⊢
    clear e6 a1
    -- each number of its reading
    refine ⟨_, rfl, pd, _, rfl, .inl (.inl (.inl tl6.1)), _, rfl, by rw [List.length_map]; omega, by rw [List.length_map]; omega, fun D nD => ?_⟩
    rw [List.length_map, Int.toNat_natCast]
    refine lc_range (lo := 0) (n := L.length) (fun k H' => Ex H6 H' ∧ H' D = some (.lst [])) ⟨Ex.new nD, upd_same⟩ (fun k H' hk hp => ?_) (fun H' hp => ?_)
    · obtain ⟨a1, a2⟩ := hp
      have e0 : (0 : Int) + (k : Nat) = (k : Nat) := Int.zero_add _
      rw [e0]
      obtain ⟨e, p, q1, q2, q3⟩ := at_k k hk
      obtain ⟨r1, r2, r3, r4⟩ := rds_at q2
      have tl5 := tl6.ex a1
      have hp' : H' e.1 = some (.tup (plc p)) := by rw [plc_nts, ← q3]; exact tl5.2.1 e (List.mem_of_getElem? q1)
      refine ⟨rfl, ?_⟩
      refine ⟨_, rfl, _, rfl, _, rfl, _, rfl, pd, _, _, .ref e.1, rfl, rfl, .inl (.inl tl5.1), atI_nat (by rw [List.getElem?_map, q1]; rfl), u, t, p, e.1, rfl, hu, ht, by omega, by omega, hp', r4, fun H5 e5 => ?_⟩
      refine ⟨_, rfl, rfl, false, ne_same (by rw [r3]), iteF ?_⟩
      exact ⟨a1.trans e5, e5 _ _ a2⟩
    obtain ⟨a1, a2⟩ := hp
    have a2' : H' D = some (.lst (([] : List Int).map V.int)) := a2
    refine ⟨by show 0 ≤ sizeLine; decide, fun p6 n6 => ?_⟩
    have e6 := Ex.new n6 (o := .lst [])
    have h6 : upd H' p6 (.lst []) p6 = some (.lst (([] : List Int).map V.int)) := upd_same
    refine ⟨dI [], dI [], dp_ints (e6 _ _ a2'), dp_ints h6, sh_ints [], sh_ints [], false, ne_self (sh_ints []), iteF ?_⟩
    have x7 := x6.trans (a1.trans e6)
    have tl7 := tl6.ex (a1.trans e6)
    clear a2 a2' h6 nD n6
    generalize upd H' p6 (.lst []) = H7 at x7 tl7 ⊢
    clear e6 a1
    -- the first
    refine ⟨_, rfl, by show 0 ≤ sizeLine; decide, fun p6 n6 => ?_⟩
    have e8 := Ex.new n6 (o := .lst [])
    have h8 : upd H7 p6 (.lst []) p6 = some (.lst (([] : List (Addr × List Int)).map fun e => V.ref e.1)) := upd_same
    have x8 := x7.trans e8
    have tl8 := tl7.ex e8
    clear n6
    generalize upd H7 p6 (.lst []) = H8 at h8 x8 tl8 ⊢
    refine ⟨tD L, tD [], dp_tD tl8.1 tl8.2.1, dp_tD h8 (by simp), sh_tD _, sh_tD _, _, rfl, ?_⟩
    rw [ne_nilD]
    apply cut_rest (H8 := H8)
    case use =>
      intro rest
      by_cases hL : L = []
      · rw [decide_eq_false (fun z => z hL)]
        exact iteF (iteF (rest H8 (Ex.refl H8)))
      · rw [decide_eq_true hL]
        refine iteT ?_
        obtain ⟨e, p, q1, q2, q3⟩ := at_k 0 (List.length_pos_iff.mpr hL)
        obtain ⟨r1, r2, r3, r4⟩ := rds_at q2
        have hp' : H8 e.1 = some (.tup (plc p)) := by rw [plc_nts, ← q3]; exact tl8.2.1 e (List.mem_of_getElem? q1)
        refine ⟨_, rfl, pd, _, 0, .ref e.1, rfl, rfl, .inl (.inl tl8.1), atI_nat (j := 0) (by rw [List.getElem?_map, q1]; rfl), _, rfl, _, rfl, u, t, p, e.1, rfl, hu, ht, by omega, by omega, hp', r4, fun H5 e5 => ?_⟩
        exact ⟨rfl, false, ne_same (by rw [r3]; rfl), iteF (rest H5 e5)⟩
    intro H9 e9
    have x9 := x8.trans e9
    have tl9 := tl8.ex e9
    clear h8
    -- all are told to be readings
    refine ⟨_, rfl, pd, rfl, ⟨_, .inl (.inl tl9.1)⟩, fun D nD => ?_⟩
    refine lc_list (xs := L.map fun e => V.ref e.1) (fun k H' => Ex H9 H' ∧ H' D = some (.lst [])) ⟨Ex.new nD, upd_same⟩ (fun j H' _ hp => .inl (.inl (hp.1 _ _ tl9.1))) (fun k x H' hx hp => ?_) (fun H' hp => ?_)
    · obtain ⟨a1, a2⟩ := hp
      rw [List.getElem?_map] at hx
      cases hLk : L[k]? with
      | none => rw [hLk] at hx; cases hx
      | some e =>
      rw [hLk] at hx
      obtain rfl : V.ref e.1 = x := Option.some.inj hx
      have hk := (List.getElem?_eq_some_iff.mp hLk).1
      obtain ⟨e', p, q1, q2, q3⟩ := at_k k hk
      obtain rfl : e = e' := Option.some.inj (hLk.symm.trans q1)
      obtain ⟨r1, r2, r3, r4⟩ := rds_at q2
      have tl5 := tl9.ex a1
      have dd : Dp K H' (.ref e.1) (uI e.2) := dp_uints (tl5.2.1 e (List.mem_of_getElem? q1))
      have yes : true = isRd u t (uI e.2) := by
        show true = rdk t 0 u _
        rw [(rdk_iff t u 0 _).mpr ⟨p, by rw [q3], r4⟩]
      refine ⟨rfl, ?_⟩
      refine ⟨_, rfl, _, rfl, _, rfl, u, t, .ref e.1, true, hu, ht, rfl, by omega, by omega, .inl ⟨_, dd, yes⟩, fun H5 e5 => ?_⟩
      refine ⟨_, _, rfl, rfl, _, rfl, iteF ?_⟩
      exact ⟨a1.trans e5, e5 _ _ a2⟩
    obtain ⟨a1, a2⟩ := hp
    have a2' : H' D = some (.lst (([] : List Int).map V.int)) := a2
    refine ⟨by show 0 ≤ sizeLine; decide, fun p6 n6 => ?_⟩
    have e6 := Ex.new n6 (o := .lst [])
    have h6 : upd H' p6 (.lst []) p6 = some (.lst (([] : List Int).map V.int)) := upd_same
    refine ⟨dI [], dI [], dp_ints (e6 _ _ a2'), dp_ints h6, sh_ints [], sh_ints [], false, ne_self (sh_ints []), iteF ?_⟩
    have x10 := x9.trans (a1.trans e6)
    have tl10 := tl9.ex (a1.trans e6)
    clear a2 a2' h6 nD n6
    generalize upd H' p6 (.lst []) = H10 at x10 tl10 ⊢
    clear e6 a1
    -- some reading, or the first places
    dsimp only [tNext]
    refine asg_by (fun v H' => ∃ sa p, v = .ref sa ∧ H' sa = some (.tup ((nts p).map V.int)) ∧ p.length ≤ 12 ∧ (∀ q ∈ p, q < 2 ^ 30) ∧ Xg g H10 H' ∧ Gen H' g (n + 10) ∧ TupL H' pd L (rds t 0 u)) (fun Q' q' => ?_) (fun v H' hv => ?_)
    · refine ⟨_, rfl, by show 0 ≤ sizeLine; decide, fun p6 n6 => ?_⟩
      have e8 := Ex.new n6 (o := .lst [])
      have h8 : upd H10 p6 (.lst []) p6 = some (.lst (([] : List (Addr × List Int)).map fun e => V.ref e.1)) := upd_same
      have tl8 := tl10.ex e8
      have gn8 := gn.ex (x10.trans e8)
      have e8' := e8
      clear n6
      generalize upd H10 p6 (.lst []) = H8 at h8 tl8 gn8 e8 ⊢
      refine ⟨tD L, tD [], dp_tD tl8.1 tl8.2.1, dp_tD h8 (by simp), sh_tD _, sh_tD _, _, rfl, ?_⟩
      rw [ne_nilD]
      by_cases hL : L = []
      · rw [decide_eq_false (fun z => z hL)]
        refine iteF ⟨_, rfl, mk u, rfl, by rw [mk_len]; exact sz_of (by omega), _, rfl, by rw [mk_len]; exact RgOk.of_le (by omega) (by omega) (by omega) (by omega), fun sa nsa => ?_⟩
        rw [mk_len, rg_nts]
        refine q' _ _ ⟨sa, List.range u.length, rfl, upd_same, by rw [List.length_range]; omega, fun q hq => ?_, Xg.of (e8.trans (Ex.new nsa)), (gn8.ex (Ex.new nsa)).up (by omega), tl8.ex (Ex.new nsa)⟩
        have := List.mem_range.mp hq
        omega
      · rw [decide_eq_true hL]
        have hpos := List.length_pos_iff.mpr hL
        refine iteT ⟨_, rfl, _, rfl, _, rfl, pd, _, rfl, .inl (.inl (.inl tl8.1)), ?_⟩
        refine ⟨g, _, n, rfl, by rw [List.length_map]; omega, by rw [List.length_map]; exact Int.lt_of_lt_of_le (by omega : ((L.length : Nat) : Int) < 30000) (by decide), gn8, by omega, fun r H5 r0 r1 x5 g5 => ?_⟩
        rw [List.length_map] at r1
        obtain ⟨k, rfl⟩ := Int.eq_ofNat_of_zero_le r0
        have hk : k < L.length := by omega
        obtain ⟨e, p, q1, q2, q3⟩ := at_k k hk
        obtain ⟨r1', r2, r3, r4⟩ := rds_at q2
        have tl5 := tl8.xg x5 gn8 (gn.ne m1).symm
        refine ⟨pd, _, _, .ref e.1, rfl, rfl, .inl (.inl tl5.1), atI_nat (by rw [List.getElem?_map, q1]; rfl), ?_⟩
        refine q' _ _ ⟨e.1, p, rfl, by rw [← q3]; exact tl5.2.1 e (List.mem_of_getElem? q1), by rw [isr_len r4]; omega, fun q hq => ?_, (Xg.of e8).trans x5, g5, tl5⟩
        obtain ⟨i, hi⟩ := List.mem_iff_getElem?.mp hq
        have := (isr_at r4 hi).2.1
        omega
    · obtain ⟨sa, p, rfl, hsa, lp, sp, xg, g11, tl11⟩ := hv
      have x11 := (Xg.of (g := g) x10).trans xg
      -- the bent ones
      refine ⟨_, rfl, _, rfl, _, rfl, mk t, rfl, by rw [mk_len]; exact sz_of (by omega), .ref g, sa, p, t.length, by rw [mk_len]; rfl, hsa, by omega, sp, fun H12 z ys e12 nz hz lz oz => ?_⟩
      have tl12 := tl11.ex e12
      refine ⟨z, rfl, ⟨_, .inl (.inl hz)⟩, ?_⟩
      refine for_list (xs := ys) (fun j σ' H' => ∃ y4 y5 y7 y8, σ' = [some (.ref g), some (tx u), some (tx t), some (.ref pd), y4, y5, some (.ref sa), y7, y8] ∧ Ex H12 H') ⟨_, _, _, _, rfl, Ex.refl H12⟩ (fun j σ' H' _ ⟨_, _, _, _, _, e⟩ => .inl (.inl (e _ _ hz))) (fun j y σ' H' hy hp => ?_) (fun σ' H' hp => ?_)
      · obtain ⟨y4, y5, y7, y8, rfl, a1⟩ := hp
        have oy := (oz y (List.mem_of_getElem? hy)).ex a1
        have tl13 := tl12.ex a1
        -- which of the readings it is
        obtain ⟨M, b, hM, hb, hob⟩ : ∃ (M : List Int → Prop) (b : Bool), (∀ H5 : Hp, Ex H' H5 → ∀ e ∈ L, ∀ Qb : Bool → Prop, (∀ c : Bool, (c = true ↔ M e.2) → Qb c) → (∃ d, Dp K H5 y d ∧ SeqAt.shaped d = true ∧ ∀ c : Bool, (c = true ↔ d = uI e.2) → Qb c) ∨ ∃ a' kvs, y = .ref a' ∧ H5 a' = some (.dK kvs) ∧ Qb false) ∧ (b = true ↔ ∃ e ∈ L, M e.2) ∧ ∀ H5 : Hp, Ex H' H5 → Ob K H5 u t y b := by
          rcases oy with oy | ⟨a', kvs, rfl, ha⟩
          · obtain ⟨d, hd, sh⟩ := oy.shaped (by decide)
            refine ⟨fun ns => d = uI ns, isRd u t d, fun H5 e5 e he Qb qb => .inl ⟨d, dp_ex e5 hd, sh, qb⟩, ?_, fun H5 e5 => .inl ⟨d, dp_ex e5 hd, rfl⟩⟩
            constructor
            · intro h
              cases d with
              | tuple ds =>
                obtain ⟨l, h1, h2⟩ := (rdk_iff t u 0 ds).mp h
                obtain ⟨k, hk⟩ := List.mem_iff_getElem?.mp ((rds_isr t u 0 l).mpr h2)
                have hkL : k < L.length := by
                  have := (List.getElem?_eq_some_iff.mp hk).1
                  omega
                obtain ⟨e, p', q1, q2, q3⟩ := at_k k hkL
                obtain rfl : l = p' := Option.some.inj (hk.symm.trans q2)
                exact ⟨e, List.mem_of_getElem? q1, by rw [q3, h1]⟩
              | none => cases h
              | bool _ => cases h
              | int _ => cases h
              | str _ => cases h
              | list _ => cases h
              | dict _ => cases h
            · rintro ⟨e, he, rfl⟩
              obtain ⟨k, hk⟩ := List.mem_iff_getElem?.mp he
              obtain ⟨e', p', q1, q2, q3⟩ := at_k k (List.getElem?_eq_some_iff.mp hk).1
              obtain rfl : e = e' := Option.some.inj (hk.symm.trans q1)
              exact (rdk_iff t u 0 _).mpr ⟨p', by rw [q3], (rds_at q2).2.2.2⟩
          · refine ⟨fun _ => False, false, fun H5 e5 e he Qb qb => .inr ⟨a', kvs, rfl, e5 _ _ ha, qb false (by simp)⟩, by simp, fun H5 e5 => .inr ⟨a', kvs, rfl, e5 _ _ ha, rfl⟩⟩
        refine ⟨_, rfl, pd, rfl, ⟨_, .inl (.inl tl13.1)⟩, fun D nD => ?_⟩
        refine lc_list (xs := L.map fun e => V.ref e.1) (fun k H5 => ∃ L' : List (Addr × List Int), Ex H' H5 ∧ H5 D = some (.lst (L'.map fun e => V.ref e.1)) ∧ (∀ e ∈ L', e ∈ L) ∧ L'.length ≤ k ∧ (L' = [] ↔ ∀ e ∈ L.take k, ¬ M e.2)) ⟨[], Ex.new nD, upd_same, by simp, Nat.le_refl _, by simp⟩ (fun j H5 _ ⟨_, hp, _⟩ => .inl (.inl (hp _ _ tl13.1))) (fun k x H5 hx hp => ?_) (fun H5 hp => ?_)
        · obtain ⟨L', b1, b2, b3, b4, b5⟩ := hp
          rw [List.getElem?_map] at hx
          cases hLk : L[k]? with
          | none => rw [hLk] at hx; cases hx
          | some e =>
          rw [hLk] at hx
          obtain rfl : V.ref e.1 = x := Option.some.inj hx
          have hk := (List.getElem?_eq_some_iff.mp hLk).1
          have he := List.mem_of_getElem? hLk
          obtain ⟨e', p', q1, q2, q3⟩ := at_k k hk
          obtain rfl : e = e' := Option.some.inj (hLk.symm.trans q1)
          obtain ⟨r1, r2, r3, r4⟩ := rds_at q2
          have etk : L.take (k + 1) = L.take k ++ [e] := by rw [List.take_add_one, hLk]; rfl
          refine ⟨rfl, ?_⟩
          refine ⟨_, rfl, _, rfl, e.1, p', y, rfl, by rw [← q3]; exact b1 _ _ (tl13.2.1 e he), by rw [isr_len r4]; omega, fun q hq => ?_, ?_⟩
          · obtain ⟨i, hi⟩ := List.mem_iff_getElem?.mp hq
            have := (isr_at r4 hi).2.1
            omega
          · rw [← q3]
            refine hM H5 b1 e he _ fun c hc => ⟨c, rfl, ?_⟩
            rw [etk]
            cases c with
            | true =>
              have hMe := hc.mp rfl
              refine iteT ⟨_, rfl, _, b2, by rw [List.length_map]; exact sz_lt (by omega), L' ++ [e], Ex.mut b1 nD, by rw [upd_same, List.map_append]; rfl, all_app b3 (all_one he), by rw [List.length_append]; show _ + 1 ≤ _; omega, ?_⟩
              constructor
              · intro h
                simp at h
              · intro h
                exact absurd hMe (h e (List.mem_append_right _ (List.mem_singleton.mpr rfl)))
            | false =>
              have hMe : ¬ M e.2 := fun z => Bool.noConfusion (hc.mpr z)
              refine iteF ⟨L', b1, b2, b3, by omega, ?_⟩
              rw [b5]
              constructor
              · intro h
                exact all_app h (all_one hMe)
              · intro h x hx
                exact h x (List.mem_append_left _ hx)
        · obtain ⟨L', b1, b2, b3, b4, b5⟩ := hp
          rw [List.length_map, List.take_of_length_le (Nat.le_refl _)] at b5
          have eb : decide (L' ≠ []) = b := by
            cases hbb : b with
            | true =>
              obtain ⟨e, he, hMe⟩ := hb.mp hbb
              exact decide_eq_true fun z => b5.mp z e he hMe
            | false =>
              refine decide_eq_false fun z => z (b5.mpr fun e he hMe => ?_)
              have := hb.mpr ⟨e, he, hMe⟩
              rw [hbb] at this
              cases this
          refine ⟨by show 0 ≤ sizeLine; decide, fun p6 n6 => ?_⟩
          have e6 := Ex.new n6 (o := .lst [])
          have h6 : upd H5 p6 (.lst []) p6 = some (.lst (([] : List (Addr × List Int)).map fun e => V.ref e.1)) := upd_same
          have b2' := e6 _ _ b2
          have tl14 := tl13.ex (b1.trans e6)
          have x14 := b1.trans e6
          clear n6 e6
          generalize upd H5 p6 (.lst []) = H6 at h6 b2' tl14 x14 ⊢
          refine ⟨tD L', tD [], dp_tD b2' (fun e he => tl14.2.1 e (b3 e he)), dp_tD h6 (by simp), sh_tD _, sh_tD _, ?_⟩
          rw [ne_nilD, eb]
          refine ⟨_, rfl, _, rfl, _, rfl, u, t, y, b, hu, ht, rfl, by omega, by omega, hob H6 x14, fun H15 e15 => ?_⟩
          refine ⟨_, rfl, b, rfl, true, rfl, iteF ?_⟩
          exact ⟨_, _, _, _, rfl, a1.trans (x14.trans e15)⟩
      · obtain ⟨y4, y5, y7, y8, rfl, a1⟩ := hp
        exact q _ (x11.ex (e12.trans a1)) (g11.ex (e12.trans a1))
end
end K01
set_option Elab.async false
set_option linter.all false
set_option maxRecDepth 100000
set_option maxHeartbeats 16000000
namespace K01
open PySem PySem.Spec PyProof.Rows L2 Evl Bx
open Nx Rx Dx Ty
section
variable {P : Program} {w : World} {K : PySem.W.Frag} {mg : Str → Option Value} {base : Heap}
def sp_right (K : PySem.W.Frag) : Sp := fun vs H Q _ => ∃ (g : Addr) (n : Nat), vs = [.ref g] ∧ Gen H g n ∧ n ≤ 2 ^ 20 ∧ ∀ H', Xg g H H' → Gen H' g (n + 10000) → Q (.bl true) H'
theorem ok__law_right (T : Tx K mg) : Gx.FnG P w K mg base CX0 5 T.a__law_right T.fd__law_right ["_law_generator_here"] (sp_right K) := by
  refine Gx.okG T.F__law_right sc__law_right (fun vs H Q E h => ?_) (fun cdv A outer s H vs Q E gA hr h => ?_)
  · obtain ⟨_, _, rfl, _⟩ := h
    rfl
  · obtain ⟨g, n, rfl, gn, n1, q⟩ := h
    refine ⟨_, (pss_cons (ps_set (i := 1) sc__law_right.nd rfl (by first | exact Or.inl rfl | exact Or.inr rfl) (pe_call (ok__law_alphabet T) (hr.mono (by decide)) (by rfl) T.g__law_alphabet T.F__law_alphabet.kp (b__law_alphabet T) .nil pass0 (pa_cons (pv 0) (pa_cons pe_int pa_nil)))) (pss_cons (ps_setLc (i := 2) (own := [("_law_turn", 3)]) (g := (gName 3)) (tt := tYes) (by rfl) sc__law_right.nd rfl rfl (sw_true rfl rfl rfl (by decide +kernel)) (pi_range1 (by rfl) T.n_range (pa_cons pe_int pa_nil)) (blkOk_by (own := [("_law_turn", 3)]) (N := N__law_right) (sc := defScope s__law_right) (by decide +kernel)) (fun _ _ _ _ _ => (pg_name (i := 3) sc__law_right.nd rfl (by first | exact Or.inl rfl | exact Or.inr rfl))) (fun _ _ _ _ _ => pts_nil) (fun _ _ _ _ _ => (pe_call (ok__law_text T) (hr.mono (by decide)) (by rfl) T.g__law_text T.F__law_text.kp (b__law_text T) .nil pass0 (pa_cons (pv 0) (pa_cons (pv 1) (pa_cons (pe_call (ok__law_random T) (hr.mono (by decide)) (by rfl) T.g__law_random T.F__law_random.kp (b__law_random T) .nil pass0 (pa_cons (pv 0) (pa_cons pe_int pa_nil))) pa_nil)))))) (pss_cons (ps_set (i := 4) sc__law_right.nd rfl (by first | exact Or.inl rfl | exact Or.inr rfl) (pe_op op_cat (pe_lc (own := [("_law_turn", 3)]) (g := (gName 3)) (tt := tYes) rfl sc__law_right.nd (pi_range1 (by rfl) T.n_range (pa_cons pe_int pa_nil)) (blkOk_by (own := [("_law_turn", 3)]) (N := N__law_right) (sc := defScope s__law_right) (by decide +kernel)) (fun _ _ _ _ _ => (pg_name (i := 3) sc__law_right.nd rfl (by first | exact Or.inl rfl | exact Or.inr rfl))) (fun _ _ _ _ _ => pts_nil) (fun _ _ _ _ _ => (pe_call (ok__law_text T) (hr.mono (by decide)) (by rfl) T.g__law_text T.F__law_text.kp (b__law_text T) .nil pass0 (pa_cons (pv 0) (pa_cons (pv 1) (pa_cons (pe_call (ok__law_random T) (hr.mono (by decide)) (by rfl) T.g__law_random T.F__law_random.kp (b__law_random T) .nil pass0 (pa_cons (pv 0) (pa_cons pe_int pa_nil))) pa_nil)))))) (pe_lst (pa_cons pe_str (pa_cons (pe_op op_add_str (pe_slice sl_str (pv 1) po_none (po_some pe_int)) pe_str) pa_nil))))) (pss_cons (ps_for PassesOwn.never rfl (pi_range1 (by rfl) T.n_range (pa_cons pe_int pa_nil)) (pg_name (i := 3) sc__law_right.nd rfl (by first | exact Or.inl rfl | exact Or.inr rfl)) (pss_one (ps_for PassesOwn.never rfl (pi_list (pv 4)) (pg_name (i := 5) sc__law_right.nd rfl (by first | exact Or.inl rfl | exact Or.inr rfl)) (pss_one (ps_for PassesOwn.never rfl (pi_list (pv 2)) (pg_name (i := 6) sc__law_right.nd rfl (by first | exact Or.inl rfl | exact Or.inr rfl)) (pss_one (ps_if (pt_not (pt_val (Gx.pe_callG (ok__law_pair_right T) (hr.mono (by decide)) gA (by rfl) T.g__law_pair_right T.F__law_pair_right.kp (b__law_pair_right T) .nil pass0 (pa_cons (pv 0) (pa_cons (pv 5) (pa_cons (pv 6) pa_nil)))))) (pss_one (ps_ret pe_bl)) pss_nil))))))) (pss_one (ps_ret pe_bl)))))), ?_⟩
    refine ⟨_, rfl, g, 1, n, rfl, by decide, by decide, gn, by omega, fun L H1 aL l1 x1 g1 => ?_⟩
    have l4 := aL.four
    -- the texts
    refine ⟨2, rfl, by decide, by decide, fun D nD => ?_⟩
    have gD : g ≠ D := g1.ne nD
    refine lc_range (lo := 0) (n := 2) (fun i H2 => ∃ ts : List (List Nat), ts.length = i ∧ (∀ t ∈ ts, Low t ∧ t.length ≤ 12) ∧ Xg g H1 H2 ∧ Gen H2 g (n + 60 + 200 * i) ∧ H2 D = some (.lst (ts.map tx))) ⟨[], rfl, by simp, Xg.of (Ex.new nD), g1.oth gD, upd_same⟩ (fun i H2 hi hp => ?_) (fun H2 hp => ?_)
    · obtain ⟨ts, tl, tm, xg, g2, hD⟩ := hp
      refine ⟨rfl, ?_⟩
      refine ⟨_, rfl, _, rfl, _, rfl, g, 10, _, rfl, by decide, by decide, g2, by omega, fun r H3 r0 r1 x3 g3 => ?_⟩
      obtain ⟨m, rfl⟩ := Int.eq_ofNat_of_zero_le r0
      refine ⟨g, L, m, _, rfl, l1, by omega, by omega, g3, by omega, fun t H4 lt ct x4 g4 => ?_⟩
      have hD4 := x4 D _ gD.symm (x3 D _ gD.symm hD)
      refine ⟨_, hD4, by rw [List.length_map, tl]; exact sz_lt (by omega), ts ++ [t], by rw [List.length_append, tl]; rfl, all_app tm (all_one ⟨fun c hc => aL.low c (ct c hc), by omega⟩), ((xg.trans x3).trans x4).mut nD, (g4.up (by omega)).oth gD, ?_⟩
      · rw [upd_same, List.map_append]
        rfl
    obtain ⟨ts, tl, tm, xg, g2, hD⟩ := hp
    -- the words
    refine ⟨2, rfl, by decide, by decide, fun D2 nD2 => ?_⟩
    have gD2 : g ≠ D2 := g2.ne nD2
    refine lc_range (lo := 0) (n := 2) (fun i H3 => ∃ ws : List (List Nat), ws.length = i ∧ (∀ t ∈ ws, Low t ∧ t.length ≤ 4) ∧ Xg g H2 H3 ∧ Gen H3 g (n + 1000 + 200 * i) ∧ H3 D2 = some (.lst (ws.map tx))) ⟨[], rfl, by simp, Xg.of (Ex.new nD2), (g2.up (by omega)).oth gD2, upd_same⟩ (fun i H3 hi hp => ?_) (fun H3 hp => ?_)
    · obtain ⟨ws, wl, wm, xg3, g3, hW⟩ := hp
      refine ⟨rfl, ?_⟩
      refine ⟨_, rfl, _, rfl, _, rfl, g, 5, _, rfl, by decide, by decide, g3, by omega, fun r H4 r0 r1 x4 g4 => ?_⟩
      obtain ⟨m, rfl⟩ := Int.eq_ofNat_of_zero_le r0
      refine ⟨g, L, m, _, rfl, l1, by omega, by omega, g4, by omega, fun t H5 lt ct x5 g5 => ?_⟩
      have hW5 := x5 D2 _ gD2.symm (x4 D2 _ gD2.symm hW)
      refine ⟨_, hW5, by rw [List.length_map, wl]; exact sz_lt (by omega), ws ++ [t], by rw [List.length_append, wl]; rfl, all_app wm (all_one ⟨fun c hc => aL.low c (ct c hc), by omega⟩), ((xg3.trans x4).trans x5).mut nD2, (g5.up (by omega)).oth gD2, ?_⟩
      rw [upd_same, List.map_append]
      rfl
    obtain ⟨ws, wl, wm, xg3, g3, hW⟩ := hp
    have hD3 := xg3 D _ gD.symm hD
    refine ⟨_, rfl, 1, rfl, mk L, rfl, by rw [mk_len]; exact sz_of (by omega), ?_⟩
    have ec : cutS (mk L) none (some 1) = mk (L.take 1) := cut_to L 1
    rw [ec]
    refine ⟨mk (L.take 1), mk [122], rfl, by rfl, by rw [mk_len, mk_len, List.length_take]; exact sz_of (by show _ + 1 ≤ _; omega), ?_⟩
    rw [mk_app]
    refine ⟨by show 2 ≤ sizeLine; decide, fun p4 n4 => ?_⟩
    have e4 := Ex.new n4 (o := .lst [V.str (Str.ofString ""), V.str (mk (L.take 1 ++ [122]))])
    have h4 := upd_same (H := H3) (a := p4) (o := .lst [V.str (Str.ofString ""), V.str (mk (L.take 1 ++ [122]))])
    have hW4 := e4 _ _ hW
    refine ⟨D2, p4, _, _, rfl, rfl, hW4, h4, by rw [List.length_map, wl]; show 2 + 2 ≤ _; decide, fun p5 n5 => ?_⟩
    have e5 := Ex.new n5 (o := .lst (ws.map tx ++ [V.str (Str.ofString ""), V.str (mk (L.take 1 ++ [122]))]))
    have h5 : upd (upd H3 p4 (.lst [V.str (Str.ofString ""), V.str (mk (L.take 1 ++ [122]))])) p5 (.lst (ws.map tx ++ [V.str (Str.ofString ""), V.str (mk (L.take 1 ++ [122]))])) p5 = some (.lst ((ws ++ [[], L.take 1 ++ [122]]).map tx)) := by
      rw [upd_same, List.map_append]
      rfl
    have wm' : ∀ t ∈ ws ++ [[], L.take 1 ++ [122]], Low t ∧ t.length ≤ 4 := all_app wm fun t ht => by
      simp only [List.mem_cons, List.not_mem_nil, or_false] at ht
      rcases ht with rfl | rfl
      · exact ⟨Low.nil, by decide⟩
      · refine ⟨Low.app (fun c hc => aL.low c (List.mem_of_mem_take hc)) fun c hc => by rw [List.mem_singleton.mp hc]; decide, ?_⟩
        rw [List.length_append, List.length_take]
        show _ + 1 ≤ 4
        omega
    have wl' : (ws ++ [[], L.take 1 ++ [122]]).length = 4 := by rw [List.length_append, wl]; rfl
    have xa := xg3.ex (e4.trans e5)
    have ga := g3.ex (e4.trans e5)
    have hDa := (e4.trans e5) _ _ hD3
    have np5 : p5 ≠ g := fun z => by
      have := (g3.ex e4).ne n5
      exact this z.symm
    generalize upd (upd H3 p4 (.lst [V.str (Str.ofString ""), V.str (mk (L.take 1 ++ [122]))])) p5 (.lst (ws.map tx ++ [V.str (Str.ofString ""), V.str (mk (L.take 1 ++ [122]))])) = Ha at h5 xa ga hDa ⊢
    generalize ws ++ [[], L.take 1 ++ [122]] = vs at h5 wm' wl'
    clear e4 e5 h4 hW4
    refine ⟨2, rfl, by decide, by decide, for_range (lo := 0) (n := 2) (fun i σ' H' => ∃ y3 y5 y6, σ' = [some (.ref g), some (tx L), some (.ref D), y3, some (.ref p5), y5, y6] ∧ Xg g Ha H' ∧ Gen H' g (n + 1400 + 100 * i)) ⟨_, _, _, rfl, Xg.refl g Ha, ga⟩ (fun i σ' H' hi hp => ?_) (fun σ' H' hp => ?_)⟩
    · obtain ⟨y3, y5, y6, rfl, a1, a2⟩ := hp
      refine ⟨_, rfl, p5, rfl, ⟨_, .inl (.inl (a1 _ _ np5 h5))⟩, ?_⟩
      refine for_list (xs := vs.map tx) (fun j σ2 H2' => ∃ y5 y6, σ2 = [some (.ref g), some (tx L), some (.ref D), some (.int (0 + (i : Nat))), some (.ref p5), y5, y6] ∧ Xg g Ha H2' ∧ Gen H2' g (n + 1400 + 100 * i + 20 * j)) ⟨_, _, rfl, a1, a2⟩ (fun j σ2 H2' _ ⟨_, _, _, e, _⟩ => .inl (.inl (e _ _ np5 h5))) (fun j x σ2 H2' hx hp => ?_) (fun σ2 H2' hp => ?_)
      · obtain ⟨y5, y6, rfl, b1, b2⟩ := hp
        rw [List.getElem?_map] at hx
        cases hV : vs[j]? with
        | none => rw [hV] at hx; cases hx
        | some u =>
        rw [hV] at hx
        obtain rfl : tx u = x := Option.some.inj hx
        have hj : j < 4 := by rw [← wl']; exact (List.getElem?_eq_some_iff.mp hV).1
        obtain ⟨lu, su⟩ := wm' u (List.mem_of_getElem? hV)
        refine ⟨_, rfl, D, rfl, ⟨_, .inl (.inl (b1 _ _ gD.symm hDa))⟩, ?_⟩
        refine for_list (xs := ts.map tx) (fun k σ3 H3' => ∃ y6, σ3 = [some (.ref g), some (tx L), some (.ref D), some (.int (0 + (i : Nat))), some (.ref p5), some (tx u), y6] ∧ Xg g Ha H3' ∧ Gen H3' g (n + 1400 + 100 * i + 20 * j + 10 * k)) ⟨_, rfl, b1, b2⟩ (fun k σ3 H3' _ ⟨_, _, e, _⟩ => .inl (.inl (e _ _ gD.symm hDa))) (fun k x σ3 H3' hx hp => ?_) (fun σ3 H3' hp => ?_)
        · obtain ⟨y6, rfl, c1, c2⟩ := hp
          rw [List.getElem?_map] at hx
          cases hT : ts[k]? with
          | none => rw [hT] at hx; cases hx
          | some t =>
          rw [hT] at hx
          obtain rfl : tx t = x := Option.some.inj hx
          have hk : k < 2 := by rw [← tl]; exact (List.getElem?_eq_some_iff.mp hT).1
          obtain ⟨lt, st⟩ := tm t (List.mem_of_getElem? hT)
          refine ⟨_, rfl, _, rfl, _, rfl, g, u, t, _, rfl, lu, lt, su, st, c2, by omega, fun H5 x5 g5 => ⟨true, rfl, iteF ?_⟩⟩
          exact ⟨_, rfl, c1.trans x5, g5.up (by omega)⟩
        · obtain ⟨y6, rfl, c1, c2⟩ := hp
          rw [List.length_map, tl] at c2
          exact ⟨_, _, rfl, c1, c2.up (by omega)⟩
      · obtain ⟨y5, y6, rfl, b1, b2⟩ := hp
        rw [List.length_map, wl'] at b2
        exact ⟨_, _, _, rfl, b1, b2.up (by omega)⟩
    · obtain ⟨y3, y5, y6, rfl, a1, a2⟩ := hp
      exact q _ (x1.trans (xg.trans (xa.trans a1))) (a2.up (by omega))
end
end K01
set_option Elab.async false
set_option linter.all false
set_option maxRecDepth 100000
set_option maxHeartbeats 8000000
namespace K01
open PySem PySem.Spec PyProof.Rows L2 Evl Bx
open Nx Rx Dx Ty
section
variable {P : Program} {w : World} {K : PySem.W.Frag} {mg : Str → Option Value} {base : Heap}
def sp_law (K : PySem.W.Frag) : Sp := fun vs H Q _ => ∃ (a : Addr) (ns : List Int), vs = [.ref a] ∧ SqL K H a (ns.map V.int) ∧ ns.length ≤ 63 ∧ ∀ H', Q (.bl true) H'
theorem ok_law (T : Tx K mg) : Gx.FnG P w K mg base CX0 6 T.a_law T.fd_law ["_law_script"] (sp_law K) := by
  refine Gx.okG T.F_law sc_law (fun vs H Q E h => ?_) (fun cdv A outer s H vs Q E gA hr h => ?_)
  · obtain ⟨_, _, rfl, _⟩ := h
    rfl
  · obtain ⟨a, ns, rfl, hS, hl, q⟩ := h
    refine ⟨_, (pss_cons (ps_for PassesOwn.never rfl (pi_range1 (by rfl) T.n_range (pa_cons pe_int pa_nil)) (pg_name (i := 1) sc_law.nd rfl (by first | exact Or.inl rfl | exact Or.inr rfl)) (pss_one (ps_if (pt_not (pt_val (Gx.pe_callG (ok__law_right T) (hr.mono (by decide)) gA (by rfl) T.g__law_right T.F__law_right.kp (b__law_right T) .nil pass0 (pa_cons (pe_call (ok__law_generator T) (hr.mono (by decide)) (by rfl) T.g__law_generator T.F__law_generator.kp (b__law_generator T) .nil pass0 (pa_cons (pv 0) (pa_cons (pv 1) pa_nil))) pa_nil)))) (pss_one (ps_ret pe_bl)) pss_nil))) (pss_one (ps_ret pe_bl))), ?_⟩
    refine ⟨3, rfl, by decide, by decide, for_range (lo := 0) (n := 3) (fun i σ H2 => ∃ y, σ = [some (.ref a), y] ∧ Ex H H2) ⟨none, rfl, Ex.refl H⟩ (fun i σ H2 hi hp => ?_) (fun σ H2 hp => ?_)⟩
    · obtain ⟨y, rfl, e2⟩ := hp
      have e0 : (0 : Int) + (i : Nat) = (i : Nat) := Int.zero_add _
      rw [e0]
      refine ⟨_, rfl, _, rfl, a, ns, i, rfl, ex_l e2 hS, by omega, fun g H3 e3 g0 g3 => ?_⟩
      refine ⟨g, 1000 * i, rfl, g3, by omega, fun H4 x4 _ => ⟨true, rfl, iteF ⟨_, rfl, fun b o hb => ?_⟩⟩⟩
      have h3 := e3 b o (e2 b o hb)
      exact x4 b o (fun z => by
        have := e2 b o hb
        rw [z] at this
        rw [this] at g0
        cases g0) h3
    · obtain ⟨y, rfl, e2⟩ := hp
      exact q _
end
theorem all_mk {l : PySem.W.OpenLaw} {w : World} {K : PySem.W.Frag} {h : Heap} {mg : Str → Option Value} {fa : Addr} {f_0 f_1 f_2 f_3 f_4 f_5 f_6 f_7 f_8 f_9 f_10 f_11 f_12 f_13 f_14 f_15 f_16 f_17 f_18 f_19 f_20 f_21 f_22 f_23 : Addr} (X : K.In h) (G : h.Ns mainGlobals mg) (hfa : mg "law" = some (.ref fa))
    {od_0 an_0 : Option Addr} {sl_0 : Array (Option Value)} {oc_0 kV_0 dc_0 pm_0 cd_0 ct_0 : Value}
    (p_0 : PySem.W.nsIn K mainGlobals "_law_hash" = some (some (.ref f_0))) (l_0 : K.lookup f_0 = some ⟨oc_0, od_0, .func (PySem.W.fnOf "_law_hash" "_law_hash" (defArgs s__law_hash) (defBody s__law_hash) (defScope s__law_hash) .none kV_0 dc_0 pm_0 an_0 cd_0 ct_0), sl_0⟩) (c_0 : PySem.W.codeIn K cd_0 "_law_hash" = true) (k_0 : PySem.W.keepIn K (.ref f_0) = true)
    {od_1 an_1 : Option Addr} {sl_1 : Array (Option Value)} {oc_1 kV_1 dc_1 pm_1 cd_1 ct_1 : Value}
    (p_1 : PySem.W.nsIn K mainGlobals "_law_random" = some (some (.ref f_1))) (l_1 : K.lookup f_1 = some ⟨oc_1, od_1, .func (PySem.W.fnOf "_law_random" "_law_random" (defArgs s__law_random) (defBody s__law_random) (defScope s__law_random) .none kV_1 dc_1 pm_1 an_1 cd_1 ct_1), sl_1⟩) (c_1 : PySem.W.codeIn K cd_1 "_law_random" = true) (k_1 : PySem.W.keepIn K (.ref f_1) = true)
    {od_2 an_2 : Option Addr} {sl_2 : Array (Option Value)} {oc_2 kV_2 dc_2 pm_2 cd_2 ct_2 : Value}
    (p_2 : PySem.W.nsIn K mainGlobals "_law_alphabet" = some (some (.ref f_2))) (l_2 : K.lookup f_2 = some ⟨oc_2, od_2, .func (PySem.W.fnOf "_law_alphabet" "_law_alphabet" (defArgs s__law_alphabet) (defBody s__law_alphabet) (defScope s__law_alphabet) .none kV_2 dc_2 pm_2 an_2 cd_2 ct_2), sl_2⟩) (c_2 : PySem.W.codeIn K cd_2 "_law_alphabet" = true) (k_2 : PySem.W.keepIn K (.ref f_2) = true)
    {od_3 an_3 : Option Addr} {sl_3 : Array (Option Value)} {oc_3 kV_3 dc_3 pm_3 cd_3 ct_3 : Value}
    (p_3 : PySem.W.nsIn K mainGlobals "_law_text" = some (some (.ref f_3))) (l_3 : K.lookup f_3 = some ⟨oc_3, od_3, .func (PySem.W.fnOf "_law_text" "_law_text" (defArgs s__law_text) (defBody s__law_text) (defScope s__law_text) .none kV_3 dc_3 pm_3 an_3 cd_3 ct_3), sl_3⟩) (c_3 : PySem.W.codeIn K cd_3 "_law_text" = true) (k_3 : PySem.W.keepIn K (.ref f_3) = true)
    {od_4 an_4 : Option Addr} {sl_4 : Array (Option Value)} {oc_4 kV_4 dc_4 pm_4 cd_4 ct_4 : Value}
    (p_4 : PySem.W.nsIn K mainGlobals "_law_readings" = some (some (.ref f_4))) (l_4 : K.lookup f_4 = some ⟨oc_4, od_4, .func (PySem.W.fnOf "_law_readings" "_law_readings" (defArgs s__law_readings) (defBody s__law_readings) (defScope s__law_readings) .none kV_4 dc_4 pm_4 an_4 cd_4 ct_4), sl_4⟩) (c_4 : PySem.W.codeIn K cd_4 "_law_readings" = true) (k_4 : PySem.W.keepIn K (.ref f_4) = true)
    {od_5 an_5 : Option Addr} {sl_5 : Array (Option Value)} {oc_5 kV_5 dc_5 pm_5 cd_5 ct_5 : Value}
    (p_5 : PySem.W.nsIn K mainGlobals "_law_bent" = some (some (.ref f_5))) (l_5 : K.lookup f_5 = some ⟨oc_5, od_5, .func (PySem.W.fnOf "_law_bent" "_law_bent" (defArgs s__law_bent) (defBody s__law_bent) (defScope s__law_bent) .none kV_5 dc_5 pm_5 an_5 cd_5 ct_5), sl_5⟩) (c_5 : PySem.W.codeIn K cd_5 "_law_bent" = true) (k_5 : PySem.W.keepIn K (.ref f_5) = true)
    {od_6 an_6 : Option Addr} {sl_6 : Array (Option Value)} {oc_6 kV_6 dc_6 pm_6 cd_6 ct_6 : Value}
    (p_6 : PySem.W.nsIn K mainGlobals "is_text" = some (some (.ref f_6))) (l_6 : K.lookup f_6 = some ⟨oc_6, od_6, .func (PySem.W.fnOf "is_text" "is_text" (defArgs s_is_text) (defBody s_is_text) (defScope s_is_text) .none kV_6 dc_6 pm_6 an_6 cd_6 ct_6), sl_6⟩) (c_6 : PySem.W.codeIn K cd_6 "is_text" = true) (k_6 : PySem.W.keepIn K (.ref f_6) = true)
    {od_7 an_7 : Option Addr} {sl_7 : Array (Option Value)} {oc_7 kV_7 dc_7 pm_7 cd_7 ct_7 : Value}
    (p_7 : PySem.W.nsIn K mainGlobals "need_word" = some (some (.ref f_7))) (l_7 : K.lookup f_7 = some ⟨oc_7, od_7, .func (PySem.W.fnOf "need_word" "need_word" (defArgs s_need_word) (defBody s_need_word) (defScope s_need_word) .none kV_7 dc_7 pm_7 an_7 cd_7 ct_7), sl_7⟩) (c_7 : PySem.W.codeIn K cd_7 "need_word" = true) (k_7 : PySem.W.keepIn K (.ref f_7) = true)
    {od_8 an_8 : Option Addr} {sl_8 : Array (Option Value)} {oc_8 kV_8 dc_8 pm_8 cd_8 ct_8 : Value}
    (p_8 : PySem.W.nsIn K mainGlobals "need_text" = some (some (.ref f_8))) (l_8 : K.lookup f_8 = some ⟨oc_8, od_8, .func (PySem.W.fnOf "need_text" "need_text" (defArgs s_need_text) (defBody s_need_text) (defScope s_need_text) .none kV_8 dc_8 pm_8 an_8 cd_8 ct_8), sl_8⟩) (c_8 : PySem.W.codeIn K cd_8 "need_text" = true) (k_8 : PySem.W.keepIn K (.ref f_8) = true)
    {od_9 an_9 : Option Addr} {sl_9 : Array (Option Value)} {oc_9 kV_9 dc_9 pm_9 cd_9 ct_9 : Value}
    (p_9 : PySem.W.nsIn K mainGlobals "count" = some (some (.ref f_9))) (l_9 : K.lookup f_9 = some ⟨oc_9, od_9, .func (PySem.W.fnOf "count" "count" (defArgs s_count) (defBody s_count) (defScope s_count) .none kV_9 dc_9 pm_9 an_9 cd_9 ct_9), sl_9⟩) (c_9 : PySem.W.codeIn K cd_9 "count" = true) (k_9 : PySem.W.keepIn K (.ref f_9) = true)
    {od_10 an_10 : Option Addr} {sl_10 : Array (Option Value)} {oc_10 kV_10 dc_10 pm_10 cd_10 ct_10 : Value}
    (p_10 : PySem.W.nsIn K mainGlobals "_end_counts" = some (some (.ref f_10))) (l_10 : K.lookup f_10 = some ⟨oc_10, od_10, .func (PySem.W.fnOf "_end_counts" "_end_counts" (defArgs s__end_counts) (defBody s__end_counts) (defScope s__end_counts) .none kV_10 dc_10 pm_10 an_10 cd_10 ct_10), sl_10⟩) (c_10 : PySem.W.codeIn K cd_10 "_end_counts" = true) (k_10 : PySem.W.keepIn K (.ref f_10) = true)
    {od_11 an_11 : Option Addr} {sl_11 : Array (Option Value)} {oc_11 kV_11 dc_11 pm_11 cd_11 ct_11 : Value}
    (p_11 : PySem.W.nsIn K mainGlobals "is_whole" = some (some (.ref f_11))) (l_11 : K.lookup f_11 = some ⟨oc_11, od_11, .func (PySem.W.fnOf "is_whole" "is_whole" (defArgs s_is_whole) (defBody s_is_whole) (defScope s_is_whole) .none kV_11 dc_11 pm_11 an_11 cd_11 ct_11), sl_11⟩) (c_11 : PySem.W.codeIn K cd_11 "is_whole" = true) (k_11 : PySem.W.keepIn K (.ref f_11) = true)
    {od_12 an_12 : Option Addr} {sl_12 : Array (Option Value)} {oc_12 kV_12 dc_12 pm_12 cd_12 ct_12 : Value}
    (p_12 : PySem.W.nsIn K mainGlobals "_reads" = some (some (.ref f_12))) (l_12 : K.lookup f_12 = some ⟨oc_12, od_12, .func (PySem.W.fnOf "_reads" "_reads" (defArgs s__reads) (defBody s__reads) (defScope s__reads) .none kV_12 dc_12 pm_12 an_12 cd_12 ct_12), sl_12⟩) (c_12 : PySem.W.codeIn K cd_12 "_reads" = true) (k_12 : PySem.W.keepIn K (.ref f_12) = true)
    {od_13 an_13 : Option Addr} {sl_13 : Array (Option Value)} {oc_13 kV_13 dc_13 pm_13 cd_13 ct_13 : Value}
    (p_13 : PySem.W.nsIn K mainGlobals "reading_number" = some (some (.ref f_13))) (l_13 : K.lookup f_13 = some ⟨oc_13, od_13, .func (PySem.W.fnOf "reading_number" "reading_number" (defArgs s_reading_number) (defBody s_reading_number) (defScope s_reading_number) .none kV_13 dc_13 pm_13 an_13 cd_13 ct_13), sl_13⟩) (c_13 : PySem.W.codeIn K cd_13 "reading_number" = true) (k_13 : PySem.W.keepIn K (.ref f_13) = true)
    {od_14 an_14 : Option Addr} {sl_14 : Array (Option Value)} {oc_14 kV_14 dc_14 pm_14 cd_14 ct_14 : Value}
    (p_14 : PySem.W.nsIn K mainGlobals "_law_yes" = some (some (.ref f_14))) (l_14 : K.lookup f_14 = some ⟨oc_14, od_14, .func (PySem.W.fnOf "_law_yes" "_law_yes" (defArgs s__law_yes) (defBody s__law_yes) (defScope s__law_yes) .none kV_14 dc_14 pm_14 an_14 cd_14 ct_14), sl_14⟩) (c_14 : PySem.W.codeIn K cd_14 "_law_yes" = true) (k_14 : PySem.W.keepIn K (.ref f_14) = true)
    {od_15 an_15 : Option Addr} {sl_15 : Array (Option Value)} {oc_15 kV_15 dc_15 pm_15 cd_15 ct_15 : Value}
    (p_15 : PySem.W.nsIn K mainGlobals "is_reading" = some (some (.ref f_15))) (l_15 : K.lookup f_15 = some ⟨oc_15, od_15, .func (PySem.W.fnOf "is_reading" "is_reading" (defArgs s_is_reading) (defBody s_is_reading) (defScope s_is_reading) .none kV_15 dc_15 pm_15 an_15 cd_15 ct_15), sl_15⟩) (c_15 : PySem.W.codeIn K cd_15 "is_reading" = true) (k_15 : PySem.W.keepIn K (.ref f_15) = true)
    {od_16 an_16 : Option Addr} {sl_16 : Array (Option Value)} {oc_16 kV_16 dc_16 pm_16 cd_16 ct_16 : Value}
    (p_16 : PySem.W.nsIn K mainGlobals "is_count" = some (some (.ref f_16))) (l_16 : K.lookup f_16 = some ⟨oc_16, od_16, .func (PySem.W.fnOf "is_count" "is_count" (defArgs s_is_count) (defBody s_is_count) (defScope s_is_count) .none kV_16 dc_16 pm_16 an_16 cd_16 ct_16), sl_16⟩) (c_16 : PySem.W.codeIn K cd_16 "is_count" = true) (k_16 : PySem.W.keepIn K (.ref f_16) = true)
    {od_17 an_17 : Option Addr} {sl_17 : Array (Option Value)} {oc_17 kV_17 dc_17 pm_17 cd_17 ct_17 : Value}
    (p_17 : PySem.W.nsIn K mainGlobals "reading" = some (some (.ref f_17))) (l_17 : K.lookup f_17 = some ⟨oc_17, od_17, .func (PySem.W.fnOf "reading" "reading" (defArgs s_reading) (defBody s_reading) (defScope s_reading) .none kV_17 dc_17 pm_17 an_17 cd_17 ct_17), sl_17⟩) (c_17 : PySem.W.codeIn K cd_17 "reading" = true) (k_17 : PySem.W.keepIn K (.ref f_17) = true)
    {od_18 an_18 : Option Addr} {sl_18 : Array (Option Value)} {oc_18 kV_18 dc_18 pm_18 cd_18 ct_18 : Value}
    (p_18 : PySem.W.nsIn K mainGlobals "_law_same_as" = some (some (.ref f_18))) (l_18 : K.lookup f_18 = some ⟨oc_18, od_18, .func (PySem.W.fnOf "_law_same_as" "_law_same_as" (defArgs s__law_same_as) (defBody s__law_same_as) (defScope s__law_same_as) .none kV_18 dc_18 pm_18 an_18 cd_18 ct_18), sl_18⟩) (c_18 : PySem.W.codeIn K cd_18 "_law_same_as" = true) (k_18 : PySem.W.keepIn K (.ref f_18) = true)
    {od_19 an_19 : Option Addr} {sl_19 : Array (Option Value)} {oc_19 kV_19 dc_19 pm_19 cd_19 ct_19 : Value}
    (p_19 : PySem.W.nsIn K mainGlobals "_law_pair_right" = some (some (.ref f_19))) (l_19 : K.lookup f_19 = some ⟨oc_19, od_19, .func (PySem.W.fnOf "_law_pair_right" "_law_pair_right" (defArgs s__law_pair_right) (defBody s__law_pair_right) (defScope s__law_pair_right) .none kV_19 dc_19 pm_19 an_19 cd_19 ct_19), sl_19⟩) (c_19 : PySem.W.codeIn K cd_19 "_law_pair_right" = true) (k_19 : PySem.W.keepIn K (.ref f_19) = true)
    {od_20 an_20 : Option Addr} {sl_20 : Array (Option Value)} {oc_20 kV_20 dc_20 pm_20 cd_20 ct_20 : Value}
    (p_20 : PySem.W.nsIn K mainGlobals "_law_right" = some (some (.ref f_20))) (l_20 : K.lookup f_20 = some ⟨oc_20, od_20, .func (PySem.W.fnOf "_law_right" "_law_right" (defArgs s__law_right) (defBody s__law_right) (defScope s__law_right) .none kV_20 dc_20 pm_20 an_20 cd_20 ct_20), sl_20⟩) (c_20 : PySem.W.codeIn K cd_20 "_law_right" = true) (k_20 : PySem.W.keepIn K (.ref f_20) = true)
    {od_21 an_21 : Option Addr} {sl_21 : Array (Option Value)} {oc_21 kV_21 dc_21 pm_21 cd_21 ct_21 : Value}
    (p_21 : PySem.W.nsIn K mainGlobals "_law_cell" = some (some (.ref f_21))) (l_21 : K.lookup f_21 = some ⟨oc_21, od_21, .func (PySem.W.fnOf "_law_cell" "_law_cell" (defArgs s__law_cell) (defBody s__law_cell) (defScope s__law_cell) .none kV_21 dc_21 pm_21 an_21 cd_21 ct_21), sl_21⟩) (c_21 : PySem.W.codeIn K cd_21 "_law_cell" = true) (k_21 : PySem.W.keepIn K (.ref f_21) = true)
    {od_22 an_22 : Option Addr} {sl_22 : Array (Option Value)} {oc_22 kV_22 dc_22 pm_22 cd_22 ct_22 : Value}
    (p_22 : PySem.W.nsIn K mainGlobals "_law_generator" = some (some (.ref f_22))) (l_22 : K.lookup f_22 = some ⟨oc_22, od_22, .func (PySem.W.fnOf "_law_generator" "_law_generator" (defArgs s__law_generator) (defBody s__law_generator) (defScope s__law_generator) .none kV_22 dc_22 pm_22 an_22 cd_22 ct_22), sl_22⟩) (c_22 : PySem.W.codeIn K cd_22 "_law_generator" = true) (k_22 : PySem.W.keepIn K (.ref f_22) = true)
    {od_23 an_23 : Option Addr} {sl_23 : Array (Option Value)} {oc_23 kV_23 dc_23 pm_23 cd_23 ct_23 : Value}
    (p_23 : PySem.W.nsIn K mainGlobals "law" = some (some (.ref f_23))) (l_23 : K.lookup f_23 = some ⟨oc_23, od_23, .func (PySem.W.fnOf "law" "law" (defArgs s_law) (defBody s_law) (defScope s_law) .none kV_23 dc_23 pm_23 an_23 cd_23 ct_23), sl_23⟩) (c_23 : PySem.W.codeIn K cd_23 "law" = true) (k_23 : PySem.W.keepIn K (.ref f_23) = true)
    (z_0 : PySem.W.nsIn K mainGlobals "int" = some none)
    (z_1 : PySem.W.nsIn K mainGlobals "range" = some none)
    (z_2 : PySem.W.nsIn K mainGlobals "len" = some none)
    (z_3 : PySem.W.nsIn K mainGlobals "sorted" = some none)
    (z_4 : PySem.W.nsIn K mainGlobals "list" = some none)
    (z_5 : PySem.W.nsIn K mainGlobals "str" = some none)
    (z_6 : PySem.W.nsIn K mainGlobals "isinstance" = some none)
    (z_7 : PySem.W.nsIn K mainGlobals "reversed" = some none)
    (z_8 : PySem.W.nsIn K mainGlobals "bool" = some none)
    (z_9 : PySem.W.nsIn K mainGlobals "zip" = some none)
    (z_10 : PySem.W.nsIn K mainGlobals "tuple" = some none)
    (z_11 : PySem.W.nsIn K mainGlobals "enumerate" = some none)
    (z_12 : PySem.W.nsIn K mainGlobals "repr" = some none)
    (z_13 : PySem.W.nsIn K mainGlobals "sum" = some none)
    (z_14 : PySem.W.nsIn K mainGlobals "max" = some none)
    : ∃ fd : FuncData, (∀ (s : Shared) (v : Value), BindsTo s fd ⟨[v], []⟩ [("_law_script", v)]) ∧ ∀ base : Heap, K.In base → base.Ns mainGlobals mg → Gx.FnG l.prog w K mg base CX0 6 fa fd ["_law_script"] (sp_law K) := by
  have e := hfa.symm.trans (PySem.W.mg_of X G p_23)
  cases e
  have F_0 := fun_mk (st := s__law_hash) l_0 c_0 k_0
  have F_1 := fun_mk (st := s__law_random) l_1 c_1 k_1
  have F_2 := fun_mk (st := s__law_alphabet) l_2 c_2 k_2
  have F_3 := fun_mk (st := s__law_text) l_3 c_3 k_3
  have F_4 := fun_mk (st := s__law_readings) l_4 c_4 k_4
  have F_5 := fun_mk (st := s__law_bent) l_5 c_5 k_5
  have F_6 := fun_mk (st := s_is_text) l_6 c_6 k_6
  have F_7 := fun_mk (st := s_need_word) l_7 c_7 k_7
  have F_8 := fun_mk (st := s_need_text) l_8 c_8 k_8
  have F_9 := fun_mk (st := s_count) l_9 c_9 k_9
  have F_10 := fun_mk (st := s__end_counts) l_10 c_10 k_10
  have F_11 := fun_mk (st := s_is_whole) l_11 c_11 k_11
  have F_12 := fun_mk (st := s__reads) l_12 c_12 k_12
  have F_13 := fun_mk (st := s_reading_number) l_13 c_13 k_13
  have F_14 := fun_mk (st := s__law_yes) l_14 c_14 k_14
  have F_15 := fun_mk (st := s_is_reading) l_15 c_15 k_15
  have F_16 := fun_mk (st := s_is_count) l_16 c_16 k_16
  have F_17 := fun_mk (st := s_reading) l_17 c_17 k_17
  have F_18 := fun_mk (st := s__law_same_as) l_18 c_18 k_18
  have F_19 := fun_mk (st := s__law_pair_right) l_19 c_19 k_19
  have F_20 := fun_mk (st := s__law_right) l_20 c_20 k_20
  have F_21 := fun_mk (st := s__law_cell) l_21 c_21 k_21
  have F_22 := fun_mk (st := s__law_generator) l_22 c_22 k_22
  have F_23 := fun_mk (st := s_law) l_23 c_23 k_23
  let T : Tx K mg := ⟨_, _, F_0, PySem.W.mg_of X G p_0, _, _, F_1, PySem.W.mg_of X G p_1, _, _, F_2, PySem.W.mg_of X G p_2, _, _, F_3, PySem.W.mg_of X G p_3, _, _, F_4, PySem.W.mg_of X G p_4, _, _, F_5, PySem.W.mg_of X G p_5, _, _, F_6, PySem.W.mg_of X G p_6, _, _, F_7, PySem.W.mg_of X G p_7, _, _, F_8, PySem.W.mg_of X G p_8, _, _, F_9, PySem.W.mg_of X G p_9, _, _, F_10, PySem.W.mg_of X G p_10, _, _, F_11, PySem.W.mg_of X G p_11, _, _, F_12, PySem.W.mg_of X G p_12, _, _, F_13, PySem.W.mg_of X G p_13, _, _, F_14, PySem.W.mg_of X G p_14, _, _, F_15, PySem.W.mg_of X G p_15, _, _, F_16, PySem.W.mg_of X G p_16, _, _, F_17, PySem.W.mg_of X G p_17, _, _, F_18, PySem.W.mg_of X G p_18, _, _, F_19, PySem.W.mg_of X G p_19, _, _, F_20, PySem.W.mg_of X G p_20, _, _, F_21, PySem.W.mg_of X G p_21, _, _, F_22, PySem.W.mg_of X G p_22, _, _, F_23, PySem.W.mg_of X G p_23, PySem.W.mg_none_of X G z_0, PySem.W.mg_none_of X G z_1, PySem.W.mg_none_of X G z_2, PySem.W.mg_none_of X G z_3, PySem.W.mg_none_of X G z_4, PySem.W.mg_none_of X G z_5, PySem.W.mg_none_of X G z_6, PySem.W.mg_none_of X G z_7, PySem.W.mg_none_of X G z_8, PySem.W.mg_none_of X G z_9, PySem.W.mg_none_of X G z_10, PySem.W.mg_none_of X G z_11, PySem.W.mg_none_of X G z_12, PySem.W.mg_none_of X G z_13, PySem.W.mg_none_of X G z_14⟩
  exact ⟨PySem.W.fnOf "law" "law" (defArgs s_law) (defBody s_law) (defScope s_law) .none kV_23 dc_23 pm_23 an_23 cd_23 ct_23, fun s v => .of_eq rfl, fun base _ _ => ok_law T⟩
end K01
open PySem PySem.W PyProof.Rows
set_option maxRecDepth 100000 in
set_option maxHeartbeats 0 in
theorem PySem.Challenge.cw_skipcounts_k01_whole_readings_numbered_holds : PySem.Challenge.rw_skipcounts_k01_whole_readings_numbered.Holds := by
  w_on; o_law; k_head; (case hw => w_witness2)
  k_fill
  refine Gx.walk_ofG (l := PySem.Challenge.rw_skipcounts_k01_whole_readings_numbered) (n := 63) (k := 6) (x := "_law_script") (sp := fun w => K01.sp_law _) rfl (by decide) rfl ⟨rfl, by decide, by decide⟩ (fun w h Y => PySem.W.kIn_of Y) ?F (fun _ _ a ns hl _ hS => ⟨a, ns, rfl, hS, hl, fun _ => rfl⟩)
  case F =>
    intro w mg fa h KX G hmg
    refine' K01.all_mk KX G hmg ?p_0 ?l_0 ?c_0 ?k_0 ?p_1 ?l_1 ?c_1 ?k_1 ?p_2 ?l_2 ?c_2 ?k_2 ?p_3 ?l_3 ?c_3 ?k_3 ?p_4 ?l_4 ?c_4 ?k_4 ?p_5 ?l_5 ?c_5 ?k_5 ?p_6 ?l_6 ?c_6 ?k_6 ?p_7 ?l_7 ?c_7 ?k_7 ?p_8 ?l_8 ?c_8 ?k_8 ?p_9 ?l_9 ?c_9 ?k_9 ?p_10 ?l_10 ?c_10 ?k_10 ?p_11 ?l_11 ?c_11 ?k_11 ?p_12 ?l_12 ?c_12 ?k_12 ?p_13 ?l_13 ?c_13 ?k_13 ?p_14 ?l_14 ?c_14 ?k_14 ?p_15 ?l_15 ?c_15 ?k_15 ?p_16 ?l_16 ?c_16 ?k_16 ?p_17 ?l_17 ?c_17 ?k_17 ?p_18 ?l_18 ?c_18 ?k_18 ?p_19 ?l_19 ?c_19 ?k_19 ?p_20 ?l_20 ?c_20 ?k_20 ?p_21 ?l_21 ?c_21 ?k_21 ?p_22 ?l_22 ?c_22 ?k_22 ?p_23 ?l_23 ?c_23 ?k_23 ?z_0 ?z_1 ?z_2 ?z_3 ?z_4 ?z_5 ?z_6 ?z_7 ?z_8 ?z_9 ?z_10 ?z_11 ?z_12 ?z_13 ?z_14
    (case p_0 => k_is)
    (case l_0 => k_is)
    (case c_0 => k_is)
    (case k_0 => k_is)
    (case p_1 => k_is)
    (case l_1 => k_is)
    (case c_1 => k_is)
    (case k_1 => k_is)
    (case p_2 => k_is)
    (case l_2 => k_is)
    (case c_2 => k_is)
    (case k_2 => k_is)
    (case p_3 => k_is)
    (case l_3 => k_is)
    (case c_3 => k_is)
    (case k_3 => k_is)
    (case p_4 => k_is)
    (case l_4 => k_is)
    (case c_4 => k_is)
    (case k_4 => k_is)
    (case p_5 => k_is)
    (case l_5 => k_is)
    (case c_5 => k_is)
    (case k_5 => k_is)
    (case p_6 => k_is)
    (case l_6 => k_is)
    (case c_6 => k_is)
    (case k_6 => k_is)
    (case p_7 => k_is)
    (case l_7 => k_is)
    (case c_7 => k_is)
    (case k_7 => k_is)
    (case p_8 => k_is)
    (case l_8 => k_is)
    (case c_8 => k_is)
    (case k_8 => k_is)
    (case p_9 => k_is)
    (case l_9 => k_is)
    (case c_9 => k_is)
    (case k_9 => k_is)
    (case p_10 => k_is)
    (case l_10 => k_is)
    (case c_10 => k_is)
    (case k_10 => k_is)
    (case p_11 => k_is)
    (case l_11 => k_is)
    (case c_11 => k_is)
    (case k_11 => k_is)
    (case p_12 => k_is)
    (case l_12 => k_is)
    (case c_12 => k_is)
    (case k_12 => k_is)
    (case p_13 => k_is)
    (case l_13 => k_is)
    (case c_13 => k_is)
    (case k_13 => k_is)
    (case p_14 => k_is)
    (case l_14 => k_is)
    (case c_14 => k_is)
    (case k_14 => k_is)
    (case p_15 => k_is)
    (case l_15 => k_is)
    (case c_15 => k_is)
    (case k_15 => k_is)
    (case p_16 => k_is)
    (case l_16 => k_is)
    (case c_16 => k_is)
    (case k_16 => k_is)
    (case p_17 => k_is)
    (case l_17 => k_is)
    (case c_17 => k_is)
    (case k_17 => k_is)
    (case p_18 => k_is)
    (case l_18 => k_is)
    (case c_18 => k_is)
    (case k_18 => k_is)
    (case p_19 => k_is)
    (case l_19 => k_is)
    (case c_19 => k_is)
    (case k_19 => k_is)
    (case p_20 => k_is)
    (case l_20 => k_is)
    (case c_20 => k_is)
    (case k_20 => k_is)
    (case p_21 => k_is)
    (case l_21 => k_is)
    (case c_21 => k_is)
    (case k_21 => k_is)
    (case p_22 => k_is)
    (case l_22 => k_is)
    (case c_22 => k_is)
    (case k_22 => k_is)
    (case p_23 => k_is)
    (case l_23 => k_is)
    (case c_23 => k_is)
    (case k_23 => k_is)
    (case z_0 => k_is)
    (case z_1 => k_is)
    (case z_2 => k_is)
    (case z_3 => k_is)
    (case z_4 => k_is)
    (case z_5 => k_is)
    (case z_6 => k_is)
    (case z_7 => k_is)
    (case z_8 => k_is)
    (case z_9 => k_is)
    (case z_10 => k_is)
    (case z_11 => k_is)
    (case z_12 => k_is)
    (case z_13 => k_is)
    (case z_14 => k_is)
