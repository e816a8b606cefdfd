/-
  Texts of one claim, joined.
-/
import Derived.Test.YtpbjianhkjjgkaaDoorYTS1
import Derived.Test.YtpbjianhkjjgkaaDoorYTS2
import Derived.Test.YtpbjianhkjjgkaaDoorYTS3
import Derived.Test.YtpbjianhkjjgkaaDoorYTS4
import Derived.Test.YtpbjianhkjjgkaaDoorYTS5
import Derived.Test.YtpbjianhkjjgkaaDoorZ04
import Derived.Test.YtpbjianhkjjgkaaDoorZ05
namespace Go.Proofs.YtpbjianhkjjgkaaDoor
open Go.RowKit

def sumTab : List Nat := [3474706476520054421, 10310301041295741765, 8759536997061466614, 8222182578602411219, 12528188767846803037, 17664118373302153085, 4507088644283084750, 740240737131802462, 15329795930348170438, 14185709599733982534, 1833855106602220800, 2543511482481722458, 17803077027563261380, 8558294864339399747, 9940519027711122921, 6511860741330629317, 2753745988519521023, 6993409478949810653, 1416366819609920396, 1091697485313275854, 14943819102157723030, 16749394469610670255, 7734194170971624562, 15175918694322789869, 1510999124567338456, 17717857236454975812, 15679608997510403858, 12517004917500617588, 6952152558597460909, 15640631174533577951, 15801659478299358885, 6629754916991995559, 11012500526920338672, 12979455166844538814, 8343824688036161609, 231127901461996150, 1109446885730528672, 9902850074806706553, 3218148509938144034, 12247090513896988194, 2299503382625695676, 3993435852222191619, 17770927405143327518, 16246771977325981161, 5915940560093884512, 7994260952657518997, 1686648684981322116, 14832961939504916805, 15333707600313645911, 15105320960170995494, 12983331454813303464, 5700102826554351587, 2775704667328282013, 14027394658534877755, 6914746699913826724, 9810942634004332121, 3081553040821325523, 4627701907112628769, 11864139094252863562, 9122191938179061884, 17012336682519472045, 18194511917119980482, 3130256690530944877, 16725068313105401657, 4168977049134591153, 14775212280678732468, 17300402656516095639, 2053430129493229526, 5868121088547019594, 14462763730456653883, 14496806488269585154, 3897680647934444870, 13189377471647438762, 17019499021612751127, 9533781796295945899, 9532829330372870756, 8756599426624579455, 3022541310195994093, 369332613222153092, 10156720784532176349, 2596960940459564324, 413028262973635304, 5900626442189521744, 11601981446586147806, 6859985758153226191, 12456947173158576309, 9562980608477047386, 525427435512323104, 5164591277449228604, 5397845746009307112, 14908821617543234015, 12723280423920136215, 11823674214412719660, 4749712688467631197, 9149579725403922985, 12254700149002463596, 12126277339875018019, 5118578125002178910, 12806892931157068, 11617492213114963200, 13823233288954034129, 8991815801164727360, 15754722220459056237, 13398330041485218896, 16999468546538096686, 4538519735826141450, 6447154942664066298, 7441399830164285361, 1325505772076203900, 8834385549817135511, 11122877167423966775, 10684144030344001741, 5745023823321022869, 1212776471570955852, 17948889019062402970, 177229101601884185, 5065494256586201616, 13712915050258953840, 5807894088347336684, 4474032931864047941, 17443752866785619569, 10315168383657422808, 18379346904671611296, 2341691613199122591, 10156224342853093938, 326942380734856313, 4974919253095199307, 10603308717271987523, 18035667850863376496, 1658855266359198704, 15412553368924015958, 9483254550346150838, 5934177765152367352, 9714966837816517730, 14864174027316169013, 8729425075265681417, 11111918266803849985, 9629479584103241903, 13388118866427926223, 11626582247727075085, 15533919548018098747, 11254235462501180553, 5264108671697577450, 6175604972761950882, 6763994772407743820, 8546229472947542172, 10287886101994271136, 14329581854381224596, 11603007461811989502, 6079319423935469110, 1606102216313969552, 6172112984479245191, 6562003960271881517, 8679459389856931146, 7332403439137384547, 7323575824894125494, 13532035424033215141, 9341769280140710328, 10128136109395410610, 13988698867773236609, 3002223716820466574, 5974419721992501011, 5019795480083975188, 1051874288988989335, 17920077055847857821, 18041707707129480001, 14468203133062399966, 12820055036252365475, 4547069510153132021, 8509514983316779755, 8871323653490603651, 16447195032095641160, 17104055160364082377, 7840859516642218804, 11880434892554328288, 8400169565167487082, 14749970090096236355, 2744831490842659316, 15444339270089492631, 16268291892959615835, 17501542574590141607, 1383671960250915336, 5643161668450668856, 10197448792128223043, 1501436282995908701, 12843107917765516535, 10461827337965217902, 3307805903286640854, 11849312210382921602, 10773345632200534806, 6510966220118113630, 149738218433791704, 9682276813049820069, 3696904174669292668, 14192029896272529374, 424275514463948862, 8102095178490067095, 6140631807969926317, 3402023838521595038, 3438806984491826742, 1247303105781073917, 15578176673126313459, 11275072588298544814, 15484669050261259862, 9829025929549401581, 17576295704553996751, 8411748966004939034, 14442275762294271115, 6224312759422617951, 2002605675975362711, 16280144398468660897, 17285411917021810977, 14375836897740342263, 10875423861970879427, 7147777837752845477, 7449187067766724034, 9974212766212460149, 8930403641977868231, 7946076593264027584, 8365595332824979410, 14770212358535985364, 8991735500466095983, 14007083765069085499, 13573913634392298716, 1327743868085676700, 6048667796783527443, 11820654180129737106, 16768803215396315212, 3620260034580922812, 11941581573629552392, 16594767842302445742, 13969079795834381804, 13570893426838392449, 3864211868414386956, 4191312665078096164, 5220049397787917069, 11632808626284248197, 14904561914151042729, 8292874717173199335, 342431610533531676, 7752287091250630719, 8593562930706497531, 8336467217538666538, 8698464984202325198, 628249791416486752, 18219306043404257674, 2099543424731994559, 2891551064039020439, 15609644978779654943, 1535371904127816273, 2006578971750971295, 15845774720232650088, 16463406883562081588, 2932007597048509496, 3191409614964084938, 10586080653474553858, 5165802104424383373, 2262750564694862895, 14608851666123661620, 11697297301359814890, 7325172631598444513, 15987750100567474171, 202673466197786449, 11487959760124308995, 14727193927708439813, 4654204471282673888, 5757729333880764358, 8239390456736356844, 17235377502810804027, 12177940228309775364, 204415894113847918, 11734490153168477372, 4055133264147455362, 2560839116453942762, 10391023305577228880, 16818671995009007510, 13723826614161456662, 2175982554428519842, 11489150354737429301, 4732676368920555725]
theorem range_cut : List.range 280 = List.range' 0 8 ++ List.range' 8 8 ++ List.range' 16 8 ++ List.range' 24 8 ++ List.range' 32 8 ++ List.range' 40 8 ++ List.range' 48 8 ++ List.range' 56 8 ++ List.range' 64 8 ++ List.range' 72 8 ++ List.range' 80 8 ++ List.range' 88 8 ++ List.range' 96 8 ++ List.range' 104 8 ++ List.range' 112 8 ++ List.range' 120 8 ++ List.range' 128 8 ++ List.range' 136 8 ++ List.range' 144 8 ++ List.range' 152 8 ++ List.range' 160 8 ++ List.range' 168 8 ++ List.range' 176 8 ++ List.range' 184 8 ++ List.range' 192 8 ++ List.range' 200 8 ++ List.range' 208 8 ++ List.range' 216 8 ++ List.range' 224 8 ++ List.range' 232 8 ++ List.range' 240 8 ++ List.range' 248 8 ++ List.range' 256 8 ++ List.range' 264 8 ++ List.range' 272 8 := by decide +kernel
set_option maxRecDepth 100000 in
theorem sums_tab : (List.range 280).map sumN = sumTab := by
  rw [range_cut]
  simp only [List.map_append, sums0, sums1, sums2, sums3, sums4, sums5, sums6, sums7, sums8, sums9, sums10, sums11, sums12, sums13, sums14, sums15, sums16, sums17, sums18, sums19, sums20, sums21, sums22, sums23, sums24, sums25, sums26, sums27, sums28, sums29, sums30, sums31, sums32, sums33, sums34]
  rfl
/-- Put into a rising list; none: it is there. -/
def insN (x : Nat) : List Nat → Option (List Nat)
  | [] => some [x]
  | y :: l => if x < y then some (x :: y :: l) else if x = y then none else (insN x l).map (y :: ·)
def apart : List Nat → Bool
  | [] => true
  | x :: l => l.all (fun y => !(Nat.beq x y)) && apart l
theorem apart_get : ∀ (l : List Nat), apart l = true → ∀ (i j : Nat) (x : Nat), l[i]? = some x → l[j]? = some x → i = j := by
  intro l
  induction l with
  | nil => intro _ i j x h; simp at h
  | cons y l ih =>
    intro h i j x hi hj
    unfold apart at h
    rw [Bool.and_eq_true, List.all_eq_true] at h
    obtain ⟨h1, h2⟩ := h
    have hne : ∀ z ∈ l, z ≠ y := fun z hz e => by
      have := h1 z hz
      rw [e] at this
      simp at this
    rcases i with _ | i
    · rcases j with _ | j
      · rfl
      · simp at hi hj
        exact absurd (List.mem_of_getElem? hj) (fun hm => hne x hm hi.symm)
    · rcases j with _ | j
      · simp at hi hj
        exact absurd (List.mem_of_getElem? hi) (fun hm => hne x hm hj.symm)
      · simp at hi hj
        rw [ih h2 i j x hi hj]
set_option maxRecDepth 100000 in
theorem tab_apart : apart sumTab = true := by decide +kernel
theorem sumN_inj {u v : Nat} (hu : u < 280) (hv : v < 280) (h : sumN u = sumN v) : u = v := by
  have e : ∀ k, k < 280 → sumTab[k]? = some (sumN k) := fun k hk => by
    rw [← sums_tab, List.getElem?_map, List.getElem?_range hk]
    rfl
  exact apart_get sumTab tab_apart u v (sumN u) (e u hu) (by rw [h]; exact e v hv)

end Go.Proofs.YtpbjianhkjjgkaaDoor

namespace Go.Proofs.YtpbjianhkjjgkaaDoor
open Go.RowKit

def keyOf (u : Nat) : ByteArray := ⟨(keyB u).toArray⟩
def sumOf (u : Nat) : ByteArray := ⟨(sha (keyB u)).toArray⟩
abbrev It := Nat × List UInt8
def bitU (u d : Nat) : Nat := bitF (sumOf u) (d : Int)
theorem keyOf_list (u : Nat) : (keyOf u).data.toList = keyB u := by simp [keyOf]
theorem sumOf_size (u : Nat) : (sumOf u).size = 32 := by
  show (sha (keyB u)).toArray.size = 32
  rw [List.size_toArray, sha_length]
theorem keyOf_size (u : Nat) : (keyOf u).size = 2 := by
  show (keyB u).toArray.size = 2
  rw [List.size_toArray]
  unfold keyB
  split <;> rfl
theorem bitF_lt2 (s : ByteArray) (i : Int) : bitF s i < 2 := by
  unfold bitF
  split
  · omega
  · exact Nat.mod_lt _ (by omega)
theorem bitU_01 (u d : Nat) : bitU u d = 0 ∨ bitU u d = 1 := by
  have := bitF_lt2 (sumOf u) (d : Int)
  unfold bitU
  omega

def Asc (m : List It) : Prop := m.Pairwise fun x y => x.1 < y.1
def putI : List It → Nat → List UInt8 → List It
  | [], k, l => [(k, l)]
  | x :: m, k, l => if x.1 < k then x :: putI m k l else if x.1 = k then (k, l) :: m else (k, l) :: x :: m
def delI (m : List It) (k : Nat) : List It := m.filter fun x => decide (x.1 ≠ k)
def halfI (m : List It) (d b : Nat) : List It := m.filter fun x => decide (bitU x.1 d = b)

theorem mem_put {m : List It} {k : Nat} {l : List UInt8} (h : Asc m) (x : It) : x ∈ putI m k l ↔ x = (k, l) ∨ (x ∈ m ∧ x.1 ≠ k) := by
  induction m with
  | nil => simp [putI]
  | cons y m ih =>
    obtain ⟨h1, h2⟩ := List.pairwise_cons.1 h
    unfold putI
    split
    · rw [List.mem_cons, ih h2, List.mem_cons]
      constructor
      · rintro (rfl | rfl | ⟨hm, hk⟩)
        · exact .inr ⟨.inl rfl, by omega⟩
        · exact .inl rfl
        · exact .inr ⟨.inr hm, hk⟩
      · rintro (rfl | ⟨rfl | hm, hk⟩)
        · exact .inr (.inl rfl)
        · exact .inl rfl
        · exact .inr (.inr ⟨hm, hk⟩)
    · split
      · rename_i hy hk
        rw [List.mem_cons, List.mem_cons]
        constructor
        · rintro (rfl | hm)
          · exact .inl rfl
          · exact .inr ⟨.inr hm, by have := h1 x hm; omega⟩
        · rintro (rfl | ⟨rfl | hm, hk'⟩)
          · exact .inl rfl
          · exact absurd hk hk'
          · exact .inr hm
      · rename_i hy hk
        rw [List.mem_cons, List.mem_cons]
        constructor
        · rintro (rfl | rfl | hm)
          · exact .inl rfl
          · exact .inr ⟨.inl rfl, by omega⟩
          · exact .inr ⟨.inr hm, by have := h1 x hm; omega⟩
        · rintro (rfl | ⟨hm, hk'⟩)
          · exact .inl rfl
          · exact .inr hm
theorem asc_put {m : List It} (k : Nat) (l : List UInt8) (h : Asc m) : Asc (putI m k l) := by
  induction m with
  | nil => exact List.pairwise_singleton _ _
  | cons y m ih =>
    obtain ⟨h1, h2⟩ := List.pairwise_cons.1 h
    unfold putI
    split
    · refine List.pairwise_cons.2 ⟨fun x hx => ?_, ih h2⟩
      rcases (mem_put h2 x).1 hx with rfl | ⟨hm, _⟩
      · assumption
      · exact h1 x hm
    · split
      · rename_i hy hk
        exact List.pairwise_cons.2 ⟨fun x hx => by have := h1 x hx; show k < x.1; omega, h2⟩
      · rename_i hy hk
        refine List.pairwise_cons.2 ⟨fun x hx => ?_, h⟩
        rcases List.mem_cons.1 hx with rfl | hx
        · show k < x.1
          omega
        · have := h1 x hx
          show k < x.1
          omega
theorem asc_del {m : List It} (k : Nat) (h : Asc m) : Asc (delI m k) := h.sublist List.filter_sublist
theorem asc_half {m : List It} (d b : Nat) (h : Asc m) : Asc (halfI m d b) := h.sublist List.filter_sublist
theorem asc_key {m : List It} (h : Asc m) {x y : It} (hx : x ∈ m) (hy : y ∈ m) (hk : x.1 = y.1) : x = y := by
  induction m with
  | nil => cases hx
  | cons z m ih =>
    obtain ⟨h1, h2⟩ := List.pairwise_cons.1 h
    rcases List.mem_cons.1 hx with rfl | hx'
    · rcases List.mem_cons.1 hy with rfl | hy'
      · rfl
      · have := h1 y hy'; omega
    · rcases List.mem_cons.1 hy with rfl | hy'
      · have := h1 x hx'; omega
      · exact ih h2 hx' hy'
/-- Two such lists of the same items are one. -/
theorem asc_ext {m r : List It} (hm : Asc m) (hr : Asc r) (h : ∀ x, x ∈ m ↔ x ∈ r) : m = r := by
  induction m generalizing r with
  | nil =>
    rcases r with _ | ⟨y, r⟩
    · rfl
    · have := (h y).2 (List.mem_cons_self ..)
      cases this
  | cons x m ih =>
    rcases r with _ | ⟨y, r⟩
    · have := (h x).1 (List.mem_cons_self ..)
      cases this
    · obtain ⟨h1, h2⟩ := List.pairwise_cons.1 hm
      obtain ⟨r1, r2⟩ := List.pairwise_cons.1 hr
      have e : x = y := by
        rcases List.mem_cons.1 ((h x).1 (List.mem_cons_self ..)) with e | hx
        · exact e
        · rcases List.mem_cons.1 ((h y).2 (List.mem_cons_self ..)) with e | hy
          · exact e.symm
          · have := h1 y hy
            have := r1 x hx
            omega
      subst e
      congr 1
      refine ih h2 r2 fun z => ?_
      constructor
      · intro hz
        rcases List.mem_cons.1 ((h z).1 (List.mem_cons_of_mem _ hz)) with e | hz'
        · have := h1 z hz
          rw [e] at this
          omega
        · exact hz'
      · intro hz
        rcases List.mem_cons.1 ((h z).2 (List.mem_cons_of_mem _ hz)) with e | hz'
        · have := r1 z hz
          rw [e] at this
          omega
        · exact hz'
theorem mem_half {m : List It} {d b : Nat} (x : It) : x ∈ halfI m d b ↔ x ∈ m ∧ bitU x.1 d = b := by
  unfold halfI
  rw [List.mem_filter, decide_eq_true_iff]
theorem mem_del {m : List It} {k : Nat} (x : It) : x ∈ delI m k ↔ x ∈ m ∧ x.1 ≠ k := by
  unfold delI
  rw [List.mem_filter, decide_eq_true_iff]
theorem half_put {m : List It} (h : Asc m) (k : Nat) (l : List UInt8) (d b : Nat) :
    halfI (putI m k l) d b = if bitU k d = b then putI (halfI m d b) k l else halfI m d b := by
  split
  · rename_i hb
    refine asc_ext (asc_half _ _ (asc_put _ _ h)) (asc_put _ _ (asc_half _ _ h)) fun x => ?_
    rw [mem_half, mem_put h, mem_put (asc_half _ _ h), mem_half]
    constructor
    · rintro ⟨rfl | ⟨h1, h2⟩, h3⟩
      · exact .inl rfl
      · exact .inr ⟨⟨h1, h3⟩, h2⟩
    · rintro (rfl | ⟨⟨h1, h3⟩, h2⟩)
      · exact ⟨.inl rfl, hb⟩
      · exact ⟨.inr ⟨h1, h2⟩, h3⟩
  · rename_i hb
    refine asc_ext (asc_half _ _ (asc_put _ _ h)) (asc_half _ _ h) fun x => ?_
    rw [mem_half, mem_put h, mem_half]
    constructor
    · rintro ⟨rfl | ⟨h1, h2⟩, h3⟩
      · exact absurd h3 hb
      · exact ⟨h1, h3⟩
    · rintro ⟨h1, h3⟩
      exact ⟨.inr ⟨h1, fun e => hb (by rw [← e]; exact h3)⟩, h3⟩
theorem half_del {m : List It} (h : Asc m) (k : Nat) (d b : Nat) :
    halfI (delI m k) d b = if bitU k d = b then delI (halfI m d b) k else halfI m d b := by
  split
  · rename_i hb
    refine asc_ext (asc_half _ _ (asc_del _ h)) (asc_del _ (asc_half _ _ h)) fun x => ?_
    rw [mem_half, mem_del, mem_del, mem_half]
    exact ⟨fun ⟨⟨a, b⟩, c⟩ => ⟨⟨a, c⟩, b⟩, fun ⟨⟨a, c⟩, b⟩ => ⟨⟨a, b⟩, c⟩⟩
  · rename_i hb
    refine asc_ext (asc_half _ _ (asc_del _ h)) (asc_half _ _ h) fun x => ?_
    rw [mem_half, mem_del, mem_half]
    exact ⟨fun ⟨⟨a, _⟩, c⟩ => ⟨a, c⟩, fun ⟨a, c⟩ => ⟨⟨a, fun e => hb (by rw [← e]; exact c)⟩, c⟩⟩
theorem half_count (m : List It) (d : Nat) : (halfI m d 0).length + (halfI m d 1).length = m.length := by
  induction m with
  | nil => rfl
  | cons x m ih =>
    unfold halfI at *
    rw [List.filter_cons, List.filter_cons, List.length_cons]
    rcases bitU_01 x.1 d with e | e
    · rw [e]
      simp
      omega
    · rw [e]
      simp
      omega

/-- A tree. -/
inductive Tr where
  | nil : Tr
  | leaf : Nat → List UInt8 → Tr
  | node : Tr → Tr → Nat → Tr
def Tr.dig : Tr → List UInt8
  | .nil => sha [0]
  | .leaf u l => sha (leafL (keyB u) l)
  | .node a b _ => sha (nodeL a.dig b.dig)
def Tr.cnt : Tr → Nat
  | .nil => 0
  | .leaf _ _ => 1
  | .node a b _ => a.cnt + b.cnt
theorem Tr.dig_len (t : Tr) : t.dig.length = 32 := by cases t <;> exact sha_length _

/-- The tree of items, at a depth ('f' bits are left). -/
def tree : Nat → List It → Nat → Tr
  | _, [], _ => .nil
  | 0, x :: _, _ => .leaf x.1 x.2
  | f + 1, x :: m, d => if m = [] then .leaf x.1 x.2 else .node (tree f (halfI (x :: m) d 0) (d + 1)) (tree f (halfI (x :: m) d 1) (d + 1)) d
theorem tree_nil (f d : Nat) : tree f [] d = .nil := by cases f <;> rfl
theorem tree_one (f d : Nat) (x : It) : tree f [x] d = .leaf x.1 x.2 := by cases f <;> simp [tree]
theorem tree_two {f d : Nat} {m : List It} (h : 2 ≤ m.length) : tree (f + 1) m d = .node (tree f (halfI m d 0) (d + 1)) (tree f (halfI m d 1) (d + 1)) d := by
  rcases m with _ | ⟨x, _ | ⟨y, m⟩⟩
  · simp at h
  · simp at h
  · simp [tree]

/-- Items of the laws' keys, in their order, whose sums agree in the first d bits. -/
structure Good (m : List It) (d : Nat) : Prop where
  asc : Asc m
  dom : ∀ x ∈ m, x.1 < 280
  agr : ∀ x ∈ m, ∀ y ∈ m, ∀ i, i < d → bitU x.1 i = bitU y.1 i
theorem Good.half {m : List It} {d : Nat} (h : Good m d) (b : Nat) : Good (halfI m d b) (d + 1) := by
  refine ⟨asc_half _ _ h.asc, fun x hx => h.dom x ((mem_half x).1 hx).1, fun x hx y hy i hi => ?_⟩
  obtain ⟨hx, bx⟩ := (mem_half x).1 hx
  obtain ⟨hy, by_⟩ := (mem_half y).1 hy
  by_cases e : i = d
  · rw [e, bx, by_]
  · exact h.agr x hx y hy i (by omega)
theorem Good.sub {m r : List It} {d : Nat} (h : Good m d) (hr : Asc r) (hs : ∀ x ∈ r, x ∈ m) : Good r d :=
  ⟨hr, fun x hx => h.dom x (hs x hx), fun x hx y hy i hi => h.agr x (hs x hx) y (hs y hy) i hi⟩
theorem Good.root {m : List It} (h : Asc m) (hd : ∀ x ∈ m, x.1 < 280) : Good m 0 := ⟨h, hd, fun _ _ _ _ _ hi => absurd hi (by omega)⟩

end Go.Proofs.YtpbjianhkjjgkaaDoor

namespace Go.Proofs.YtpbjianhkjjgkaaDoor
open Go.RowKit

theorem byte_bits {a b : UInt8} (h : ∀ r, r < 8 → a.toNat / 2 ^ (7 - r) % 2 = b.toNat / 2 ^ (7 - r) % 2) : a = b := by
  apply UInt8.toNat_inj.1
  apply Nat.eq_of_testBit_eq
  intro i
  by_cases hi : i < 8
  · have := h (7 - i) (by omega)
    rw [show 7 - (7 - i) = i by omega] at this
    rw [Nat.testBit_eq_decide_div_mod_eq, Nat.testBit_eq_decide_div_mod_eq, this]
  · have e : ∀ c : UInt8, c.toNat.testBit i = false := fun c => Nat.testBit_lt_two_pow (Nat.lt_of_lt_of_le (byte_lt c) (by
      have : 2 ^ 8 ≤ 2 ^ i := Nat.pow_le_pow_right (by omega) (by omega)
      omega))
    rw [e, e]
theorem bits_eq {s t : ByteArray} (hs : s.size = 32) (ht : t.size = 32) (h : ∀ i : Nat, i < 256 → bitF s (i : Int) = bitF t (i : Int)) : s = t := by
  have hl : s.data.toList = t.data.toList := by
    apply List.ext_getElem
    · simp [hs, ht]
    · intro j h1 h2
      have hj : j < 32 := by simpa [hs] using h1
      apply byte_bits
      intro r hr
      have := h (8 * j + r) (by omega)
      unfold bitF at this
      rw [if_neg (by omega), if_neg (by omega)] at this
      have e1 : ((8 * j + r : Nat) : Int).toNat / 8 = j := by omega
      have e2 : ((8 * j + r : Nat) : Int).toNat % 8 = r := by omega
      rw [e1, e2, List.getD_eq_getElem?_getD, List.getD_eq_getElem?_getD, List.getElem?_eq_getElem h1, List.getElem?_eq_getElem h2] at this
      exact this
  cases s
  cases t
  simp only [ByteArray.mk.injEq]
  exact Array.ext' hl
theorem sumOf_inj {u v : Nat} (hu : u < 280) (hv : v < 280) (h : sumOf u = sumOf v) : u = v := by
  refine sumN_inj hu hv ?_
  have : (sha (keyB u)).toArray = (sha (keyB v)).toArray := by
    unfold sumOf at h
    injection h
  have e : sha (keyB u) = sha (keyB v) := by
    have := congrArg Array.toList this
    simpa using this
  unfold sumN
  rw [e]
/-- Where there are two keys there is a bit left. -/
theorem Good.room {m : List It} {d : Nat} (h : Good m d) (h2 : 2 ≤ m.length) : d < 256 := by
  apply Nat.lt_of_not_le
  intro hd
  rcases m with _ | ⟨x, _ | ⟨y, m⟩⟩
  · simp at h2
  · simp at h2
  · have hx : x ∈ x :: y :: m := List.mem_cons_self ..
    have hy : y ∈ x :: y :: m := List.mem_cons_of_mem _ (List.mem_cons_self ..)
    have e : x.1 = y.1 := sumOf_inj (h.dom x hx) (h.dom y hy) (bits_eq (sumOf_size _) (sumOf_size _) fun i hi => h.agr x hx y hy i (by omega))
    have := (List.pairwise_cons.1 h.asc).1 y (List.mem_cons_self ..)
    omega

theorem tree_cnt : ∀ (f : Nat) (m : List It) (d : Nat), d + f = 256 → Good m d → (tree f m d).cnt = m.length := by
  intro f
  induction f with
  | zero =>
    intro m d hd h
    rcases m with _ | ⟨x, _ | ⟨y, m⟩⟩
    · rfl
    · rfl
    · have := h.room (by simp)
      omega
  | succ f ih =>
    intro m d hd h
    by_cases h2 : 2 ≤ m.length
    · rw [tree_two h2]
      show (tree f _ _).cnt + (tree f _ _).cnt = _
      rw [ih _ _ (by omega) (h.half 0), ih _ _ (by omega) (h.half 1)]
      exact half_count m d
    · rcases m with _ | ⟨x, _ | ⟨y, m⟩⟩
      · rfl
      · rw [tree_one]
        rfl
      · simp at h2
/-- A leaf, seen as the tree of its one item, has its halves, too. -/
theorem tree_half_one (f d b : Nat) (x : It) : tree f (halfI [x] d b) (d + 1) = if bitU x.1 d = b then .leaf x.1 x.2 else .nil := by
  unfold halfI
  rw [List.filter_cons, List.filter_nil]
  by_cases h : bitU x.1 d = b
  · rw [if_pos (by simpa using h), if_pos h, tree_one]
  · rw [if_neg (by simpa using h), if_neg h, tree_nil]
theorem put_two {m : List It} {k : Nat} {l : List UInt8} (h0 : m ≠ []) (h1 : ∀ x, m = [x] → x.1 ≠ k) : 2 ≤ (putI m k l).length := by
  rcases m with _ | ⟨x, _ | ⟨y, m⟩⟩
  · exact absurd rfl h0
  · have := h1 x rfl
    unfold putI
    split
    · simp [putI]
    · simp
  · have hl : ∀ r : List It, r.length ≤ (putI r k l).length := fun r => by
      induction r with
      | nil => simp [putI]
      | cons z r ih =>
        unfold putI
        split
        · simp
          exact ih
        · split
          · simp
          · simp
    have := hl (x :: y :: m)
    simp at this
    omega
theorem Good.put {m : List It} {d k : Nat} {l : List UInt8} (h : Good m d) (hk : k < 280) (ha : ∀ x ∈ m, ∀ i, i < d → bitU x.1 i = bitU k i) : Good (putI m k l) d := by
  refine ⟨asc_put k l h.asc, fun x hx => ?_, fun x hx y hy i hi => ?_⟩
  · rcases (mem_put h.asc x).1 hx with rfl | ⟨hm, _⟩
    · exact hk
    · exact h.dom x hm
  · rcases (mem_put h.asc x).1 hx with rfl | ⟨hm, _⟩
    · rcases (mem_put h.asc y).1 hy with rfl | ⟨hn, _⟩
      · rfl
      · exact (ha y hn i hi).symm
    · rcases (mem_put h.asc y).1 hy with rfl | ⟨hn, _⟩
      · exact ha x hm i hi
      · exact h.agr x hm y hn i hi
theorem del_len {m : List It} {x : It} (h : Asc m) (hx : x ∈ m) : (delI m x.1).length + 1 = m.length := by
  induction m with
  | nil => cases hx
  | cons y m ih =>
    obtain ⟨h1, h2⟩ := List.pairwise_cons.1 h
    unfold delI at *
    rw [List.filter_cons]
    by_cases e : y.1 = x.1
    · rw [if_neg (by simpa using e)]
      have : m.filter (fun z => decide (z.1 ≠ x.1)) = m := List.filter_eq_self.2 fun z hz => by
        have := h1 z hz
        simp
        omega
      rw [this]
      simp
    · rw [if_pos (by simpa using e)]
      rcases List.mem_cons.1 hx with rfl | hx
      · exact absurd rfl e
      · have := ih h2 hx
        simpa using this

end Go.Proofs.YtpbjianhkjjgkaaDoor
